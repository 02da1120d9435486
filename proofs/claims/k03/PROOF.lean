import PyProof.Rows.All
import Wide.All
import OpenK.AllK
import Wide.FinOn
import HandS.ForMost
import HandS.Wide
import HandS.TupAny
import HandS.ExcValue
import HandS.Style
import HandS.More
import HandS.Defaults
import HandS.EndBits
import HandS.Flow
import HandS.Zip
import HandS.Star
import HandS.StrMore
import HandS.Set
import HandS.SetTxt0
import HandS.IsInst
import HandS.ExcIs
import KE.KRevSl
import PyProof.Rows.SortShellAny
import HandS.RaiseMore
import HandS.Conv
import HandS.IsInst
import HandS.ExcIs
import KE.KRevSl
import PyProof.InstEq
import PySem.Challenge.RW_pageskips_k03_spans_told
set_option Elab.async false
set_option linter.all false
set_option maxRecDepth 100000
set_option maxHeartbeats 2000000
namespace Pg
open PySem PySem.Spec PyProof.Rows L2
/-! ### heaps: what a piece of the program keeps -/
/-- all that was tracked outside of S stands as it was; in S lists stay lists -/
structure Stp (S : List Addr) (H H' : Hp) : Prop where
  kp : ∀ a o, a ∉ S → H a = some o → H' a = some o
  ls : ∀ a xs, H a = some (.lst xs) → ∃ ys, H' a = some (.lst ys)
theorem Stp.refl (S : List Addr) (H : Hp) : Stp S H H := ⟨fun _ _ _ h => h, fun _ xs h => ⟨xs, h⟩⟩
theorem Stp.trans {S : List Addr} {H H1 H2 : Hp} (a : Stp S H H1) (b : Stp S H1 H2) : Stp S H H2 :=
  ⟨fun x o n h => b.kp x o n (a.kp x o n h), fun x xs h => by
    obtain ⟨ys, h1⟩ := a.ls x xs h
    exact b.ls x ys h1⟩
theorem Stp.sub {S S' : List Addr} {H H' : Hp} (a : Stp S H H') (h : ∀ x ∈ S, x ∈ S') : Stp S' H H' :=
  ⟨fun x o n q => a.kp x o (fun m => n (h x m)) q, a.ls⟩
theorem Stp.nil {S : List Addr} {H H' : Hp} (a : Stp [] H H') : Stp S H H' := a.sub fun _ h => nomatch h
theorem Stp.new {H : Hp} {p : Addr} {o : HO} (h : H p = none) (S : List Addr) : Stp S H (upd H p o) :=
  ⟨fun x u _ q => by rw [upd_ne (ne_of_none q h)]; exact q, fun x xs q => ⟨xs, by rw [upd_ne (ne_of_none q h)]; exact q⟩⟩
theorem Stp.put {S : List Addr} {H : Hp} {p : Addr} {ys : List V} (m : p ∈ S) : Stp S H (upd H p (.lst ys)) :=
  ⟨fun x u n q => by
    rw [upd_ne (fun e => n (by rw [e]; exact m))]
    exact q, fun x xs q => by
    by_cases e : x = p
    · subst e
      exact ⟨ys, upd_same⟩
    · exact ⟨xs, by rw [upd_ne e]; exact q⟩⟩
/-- a local object: it was not there -/
theorem Stp.loc {S : List Addr} {H H' : Hp} {p : Addr} (h : H p = none) (a : Stp (p :: S) H H') : Stp S H H' :=
  ⟨fun x o n q => a.kp x o (fun m => by
    rcases List.mem_cons.mp m with e | m
    · exact ne_of_none q h e
    · exact n m) q, a.ls⟩
theorem Stp.fresh {S : List Addr} {H H' : Hp} {p : Addr} (a : Stp S H H') (n : p ∉ S) (h : H' p = none) : H p = none := by
  cases e : H p with
  | none => rfl
  | some o =>
    rw [a.kp p o n e] at h
    cases h
/-- a list that was not there is changed -/
theorem Stp.mut {S : List Addr} {H H' : Hp} {p : Addr} {ys : List V} (a : Stp S H H') (h : H p = none) : Stp S H (upd H' p (.lst ys)) :=
  ⟨fun x o n q => by
    rw [upd_ne (ne_of_none q h)]
    exact a.kp x o n q, fun x xs q => by
    rw [upd_ne (ne_of_none q h)]
    exact a.ls x xs q⟩
theorem Stp.put' {S : List Addr} {H H' : Hp} {p : Addr} {ys : List V} (a : Stp S H H') (m : p ∈ S) : Stp S H (upd H' p (.lst ys)) := a.trans (Stp.put m)
theorem Stp.new' {S : List Addr} {H H' : Hp} {p : Addr} {o : HO} (a : Stp S H H') (h : H' p = none) : Stp S H (upd H' p o) := a.trans (Stp.new h S)
/-- only the list at p may differ -/
def Only (p : Addr) (H H' : Hp) : Prop := ∃ ys, H' = upd H p (.lst ys)
theorem Only.at {p q : Addr} {H H' : Hp} {o : HO} (h : Only p H H') (e : H q = some o) (n : q ≠ p) : H' q = some o := by
  obtain ⟨ys, rfl⟩ := h
  rw [upd_ne n]
  exact e
theorem Only.stp {p : Addr} {H H' : Hp} {S : List Addr} (h : Only p H H') (m : p ∈ S) : Stp S H H' := by
  obtain ⟨ys, rfl⟩ := h
  exact Stp.put m

/-! ### the draws -/
def BagV (x y z : Int) (n : Nat) : Prop := 0 ≤ x ∧ 0 ≤ y ∧ y < 2 ^ 40 ∧ 0 ≤ z ∧ z ≤ (n : Int)
/-- a bag stands at b, from which at most n draws have been made -/
def Bag (H : Hp) (b : Addr) (n : Nat) : Prop := ∃ x y z, H b = some (.lst [.int x, .int y, .int z]) ∧ BagV x y z n
theorem Bag.mono {H : Hp} {b : Addr} {n m : Nat} (h : Bag H b n) (e : n ≤ m) : Bag H b m := by
  obtain ⟨x, y, z, h1, h2, h3, h4, h5, h6⟩ := h
  exact ⟨x, y, z, h1, h2, h3, h4, h5, by omega⟩
theorem Bag.kp {H H' : Hp} {b : Addr} {n : Nat} {S : List Addr} (h : Bag H b n) (s : Stp S H H') (m : b ∉ S) : Bag H' b n := by
  obtain ⟨x, y, z, h1, h2⟩ := h
  exact ⟨x, y, z, s.kp _ _ m h1, h2⟩
theorem Bag.upd {H : Hp} {b p : Addr} {n : Nat} {o : HO} (h : Bag H b n) (e : b ≠ p) : Bag (L2.upd H p o) b n := by
  obtain ⟨x, y, z, h1, h2⟩ := h
  exact ⟨x, y, z, by rw [upd_ne e]; exact h1, h2⟩
theorem Bag.ne {H : Hp} {b p : Addr} {n : Nat} (h : Bag H b n) (q : H p = none) : b ≠ p := by
  obtain ⟨x, y, z, h1, h2⟩ := h
  exact ne_of_none h1 q
theorem cmul {i j : Int} (a b : Nat) (h1 : 0 ≤ i) (h2 : i < 2 ^ a) (h3 : 0 ≤ j) (h4 : j < 2 ^ b) (ha : 0 < a) (hb : 0 < b) (h : a + b ≤ 1000000) : CMulW i j := by
  refine wide_mul (a := a) (b := b) ?_ ?_ ha hb h
  · have e : ((i.natAbs : Nat) : Int) < ((2 ^ a : Nat) : Int) := by
      rw [Int.natAbs_of_nonneg h1, Int.natCast_pow]
      exact h2
    exact Int.ofNat_lt.mp e
  · have e : ((j.natAbs : Nat) : Int) < ((2 ^ b : Nat) : Int) := by
      rw [Int.natAbs_of_nonneg h3, Int.natCast_pow]
      exact h4
    exact Int.ofNat_lt.mp e
theorem cdiv {i j : Int} (b : Nat) (h1 : 0 < j) (h2 : j < 2 ^ b) (hb : 0 < b) (h9 : b ≤ 9000) : CDivW i j := by
  refine wide_div (b := b) h1 ?_ hb h9
  have e : ((j.natAbs : Nat) : Int) < ((2 ^ b : Nat) : Int) := by
    rw [Int.natAbs_of_nonneg (by omega), Int.natCast_pow]
    exact h2
  exact Int.ofNat_lt.mp e
theorem mul_lt {i j : Int} {a b : Nat} (h1 : 0 ≤ i) (h2 : i < 2 ^ a) (h3 : 0 ≤ j) (h4 : j < 2 ^ b) : 0 ≤ i * j ∧ i * j < 2 ^ (a + b) := by
  refine ⟨Int.mul_nonneg h1 h3, ?_⟩
  have e1 : i * j ≤ i * 2 ^ b := Int.mul_le_mul_of_nonneg_left (Int.le_of_lt h4) h1
  have hp : (0 : Int) < 2 ^ b := Int.pow_pos (by omega)
  have e2 : i * 2 ^ b < 2 ^ a * 2 ^ b := Int.mul_lt_mul_of_pos_right h2 hp
  rw [Int.pow_add]
  omega
/-- a letter for a number -/
theorem genQ {Q : V → Hp → Prop} {H : Hp} {i : Int} (h : ∀ t, t = i → Q (.int t) H) : Q (.int i) H := h i rfl
/-! ### rules of my own -/
section
variable {X : Cx}
/-- 'a' * n -/
theorem op_mul_str : OpR X (binaryOp .Mult) (fun x y H Q => ∃ i j, x = .str i ∧ y = .int j ∧ MulOk i j ∧ Q (.str (Txt.mul i j)) H) := by
  intro pins s σ H x y v u Q I rx ry h
  obtain ⟨i, j, rfl, rfl, hz, q⟩ := h
  obtain ⟨t, rfl⟩ := rx
  obtain ⟨t', rfl⟩ := ry
  exact SB.mul hz (fun t' k => ⟨.str (Txt.mul i j), H, I.tok _, ⟨_, rfl⟩, q⟩)
end
end Pg
namespace Pg
open PySem PySem.Spec PyProof.Rows L2
/-! ### a def of the text: where it stands, what it keeps -/
/-- a def of the text, found by its name -/
structure Df (K : PySem.W.Frag) (mg : Str → Option Value) (x : Str) (st : Stmt) (ps : List Str) (f : Addr) (fd : FuncData) : Prop where
  fn : Fun K x x st f fd
  at_ : mg x = some (.ref f)
  bd : Binds K fd ps []
/-- .. with its promise -/
structure Cl (P : Program) (w : World) (K : PySem.W.Frag) (mg : Str → Option Value) (base : Heap) (k : Nat) (x : Str) (st : Stmt) (ps : List Str) (sp : Sp) : Prop where
  ex : ∃ f fd, Df K mg x st ps f fd ∧ FnOk P w K mg base CX0 k f fd ps sp
theorem Cl.mono {P : Program} {w : World} {K : PySem.W.Frag} {mg : Str → Option Value} {base : Heap} {j k : Nat} {x : Str} {st : Stmt} {ps : List Str} {sp : Sp} (c : Cl P w K mg base j x st ps sp) (h : j ≤ k) : Cl P w K mg base k x st ps sp := by
  obtain ⟨f, fd, D, F⟩ := c.ex
  exact ⟨f, fd, D, F.mono h⟩
theorem Df.cl {P : Program} {w : World} {K : PySem.W.Frag} {mg : Str → Option Value} {base : Heap} {x : Str} {st : Stmt} {f : Addr} {fd : FuncData} {N ps : List Str} {k : Nat} {sp : Sp} (D : Df K mg x st ps f fd) (S : FnScope N ps (defScope st)) (len : ∀ vs H Q E, sp vs H Q E → vs.length = ps.length)
    (hbody : ∀ (cdv : Value) (A : Around) (outer : List Env) (s : Shared) (H : Hp) (vs : List V) (Q : VK) (E : XK), Room k (A.deeper (envOfC x (defScope st) s.heap.objs.size f cdv)) → sp vs H Q E →
      ∃ t, PSs (cxOf CX0 P w K mg base N x (defScope st) f cdv A outer s H E).nox (defBody st) t ∧ t { nx := fun _ H' => Q .non H', rt := Q } (start N vs) H) : Cl P w K mg base (k + 1) x st ps sp :=
  ⟨f, fd, D, D.fn.ok S len hbody⟩
def tCl (sp : Sp) (t : TA) : TE := fun σ H Q => t σ H fun vs H1 => sp vs H1 Q E0
section
variable {X : Cx} {j k : Nat} {st : Stmt} {ps : List Str} {sp : Sp} {x : Str} {p pos : Pos} {e : Expr} {es : List Expr} {t : TA}
theorem pe_cl (c : Cl X.prog X.w X.K X.mg X.base k x st ps sp) (hr : Room j X.A) (hk : k ≤ j) (ha : PA X (e :: es) t) (hg : Gl X x := by rfl) (hdb : (x == ("__debug__" : Str)) = false := by decide)
    (he : starEach (e :: es) X.env = (false, eval e X.env) :: starEach es X.env := by rfl) (hpl : (backTo pos (starEach es X.env)).any (·.1) = false := by rfl) :
    PE X (.Call (.Name x p) (e :: es) [] pos) (tCl sp t) := by
  obtain ⟨f, fd, D, F⟩ := c.ex
  refine ⟨fun pins s σ H Q I h => ?_⟩
  have q := (pe_call (E := E0) (p := p) (F.mono hk) hr hg D.at_ D.fn.kp D.bd .nil pass0 ha hdb he hpl).run pins s σ H Q I
  refine q ?_
  have h' : t σ H (fun vs H1 => sp vs H1 Q E0) := h
  show t σ H fun vs H1 => sp (vs ++ []) H1 Q E0
  simp only [List.append_nil]
  exact h'
theorem pe_cl0 (c : Cl X.prog X.w X.K X.mg X.base k x st ps sp) (hr : Room j X.A) (hk : k ≤ j) (hg : Gl X x := by rfl) (hdb : (x == ("__debug__" : Str)) = false := by decide) :
    PE X (.Call (.Name x p) [] [] pos) (tCl sp tNil) := by
  obtain ⟨f, fd, D, F⟩ := c.ex
  exact pe_call0 (E := E0) (F.mono hk) hr hg D.at_ D.fn.kp D.bd .nil pass0 hdb
/-- f(k = v, ..) -/
def tClK (sp : Sp) (gV : List V → List V → List V) (tk : TA) : TE := fun σ H Q => tk σ H fun zs H1 => sp (gV [] zs) H1 Q E0
theorem pe_clK {ks : List Str} {g : List Value → List Value → List Value} {gV : List V → List V → List V} {kws : List Keyword} {tk : TA} (c : Cl X.prog X.w X.K X.mg X.base k x st ps sp) (hr : Room j X.A) (hk : k ≤ j)
    (hb : ∀ f fd, Fun X.K x x st f fd → KBinds X.K fd ps ks g gV) (hkw : PK X kws tk)
    (hg : Gl X x := by rfl) (hall : (backToKw pos (keywordEach kws X.env)).all (·.1.isSome) = true := by rfl) (hks : (backToKw pos (keywordEach kws X.env)).filterMap (·.1) = ks := by rfl) (hdb : (x == ("__debug__" : Str)) = false := by decide)
    (hpl : ((backTo pos (starEach [] X.env)).any (·.1) || (backToKw pos (keywordEach kws X.env)).any (·.1.isNone)) = false := by rfl) :
    PE X (.Call (.Name x p) [] kws pos) (tClK sp gV tk) := by
  obtain ⟨f, fd, D, F⟩ := c.ex
  refine ⟨fun pins s σ H Q I h => ?_⟩
  refine wpAny_Call_Name_kw (ld_glob I hg D.at_ ?_ hdb)
  refine PySem.W.callWith_KW0 (h₀ := X.base) I.ok.mod.kin D.fn.kp hall ?_ hpl
  refine thn (hkw.run pos pins s σ H _ I h) fun ws s2 ⟨zs, H2, I2, rz, q2⟩ => ⟨I2.kIn, ?_⟩
  rw [hks]
  exact run_fnk (E := E0) (us := []) (vs := []) (F.mono hk) hr (hb f fd D.fn) pass0 I2 .nil rz q2
end
/-- keywords alone, in an order of their own -/
theorem kb_of {K : PySem.W.Frag} {x : Str} {st : Stmt} {f : Addr} {fd : FuncData} {ps ks : List Str} {g : List Value → List Value} {gV : List V → List V} (F : Fun K x x st f fd) (hne : ps ≠ [])
    (h : ∀ (kV doc pm : Value) (an : Option Addr) (cdv ct : Value) (ws : List Value), (g ws).length = ps.length → bindArgs (PySem.W.fnOf x x (defArgs st) (defBody st) (defScope st) .none kV doc pm an cdv ct) ⟨[], ks.zip ws⟩ = pure (ps.zip (g ws)))
    (r : ∀ {zs : List V} {ws : List Value}, Vals zs ws → Vals (gV zs) (g ws)) : KBinds K fd ps ks (fun us ws => match us with | [] => g ws | _ :: _ => []) (fun vs zs => match vs with | [] => gV zs | _ :: _ => []) := by
  obtain ⟨oc, od, kV, doc, pm, an, cdv, ct, osl, rfl, lk, hcd⟩ := F.ex
  refine ⟨fun s us ws _ hl => ?_, fun {vs us zs ws} r1 r2 => ?_⟩
  · cases us with
    | nil => exact .of_eq (h kV doc pm an cdv ct ws hl)
    | cons u us => exact absurd (List.length_eq_zero_iff.mp hl.symm) hne
  · cases r1 with
    | nil => exact r r2
    | cons _ _ => exact .nil
end Pg
namespace Pg
open PySem PySem.Spec PyProof.Rows L2
open Builtin Builtin.Str
/-! ### texts as lists of letters -/
/-- the text of these signs -/
abbrev tx (l : List Nat) : Str := ⟨l.toArray⟩
abbrev Tx (l : List Nat) : V := .str (tx l)
/-- letters a, b, c alone -/
def Abc (l : List Nat) : Prop := ∀ c ∈ l, c = 97 ∨ c = 98 ∨ c = 99
theorem tx_inj {a b : List Nat} (h : tx a = tx b) : a = b := by
  have q : (tx a).cps.toList = (tx b).cps.toList := by rw [h]
  simpa using q
theorem tx_of (s : Str) : ∃ l, s = tx l := ⟨s.cps.toList, by cases s; simp [tx]⟩
theorem tx_len (l : List Nat) : (tx l).length = l.length := by simp [Str.length]
theorem tx_app (a b : List Nat) : tx a ++ tx b = tx (a ++ b) := by
  show (⟨a.toArray ++ b.toArray⟩ : Str) = _
  simp [tx]
theorem tx_cut (l : List Nat) (lo hi : Option Int) : cutS (tx l) lo hi = tx ((l.drop (HT.sIx l.length 0 lo)).take (HT.sIx l.length l.length hi - HT.sIx l.length 0 lo)) := by
  unfold cutS
  rw [tx_len]
theorem tx_upto (l : List Nat) (k : Nat) : cutS (tx l) none (some (k : Int)) = tx (l.take k) := by
  rw [tx_cut, HT.sIx_none, HT.sIx_nat]
  rw [List.drop_zero, Nat.sub_zero]
  rcases Nat.le_total k l.length with h | h
  · rw [Nat.min_eq_left h]
  · rw [Nat.min_eq_right h, List.take_of_length_le (Nat.le_refl _), List.take_of_length_le h]
theorem tx_init (l : List Nat) : cutS (tx l) none (some (-1)) = tx l.dropLast := by
  rw [tx_cut, HT.sIx_none]
  have e : HT.sIx l.length l.length (some (-1)) = l.length - 1 := by
    show (if (-1 : Int) < 0 then ((-1 : Int) + (l.length : Int)).toNat else min (-1 : Int).toNat l.length) = _
    rw [if_pos (by decide)]
    omega
  rw [e, List.drop_zero, Nat.sub_zero, ← List.dropLast_eq_take]
theorem tx_last (l : List Nat) : cutS (tx l) (some (-1)) none = tx (l.drop (l.length - 1)) := by
  rw [tx_cut, HT.sIx_none]
  have e : HT.sIx l.length 0 (some (-1)) = l.length - 1 := by
    show (if (-1 : Int) < 0 then ((-1 : Int) + (l.length : Int)).toNat else min (-1 : Int).toNat l.length) = _
    rw [if_pos (by decide)]
    omega
  rw [e]
  congr 2
  rw [List.take_of_length_le]
  rw [List.length_drop]
  exact Nat.le_refl _
theorem foldl_app_rep {α : Type} (c : α) : ∀ (n : Nat) (acc : Array α), (List.replicate n #[c]).foldl (· ++ ·) acc = acc ++ (List.replicate n c).toArray
  | 0, acc => by simp
  | n + 1, acc => by
    rw [List.replicate_succ, List.foldl_cons, foldl_app_rep c n, List.replicate_succ]
    apply Array.ext'
    simp
theorem tx_mul (c : Nat) (n : Int) : Txt.mul (tx [c]) n = tx (List.replicate n.toNat c) := by
  unfold Txt.mul
  by_cases h : n < 1
  · rw [if_pos h, show n.toNat = 0 by omega]
    rfl
  · rw [if_neg h]
    by_cases h1 : n = 1
    · subst h1
      rfl
    · rw [if_neg (by simp [h1, Str.length])]
      show (⟨(List.replicate n.toNat #[c]).foldl (· ++ ·) #[]⟩ : Str) = _
      rw [foldl_app_rep]
      simp [tx]
theorem mulOk (c : Nat) {n : Int} (h0 : -1000 ≤ n) (h1 : n ≤ 100000) : MulOk (tx [c]) n := by
  refine ⟨by simp; omega, fun a b q => ?_, fun a b => ?_⟩
  · rw [tx_len] at q
    have e : (1 : Int) ≤ (2 ^ 63 - 1) / n := by
      have hp : 0 < n := by omega
      exact (Int.le_ediv_iff_mul_le hp).mpr (by omega)
    have q' : (([c].length : Nat) : Int) = 1 := rfl
    rw [q'] at q
    have e2 : (1 : Int) > (2 ^ 63 - 1) / n := q
    exact absurd e (by omega)
  · rw [tx_len]
    have e : ([c].length * n.toNat) ≤ sizeLine := Nat.le_trans (show [c].length * n.toNat ≤ 100000 by simp; omega) (by decide)
    unfold tooLong
    simpa using e
theorem foldl_app {α : Type} : ∀ (ps : List (List α)) (acc : Array α), (ps.map List.toArray).foldl (fun a p => a ++ p) acc = acc ++ ps.flatten.toArray
  | [], acc => by simp
  | p :: ps, acc => by
    rw [List.map_cons, List.foldl_cons, foldl_app ps, List.flatten_cons]
    apply Array.ext'
    simp
theorem join_abc (cs : List Nat) : Txt.join (tx []) (cs.map fun c => tx [c]) = tx cs := by
  cases cs with
  | nil => rfl
  | cons c cs =>
    show (⟨((cs.map fun c => tx [c])).foldl (fun acc p => acc ++ (tx []).cps ++ p.cps) (tx [c]).cps⟩ : Str) = _
    have e : ∀ (l : List Nat) (acc : Array Nat), (l.map fun c => tx [c]).foldl (fun acc p => acc ++ (tx []).cps ++ p.cps) acc = acc ++ l.toArray := by
      intro l
      induction l with
      | nil => intro acc; simp
      | cons x l ih =>
        intro acc
        rw [List.map_cons, List.foldl_cons, ih]
        apply Array.ext'
        simp
    rw [e]
    simp [tx]
theorem Abc.nil : Abc [] := fun _ h => nomatch h
theorem Abc.app {a b : List Nat} (h : Abc a) (g : Abc b) : Abc (a ++ b) := fun c m => (List.mem_append.mp m).elim (h c) (g c)
theorem Abc.take {a : List Nat} (h : Abc a) (n : Nat) : Abc (a.take n) := fun c m => h c (List.mem_of_mem_take m)
theorem Abc.drop {a : List Nat} (h : Abc a) (n : Nat) : Abc (a.drop n) := fun c m => h c (List.mem_of_mem_drop m)
theorem Abc.init {a : List Nat} (h : Abc a) : Abc a.dropLast := fun c m => h c (List.dropLast_subset _ m)
theorem Abc.rep (n : Nat) {c : Nat} (h : c = 97 ∨ c = 98 ∨ c = 99) : Abc (List.replicate n c) := fun x m => by
  rw [(List.mem_replicate.mp m).2]
  exact h
theorem Abc.one {c : Nat} (h : c = 97 ∨ c = 98 ∨ c = 99) : Abc [c] := fun x m => by
  rw [List.mem_singleton.mp m]
  exact h
theorem abc_lit : ("abc" : Str) = tx [97, 98, 99] := by decide +kernel
theorem nil_lit : ("" : Str) = tx [] := by decide +kernel
theorem goes_abc (c : Nat) : (tx [97, 98, 99]).cps.contains c = true ↔ (c = 97 ∨ c = 98 ∨ c = 99) := by
  simp [tx]
/-- strip('abc') leaves nothing just of letters alone -/
theorem strip_abc (l : List Nat) : (Txt.stripChars (tx l) (tx [97, 98, 99]) = tx []) ↔ Abc l := by
  unfold Txt.stripChars
  rw [stripBy_eq]
  obtain ⟨a1, a2, a3⟩ := lo_facts (tx [97, 98, 99]).cps.contains (tx l)
  obtain ⟨b1, b2, b3, b4⟩ := hi_facts (tx [97, 98, 99]).cps.contains (tx l) _ a1
  generalize stripLo (tx [97, 98, 99]).cps.contains true (tx l) = lo at *
  generalize stripHi (tx [97, 98, 99]).cps.contains true (tx l) lo = hi at *
  have gd : ∀ k, (tx l).cps.getD k 0 = l.getD k 0 := fun k => by rw [← getD_list]
  have hlen : (tx l).length = l.length := tx_len l
  rw [hlen] at a1 a3 b2 b3
  have size : (strSub (tx l) lo hi).length = hi - lo := by
    unfold strSub Str.length
    simp
    omega
  constructor
  · intro h
    have e : hi - lo = 0 := by rw [← size, h]; rfl
    have e2 : hi = lo := by omega
    subst e2
    have all : ∀ k, k < l.length → (tx [97, 98, 99]).cps.contains (l.getD k 0) = true := fun k hk => by
      rw [← gd]
      by_cases q : k < hi
      · exact a2 k q
      · exact b3 k (by omega) hk
    intro c m
    obtain ⟨k, hk, rfl⟩ := List.mem_iff_getElem.mp m
    have := all k hk
    rw [List.getD_eq_getElem?_getD, List.getElem?_eq_getElem hk] at this
    exact (goes_abc _).mp this
  · intro h
    have e : lo = l.length := by
      rcases a3 with e | e
      · exact e
      · by_cases q : lo < l.length
        · rw [gd, List.getD_eq_getElem?_getD, List.getElem?_eq_getElem q] at e
          have := (goes_abc _).mpr (h _ (List.getElem_mem q))
          rw [Option.getD_some] at e
          rw [e] at this
          cases this
        · omega
    have z : (strSub (tx l) lo hi).length = 0 := by omega
    have : (strSub (tx l) lo hi).cps = #[] := Array.eq_empty_of_size_eq_zero z
    cases hh : strSub (tx l) lo hi with
    | mk c =>
      rw [hh] at this
      show (⟨c⟩ : Str) = ⟨#[]⟩
      rw [show c = #[] from this]
/-! ### picking -/
theorem pick {α : Type} {xs : List α} {d : Int} (h0 : 0 ≤ d) (h1 : d < (xs.length : Int)) : ∃ v, v ∈ xs ∧ atI xs d = some v := by
  obtain ⟨k, rfl⟩ := Int.eq_ofNat_of_zero_le h0
  have hk : k < xs.length := by omega
  exact ⟨xs[k], List.getElem_mem hk, atI_nat (List.getElem?_eq_getElem hk)⟩
theorem pick_int {ns : List Int} {d : Int} (h0 : 0 ≤ d) (h1 : d < (ns.length : Int)) : ∃ v, v ∈ ns ∧ atI (ns.map V.int) d = some (.int v) := by
  obtain ⟨v, m, e⟩ := pick (xs := ns.map V.int) h0 (by rw [List.length_map]; exact h1)
  obtain ⟨n, hn, rfl⟩ := List.mem_map.mp m
  exact ⟨n, hn, e⟩
theorem at0 {α : Type} {a : α} {l : List α} : atI (a :: l) 0 = some a := atI_nat (j := 0) rfl
theorem at1 {α : Type} {a b : α} {l : List α} : atI (a :: b :: l) 1 = some b := atI_nat (j := 1) rfl
theorem sz {n : Nat} (h : n ≤ 100000) : n ≤ sizeLine := Nat.le_trans h (by decide)
theorem szt {l : List Nat} (h : l.length ≤ 100000) : (tx l).length ≤ sizeLine := by
  rw [tx_len]
  exact sz h
theorem inV_str (s : Str) : ∀ ws : List Str, inV (.str s) (ws.map V.str) = decide (s ∈ ws)
  | [] => rfl
  | x :: ws => by
    have ih := inV_str s ws
    unfold inV at ih ⊢
    rw [List.map_cons, List.any_cons, ih]
    show ((x == s) || decide (s ∈ ws)) = _
    by_cases e : x = s
    · subst e
      simp
    · have : (x == s) = false := beq_eq_false_iff_ne.mpr e
      rw [this]
      simp
      exact fun q => absurd q.symm e
end Pg
namespace Pg
open PySem PySem.Spec PyProof.Rows L2
/-! ### lists of texts, compared -/
theorem strOk_abc {l : List Nat} (h : Abc l) : PyData.canLay0 (.str (tx l)) = true := by
  unfold PyData.canLay0 PyData.strOk
  simp
  intro c m
  rcases h c m with e | e | e <;> subst e <;> decide
theorem canLay_strs : ∀ {ls : List (List Nat)}, (∀ l ∈ ls, Abc l) → PyData.canLayAll0 (ls.map fun l => .str (tx l)) = true
  | [], _ => rfl
  | l :: ls, h => by
    show (PyData.canLay0 (.str (tx l)) && PyData.canLayAll0 (ls.map fun l => .str (tx l))) = true
    rw [strOk_abc (h l List.mem_cons_self), canLay_strs fun m q => h m (List.mem_cons_of_mem _ q)]
    rfl
theorem depth_strs : ∀ (ls : List (List Nat)), PyData.depthAll (ls.map fun l => .str (tx l)) = 0
  | [] => rfl
  | l :: ls => by
    show max 0 (PyData.depthAll (ls.map fun l => .str (tx l))) = 0
    rw [depth_strs ls]
    rfl
theorem shaped_strs {ls : List (List Nat)} (h : ∀ l ∈ ls, Abc l) : SeqAt.shaped (.list (ls.map fun l => .str (tx l))) = true := by
  unfold SeqAt.shaped
  rw [show PyData.canLay0 (.list (ls.map fun l => .str (tx l))) = true from canLay_strs h]
  rw [show PyData.depth (.list (ls.map fun l => .str (tx l))) = 0 + 1 by show PyData.depthAll _ + 1 = _; rw [depth_strs]]
  rfl
theorem dp_strs {K : PySem.W.Frag} {H : Hp} : ∀ (ls : List (List Nat)), DpAll K H (ls.map Tx) (ls.map fun l => .str (tx l))
  | [] => .nil
  | l :: ls => .cons (.str _) (dp_strs ls)
theorem ne_nil_strs {K : PySem.W.Frag} {H : Hp} {p q : Addr} {ls : List (List Nat)} {Q : VK} (hp : SqL K H p (ls.map Tx)) (h : ∀ l ∈ ls, Abc l) (hq : H q = some (.lst [])) (k : Q (.bl (!ls.isEmpty)) H) : rNeD K (.ref p) (.ref q) H Q := by
  refine ⟨.list (ls.map fun l => .str (tx l)), .list [], .lst hp (dp_strs ls), .lst (SqL.of hq) .nil, shaped_strs h, rfl, ?_⟩
  have e : PyData.eqv (.list (ls.map fun l => .str (tx l))) (.list []) = ls.isEmpty := by
    cases ls with
    | nil => rfl
    | cons l ls => rfl
  rw [e]
  exact k
end Pg
namespace Pg
open PySem PySem.Spec PyProof.Rows L2
/-! ### any values: what they are, as far as the program looks -/
inductive Dt where
  | non | bl (b : Bool) | int (i : Int) | str (l : List Nat) | tup (ds : List Dt) | lst | obj
mutual
def Dt.dep : Dt → Nat
  | .tup ds => Dt.depL ds + 1
  | _ => 0
def Dt.depL : List Dt → Nat
  | [] => 0
  | d :: ds => max d.dep (Dt.depL ds)
end
theorem Dt.dep_mem : ∀ {ds : List Dt} {d : Dt}, d ∈ ds → d.dep ≤ Dt.depL ds
  | e :: ds, d, m => by
    rcases List.mem_cons.mp m with rfl | m
    · exact Nat.le_max_left _ _
    · exact Nat.le_trans (Dt.dep_mem m) (Nat.le_max_right _ _)
theorem Dt.depL_le : ∀ {ds : List Dt} {n : Nat}, (∀ d ∈ ds, d.dep ≤ n) → Dt.depL ds ≤ n
  | [], _, _ => Nat.zero_le _
  | d :: ds, n, h => Nat.max_le.mpr ⟨h d List.mem_cons_self, Dt.depL_le fun e m => h e (List.mem_cons_of_mem _ m)⟩
mutual
inductive Rp (K : PySem.W.Frag) (H : Hp) : V → Dt → Prop
  | non : Rp K H .non .non
  | bl (b : Bool) : Rp K H (.bl b) (.bl b)
  | int (i : Int) : Rp K H (.int i) (.int i)
  | str (l : List Nat) (h : l.length ≤ 100000) : Rp K H (Tx l) (.str l)
  | tup {a : Addr} {vs : List V} {ds : List Dt} : SqT K H a vs → vs.length ≤ 100000 → RpL K H vs ds → Rp K H (.ref a) (.tup ds)
  | lst {a : Addr} {vs : List V} : H a = some (.lst vs) → Rp K H (.ref a) .lst
  | obj {a C : Addr} : H a = some (ExO (.ref C) a) → Rp K H (.ref a) .obj
inductive RpL (K : PySem.W.Frag) (H : Hp) : List V → List Dt → Prop
  | nil : RpL K H [] []
  | cons {v : V} {vs : List V} {d : Dt} {ds : List Dt} : Rp K H v d → RpL K H vs ds → RpL K H (v :: vs) (d :: ds)
end
/-- S has nothing but lists -/
def Lsts (H : Hp) (S : List Addr) : Prop := ∀ p ∈ S, ∃ xs, H p = some (.lst xs)
theorem Lsts.nil {H : Hp} : Lsts H [] := fun _ m => nomatch m
theorem Lsts.one {H : Hp} {p : Addr} {xs : List V} (h : H p = some (.lst xs)) : Lsts H [p] := fun q m => by
  rw [List.mem_singleton.mp m]
  exact ⟨xs, h⟩
theorem Lsts.cons {H : Hp} {p : Addr} {S : List Addr} {xs : List V} (h : H p = some (.lst xs)) (t : Lsts H S) : Lsts H (p :: S) := fun q m => by
  rcases List.mem_cons.mp m with rfl | m
  · exact ⟨xs, h⟩
  · exact t q m
theorem Lsts.stp {H H' : Hp} {S S' : List Addr} (h : Lsts H S) (s : Stp S' H H') : Lsts H' S := fun p m => by
  obtain ⟨xs, e⟩ := h p m
  exact s.ls p xs e
theorem sqt_stp {K : PySem.W.Frag} {H H' : Hp} {S : List Addr} {a : Addr} {vs : List V} (s : Stp S H H') (l : Lsts H S) (h : SqT K H a vs) : SqT K H' a vs := by
  rcases h with (h | ⟨o, h⟩) | h
  · refine .inl (.inl (s.kp a _ (fun m => ?_) h))
    obtain ⟨xs, e⟩ := l a m
    rw [h] at e
    cases e
  · refine .inl (.inr ⟨o, s.kp a _ (fun m => ?_) h⟩)
    obtain ⟨xs, e⟩ := l a m
    rw [h] at e
    cases e
  · exact .inr h
mutual
theorem Rp.stp {K : PySem.W.Frag} {H H' : Hp} {S : List Addr} (s : Stp S H H') (l : Lsts H S) : ∀ {v : V} {d : Dt}, Rp K H v d → Rp K H' v d
  | _, .non, .non => .non
  | _, .bl _, .bl b => .bl b
  | _, .int _, .int i => .int i
  | _, .str _, .str x h => .str x h
  | _, .tup ds, .tup h n r => .tup (sqt_stp s l h) n (RpL.stp s l r)
  | _, .lst, .lst (a := a) (vs := vs) h => by
    obtain ⟨ys, e⟩ := s.ls a vs h
    exact .lst e
  | _, .obj, .obj (a := a) (C := C) h => by
    refine .obj (C := C) (s.kp a _ (fun m => ?_) h)
    obtain ⟨xs, e⟩ := l a m
    rw [h] at e
    cases e
theorem RpL.stp {K : PySem.W.Frag} {H H' : Hp} {S : List Addr} (s : Stp S H H') (l : Lsts H S) : ∀ {vs : List V} {ds : List Dt}, RpL K H vs ds → RpL K H' vs ds
  | _, [], .nil => .nil
  | _, _ :: _, .cons h r => .cons (Rp.stp s l h) (RpL.stp s l r)
end
theorem RpL.len {K : PySem.W.Frag} {H : Hp} : ∀ {vs : List V} {ds : List Dt}, RpL K H vs ds → vs.length = ds.length
  | _, [], .nil => rfl
  | _, _ :: _, .cons _ r => by rw [List.length_cons, List.length_cons, RpL.len r]
theorem RpL.get {K : PySem.W.Frag} {H : Hp} : ∀ {vs : List V} {ds : List Dt} {i : Nat} {v : V}, RpL K H vs ds → vs[i]? = some v → ∃ d, ds[i]? = some d ∧ Rp K H v d
  | _, [], _, _, .nil, e => by simp at e
  | _, d :: _, 0, _, .cons h _, e => by
    simp at e
    subst e
    exact ⟨d, rfl, h⟩
  | _, _ :: _, i + 1, v, .cons _ r, e => RpL.get (i := i) (v := v) r (by simpa using e)
theorem RpL.app {K : PySem.W.Frag} {H : Hp} : ∀ {vs ws : List V} {ds es : List Dt}, RpL K H vs ds → RpL K H ws es → RpL K H (vs ++ ws) (ds ++ es)
  | _, _, [], _, .nil, q => q
  | _, _, _ :: _, _, .cons h r, q => .cons h (RpL.app r q)
theorem RpL.one {K : PySem.W.Frag} {H : Hp} : ∀ {vs : List V} {ds : List Dt}, RpL K H vs ds → vs.length = 1 → ∃ v d, vs = [v] ∧ ds = [d] ∧ Rp K H v d
  | _, [], .nil, h => by simp at h
  | _, [d], .cons h .nil, _ => ⟨_, d, rfl, rfl, h⟩
  | _, _ :: _ :: _, .cons _ (.cons _ _), h => by simp at h
/-! ### type(x), is -/
/-- the name of a value's built-in class; none for an object of the package -/
def Dt.ty : Dt → Option String
  | .non => some "NoneType"
  | .bl _ => some "bool"
  | .int _ => some "int"
  | .str _ => some "str"
  | .tup _ => some "tuple"
  | .lst => some "list"
  | .obj => none
def rTy (K : PySem.W.Frag) : List V → Hp → VK → Prop := fun xs H Q => ∃ x d, xs = [x] ∧ Rp K H x d ∧ ∀ y, (∀ T, d.ty = some T → y = .ty T) → (d.ty = none → ∃ C, y = .ref C) → Q y H
section
variable {X : Cx}
theorem call_type : CallR X (.type "type") (rTy X.K) := by
  intro pins s σ H xs us Q I r h
  obtain ⟨x, d, rfl, rp, q⟩ := h
  have old : ∀ T, TyB X.K H x T → d.ty = some T → wpAny (model X.prog X.w) X.A (call (.type "type") us) (EP X pins σ Q) X.xe s := fun T t e => by
    refine call_type1 pins s σ H [x] us Q I r ⟨x, T, rfl, t, q _ (fun T' e' => ?_) (fun n => ?_)⟩
    · rw [e] at e'
      cases e'
      rfl
    · rw [e] at n
      cases n
  cases rp with
  | non => exact old _ .non rfl
  | bl b => exact old _ (.bl b) rfl
  | int i => exact old _ (.int i) rfl
  | str l hl => exact old _ (.str _) rfl
  | tup hs hn ha => exact old _ (.tup hs) rfl
  | lst hs => exact old _ (.lst (SqL.of hs)) rfl
  | obj ho =>
    rename_i a C
    obtain ⟨u, rfl, rx⟩ := vals1 r
    cases rx
    obtain ⟨⟨oe, vs, e1, ⟨e2, e3⟩, e4, _⟩, _⟩ := I.hok _ _ ho
    obtain ⟨hh, g, dd, t, os⟩ := s
    exact call_type_obj e1 (by rw [e2]; rfl) (by rw [e2]; exact ⟨.ref C, H, I, rfl, q _ (fun T e => nomatch e) (fun _ => ⟨C, rfl⟩)⟩)
def rTyIs (neg : Bool) : R2 := fun x y H Q => ∃ T, y = .ty T ∧ ((∃ T', x = .ty T' ∧ Q (.bl (neg ^^ decide (T' = T))) H) ∨ ∃ C, x = .ref C ∧ Q (.bl neg) H)
theorem op_isTy : OpR X (compareOp .Is) (rTyIs false) := by
  intro pins s σ H x y v u Q I rx ry h
  obtain ⟨T, rfl, ⟨T', rfl, q⟩ | ⟨C, rfl, q⟩⟩ := h
  · exact op_isTyB pins s σ H _ _ _ _ _ I rx ry ⟨T', T, rfl, rfl, by rwa [Bool.false_xor] at q⟩
  · cases (show v = Value.ref C from rx)
    cases (show u = Value.type T from ry)
    exact wpAny_is_other rfl (by intro e; cases e) ⟨.bl false, H, I, rfl, q⟩
theorem op_notTy : OpR X (compareOp .IsNot) (rTyIs true) := by
  intro pins s σ H x y v u Q I rx ry h
  obtain ⟨T, rfl, ⟨T', rfl, q⟩ | ⟨C, rfl, q⟩⟩ := h
  · exact op_notTyB pins s σ H _ _ _ _ _ I rx ry ⟨T', T, rfl, rfl, by rwa [Bool.true_xor] at q⟩
  · cases (show v = Value.ref C from rx)
    cases (show u = Value.type T from ry)
    exact wpAny_isNot_other rfl (by intro e; cases e) ⟨.bl true, H, I, rfl, q⟩
end
/-- type(x) is T, type(x) is not T -/
theorem ty_is {K : PySem.W.Frag} {H : Hp} {x : V} {d : Dt} {T : String} {neg : Bool} {Q : VK} (r : Rp K H x d) (k : Q (.bl (neg ^^ decide (d.ty = some T))) H) : rTy K [x] H fun y H1 => rTyIs neg y (.ty T) H1 Q := by
  refine ⟨x, d, rfl, r, fun y h1 h2 => ⟨T, rfl, ?_⟩⟩
  cases e : d.ty with
  | none =>
    obtain ⟨C, rfl⟩ := h2 e
    refine .inr ⟨C, rfl, ?_⟩
    rw [e] at k
    simpa using k
  | some T' =>
    rw [h1 T' e]
    refine .inl ⟨T', rfl, ?_⟩
    rw [e] at k
    simpa using k
/-! ### type(e) is T as one piece -/
def Mono (te : TE) : Prop := ∀ σ H (Q Q' : VK), (∀ v H', Q v H' → Q' v H') → te σ H Q → te σ H Q'
theorem Mono.var {i : Nat} : Mono (tVar i) := fun σ H Q Q' h ⟨v, e, q⟩ => ⟨v, e, h _ _ q⟩
theorem Mono.c {v : V} : Mono (tC v) := fun σ H Q Q' h q => h _ _ q
theorem Mono.op {r : R2} {ta tb : TE} (ha : Mono ta) (hb : Mono tb) (hr : ∀ x y H (Q Q' : VK), (∀ v H', Q v H' → Q' v H') → r x y H Q → r x y H Q') : Mono (tOp r ta tb) := fun σ H Q Q' h q =>
  ha σ H _ _ (fun x H1 q1 => hb σ H1 _ _ (fun y H2 q2 => hr x y H2 _ _ h q2) q1) q
theorem Mono.ixT {K : PySem.W.Frag} {ta tb : TE} (ha : Mono ta) (hb : Mono tb) : Mono (tOp (rIxT K) ta tb) := Mono.op ha hb fun _ _ _ _ _ h ⟨p, xs, i, v, e1, e2, e3, e4, q⟩ => ⟨p, xs, i, v, e1, e2, e3, e4, h _ _ q⟩
theorem Mono.ixL {K : PySem.W.Frag} {ta tb : TE} (ha : Mono ta) (hb : Mono tb) : Mono (tOp (rIxL K) ta tb) := Mono.op ha hb fun _ _ _ _ _ h ⟨p, xs, i, v, e1, e2, e3, e4, q⟩ => ⟨p, xs, i, v, e1, e2, e3, e4, h _ _ q⟩
def tTyIs (K : PySem.W.Frag) (neg : Bool) (T : String) (te : TE) : TE := fun σ H Q => te σ H fun x H1 => ∃ d, Rp K H1 x d ∧ Q (.bl (neg ^^ decide (d.ty = some T))) H1
def tTTyIs (K : PySem.W.Frag) (neg : Bool) (T : String) (te : TE) : TT := fun σ H Q => te σ H fun x H1 => ∃ d, Rp K H1 x d ∧ Q (neg ^^ decide (d.ty = some T)) H1
section
variable {X : Cx} {e : Expr} {te : TE} {T : String} {x : Str} {p pos q pos2 : Pos}
theorem pe_tyIs (hm : Mono te) (he : PE X e te) (hn : X.mg "type" = none) (hT : X.mg x = none) (hv : bootBuiltins x = some (Value.type T)) (hg : Gl X "type" := by rfl) (hgT : Gl X x := by rfl) (hnn : x ≠ "__name__" := by decide) (hd : (x == ("__debug__" : Str)) = false := by decide)
    (hs : starEach [e] X.env = (false, eval e X.env) :: starEach [] X.env := by rfl) (hpl : (backTo pos (starEach [] X.env)).any (·.1) = false := by rfl) :
    PE X (.Compare (.Call (.Name "type" p) [e] [] pos) [.Is] [.Name x q] pos2) (tTyIs X.K false T te) := by
  have h := pe_cmpR (X := X) (pos := pos2) op_isTy (pe_callTy (p := p) (pos := pos) call_type hg hn (by decide +kernel) (pa_cons he pa_nil (hs := hs)) (he := hs) (hpl := hpl)) (pe_bltn (v := .ty T) (pos := q) hgT hT hv rfl hnn hd) (nomark _)
  refine ⟨fun pins s σ H Q I hw => h.run pins s σ H Q I ?_⟩
  exact hm σ H _ _ (fun v H1 ⟨d, r, k⟩ => ty_is (neg := false) r k) hw
theorem pe_tyNot (hm : Mono te) (he : PE X e te) (hn : X.mg "type" = none) (hT : X.mg x = none) (hv : bootBuiltins x = some (Value.type T)) (hg : Gl X "type" := by rfl) (hgT : Gl X x := by rfl) (hnn : x ≠ "__name__" := by decide) (hd : (x == ("__debug__" : Str)) = false := by decide)
    (hs : starEach [e] X.env = (false, eval e X.env) :: starEach [] X.env := by rfl) (hpl : (backTo pos (starEach [] X.env)).any (·.1) = false := by rfl) :
    PE X (.Compare (.Call (.Name "type" p) [e] [] pos) [.IsNot] [.Name x q] pos2) (tTyIs X.K true T te) := by
  have h := pe_cmpR (X := X) (pos := pos2) op_notTy (pe_callTy (p := p) (pos := pos) call_type hg hn (by decide +kernel) (pa_cons he pa_nil (hs := hs)) (he := hs) (hpl := hpl)) (pe_bltn (v := .ty T) (pos := q) hgT hT hv rfl hnn hd) (nomark _)
  refine ⟨fun pins s σ H Q I hw => h.run pins s σ H Q I ?_⟩
  exact hm σ H _ _ (fun v H1 ⟨d, r, k⟩ => ty_is (neg := true) r k) hw
theorem pt_tyIs (hm : Mono te) (he : PE X e te) (hn : X.mg "type" = none) (hT : X.mg x = none) (hv : bootBuiltins x = some (Value.type T)) (hg : Gl X "type" := by rfl) (hgT : Gl X x := by rfl) (hnn : x ≠ "__name__" := by decide) (hd : (x == ("__debug__" : Str)) = false := by decide)
    (hs : starEach [e] X.env = (false, eval e X.env) :: starEach [] X.env := by rfl) (hpl : (backTo pos (starEach [] X.env)).any (·.1) = false := by rfl) :
    PT X (.Compare (.Call (.Name "type" p) [e] [] pos) [.Is] [.Name x q] pos2) (tTTyIs X.K false T te) := by
  have h := pt_cmpR (X := X) (pos := pos2) op_isTy (pe_callTy (p := p) (pos := pos) call_type hg hn (by decide +kernel) (pa_cons he pa_nil (hs := hs)) (he := hs) (hpl := hpl)) (pe_bltn (v := .ty T) (pos := q) hgT hT hv rfl hnn hd) (nomark _)
  refine ⟨fun pins s σ H Q I hw => h.run pins s σ H Q I ?_⟩
  exact hm σ H _ _ (fun v H1 ⟨d, r, k⟩ => ty_is (neg := false) (Q := fun x H' => ∃ k, x = .bl k ∧ Q k H') r ⟨_, rfl, k⟩) hw
theorem pt_tyNot (hm : Mono te) (he : PE X e te) (hn : X.mg "type" = none) (hT : X.mg x = none) (hv : bootBuiltins x = some (Value.type T)) (hg : Gl X "type" := by rfl) (hgT : Gl X x := by rfl) (hnn : x ≠ "__name__" := by decide) (hd : (x == ("__debug__" : Str)) = false := by decide)
    (hs : starEach [e] X.env = (false, eval e X.env) :: starEach [] X.env := by rfl) (hpl : (backTo pos (starEach [] X.env)).any (·.1) = false := by rfl) :
    PT X (.Compare (.Call (.Name "type" p) [e] [] pos) [.IsNot] [.Name x q] pos2) (tTTyIs X.K true T te) := by
  have h := pt_cmpR (X := X) (pos := pos2) op_notTy (pe_callTy (p := p) (pos := pos) call_type hg hn (by decide +kernel) (pa_cons he pa_nil (hs := hs)) (he := hs) (hpl := hpl)) (pe_bltn (v := .ty T) (pos := q) hgT hT hv rfl hnn hd) (nomark _)
  refine ⟨fun pins s σ H Q I hw => h.run pins s σ H Q I ?_⟩
  exact hm σ H _ _ (fun v H1 ⟨d, r, k⟩ => ty_is (neg := true) (Q := fun x H' => ∃ k, x = .bl k ∧ Q k H') r ⟨_, rfl, k⟩) hw
end
end Pg
namespace Pg
open PySem PySem.Spec PyProof.Rows L2
/-! ### readings are monotone: a piece may be cut off by what it leaves -/
def MonoT (t : TT) : Prop := ∀ σ H (Q Q' : Bool → Hp → Prop), (∀ b H', Q b H' → Q' b H') → t σ H Q → t σ H Q'
def MonoA (t : TA) : Prop := ∀ σ H (Q Q' : List V → Hp → Prop), (∀ vs H', Q vs H' → Q' vs H') → t σ H Q → t σ H Q'
def MonoS (sp : Sp) : Prop := ∀ vs H (Q Q' : VK) E, (∀ v H', Q v H' → Q' v H') → sp vs H Q E → sp vs H Q' E
def MonoR (r : R2) : Prop := ∀ x y H (Q Q' : VK), (∀ v H', Q v H' → Q' v H') → r x y H Q → r x y H Q'
def MonoC (r : List V → Hp → VK → Prop) : Prop := ∀ vs H (Q Q' : VK), (∀ v H', Q v H' → Q' v H') → r vs H Q → r vs H Q'
theorem Mono.cut {te : TE} (m : Mono te) {σ : L2.St} {H : Hp} {Q : VK} (P : V → Hp → Prop) (h : te σ H P) (k : ∀ v H', P v H' → Q v H') : te σ H Q := m σ H P Q k h
theorem MonoT.cut {t : TT} (m : MonoT t) {σ : L2.St} {H : Hp} {Q : Bool → Hp → Prop} (P : Bool → Hp → Prop) (h : t σ H P) (k : ∀ b H', P b H' → Q b H') : t σ H Q := m σ H P Q k h
theorem MonoR.i0 {g : Int → Int → V} : MonoR (rI0 g) := fun _ _ _ _ _ h ⟨i, j, e1, e2, q⟩ => ⟨i, j, e1, e2, h _ _ q⟩
theorem MonoR.i {C : Int → Int → Prop} {g : Int → Int → V} : MonoR (rI C g) := fun _ _ _ _ _ h ⟨i, j, e1, e2, c, q⟩ => ⟨i, j, e1, e2, c, h _ _ q⟩
theorem MonoR.eq : MonoR rEq := fun _ _ _ _ _ h ⟨s, q⟩ => ⟨s, h _ _ q⟩
theorem MonoR.ne : MonoR rNe := fun _ _ _ _ _ h ⟨s, q⟩ => ⟨s, h _ _ q⟩
theorem MonoR.ixL {K : PySem.W.Frag} : MonoR (rIxL K) := fun _ _ _ _ _ h ⟨p, xs, i, v, e1, e2, e3, e4, q⟩ => ⟨p, xs, i, v, e1, e2, e3, e4, h _ _ q⟩
theorem MonoR.ixT {K : PySem.W.Frag} : MonoR (rIxT K) := fun _ _ _ _ _ h ⟨p, xs, i, v, e1, e2, e3, e4, q⟩ => ⟨p, xs, i, v, e1, e2, e3, e4, h _ _ q⟩
theorem MonoR.ixS : MonoR rIxS := fun _ _ _ _ _ h ⟨z, i, c, e1, e2, e3, e4, q⟩ => ⟨z, i, c, e1, e2, e3, e4, h _ _ q⟩
theorem MonoR.inn {K : PySem.W.Frag} {neg : Bool} : MonoR (rIn K neg) := fun _ _ _ _ _ h ⟨p, xs, e1, e2, e3, e4, q⟩ => ⟨p, xs, e1, e2, e3, e4, h _ _ q⟩
theorem MonoR.neD {K : PySem.W.Frag} : MonoR (rNeD K) := fun _ _ _ _ _ h ⟨d, e, a, b, c, f, q⟩ => ⟨d, e, a, b, c, f, h _ _ q⟩
theorem MonoR.eqD {K : PySem.W.Frag} : MonoR (rEqD K) := fun _ _ _ _ _ h ⟨d, e, a, b, c, f, q⟩ => ⟨d, e, a, b, c, f, h _ _ q⟩
theorem MonoR.str {C : Str → Str → Prop} {g : Str → Str → V} : MonoR (fun x y H Q => ∃ i j, x = .str i ∧ y = .str j ∧ C i j ∧ Q (g i j) H) := fun _ _ _ _ _ h ⟨i, j, a, b, c, q⟩ => ⟨i, j, a, b, c, h _ _ q⟩
theorem MonoR.str0 {g : Str → Str → V} : MonoR (fun x y H Q => ∃ i j, x = .str i ∧ y = .str j ∧ Q (g i j) H) := fun _ _ _ _ _ h ⟨i, j, a, b, q⟩ => ⟨i, j, a, b, h _ _ q⟩
theorem Mono.op' {r : R2} {ta tb : TE} (hr : MonoR r) (ha : Mono ta) (hb : Mono tb) : Mono (tOp r ta tb) := Mono.op ha hb hr
theorem Mono.tif {t : TT} {ta tb : TE} (ht : MonoT t) (ha : Mono ta) (hb : Mono tb) : Mono (tIf t ta tb) := fun σ H Q Q' h q => ht σ H _ _ (fun b H1 q1 => by
  cases b with
  | true => exact ha σ H1 _ _ h q1
  | false => exact hb σ H1 _ _ h q1) q
theorem MonoT.test {te : TE} (h : Mono te) : MonoT (tTest te) := fun σ H Q Q' k q => h σ H _ _ (fun x H1 ⟨c, e, q1⟩ => ⟨c, e, k _ _ q1⟩) q
theorem MonoT.b {te : TE} (h : Mono te) : MonoT (tB te) := fun σ H Q Q' k q => h σ H _ _ (fun x H1 ⟨c, e, q1⟩ => ⟨c, e, k _ _ q1⟩) q
theorem MonoT.not {t : TT} (h : MonoT t) : MonoT (tNot t) := fun σ H Q Q' k q => h σ H _ _ (fun b H1 q1 => k _ _ q1) q
theorem MonoT.and {t u : TT} (h : MonoT t) (g : MonoT u) : MonoT (tAnd t u) := fun σ H Q Q' k q => h σ H _ _ (fun b H1 q1 => by
  cases b with
  | true => exact g σ H1 _ _ k q1
  | false => exact k _ _ q1) q
theorem MonoT.or {t u : TT} (h : MonoT t) (g : MonoT u) : MonoT (tOr t u) := fun σ H Q Q' k q => h σ H _ _ (fun b H1 q1 => by
  cases b with
  | true => exact k _ _ q1
  | false => exact g σ H1 _ _ k q1) q
theorem MonoA.nil : MonoA tNil := fun _ _ _ _ h q => h _ _ q
theorem MonoA.cons {te : TE} {ta : TA} (h : Mono te) (g : MonoA ta) : MonoA (tCons te ta) := fun σ H Q Q' k q => h σ H _ _ (fun x H1 q1 => g σ H1 _ _ (fun vs H2 q2 => k _ _ q2) q1) q
theorem Mono.cl {sp : Sp} {ta : TA} (hs : MonoS sp) (ha : MonoA ta) : Mono (tCl sp ta) := fun σ H Q Q' k q => ha σ H _ _ (fun vs H1 q1 => hs vs H1 _ _ E0 k q1) q
theorem Mono.cb {r : List V → Hp → VK → Prop} {ta : TA} (hs : MonoC r) (ha : MonoA ta) : Mono (tCB r ta) := fun σ H Q Q' k q => ha σ H _ _ (fun vs H1 q1 => hs vs H1 _ _ k q1) q
theorem Mono.tup {ta : TA} (ha : MonoA ta) : Mono (tTup ta) := fun σ H Q Q' k q => ha σ H _ _ (fun vs H1 ⟨l, q1⟩ => ⟨l, fun p hp => k _ _ (q1 p hp)⟩) q
theorem Mono.lst {ta : TA} (ha : MonoA ta) : Mono (tLst ta) := fun σ H Q Q' k q => ha σ H _ _ (fun vs H1 ⟨l, q1⟩ => ⟨l, fun p hp => k _ _ (q1 p hp)⟩) q
/-- one of two constants -/
theorem ite_tC {c : Prop} [Decidable c] {a b : V} {σ : L2.St} {H : Hp} {Q : VK} (h : ∀ v, v = a ∨ v = b → Q v H) : if c then tC a σ H Q else tC b σ H Q := by
  split
  · exact h a (.inl rfl)
  · exact h b (.inr rfl)
theorem MonoC.two {g : Int → Int → V} : MonoC (fun xs H Q => ∃ i j, xs = [.int i, .int j] ∧ Q (g i j) H) := fun _ _ _ _ h ⟨i, j, e, q⟩ => ⟨i, j, e, h _ _ q⟩
theorem MonoC.int1 : MonoC (fun xs H Q => (∃ i, xs = [.int i] ∧ Q (.int i) H) ∨ ∃ k : Bool, xs = [.bl k] ∧ Q (.int (if k then 1 else 0)) H) := fun _ _ _ _ h q => by
  rcases q with ⟨i, e, q⟩ | ⟨i, e, q⟩
  · exact .inl ⟨i, e, h _ _ q⟩
  · exact .inr ⟨i, e, h _ _ q⟩
theorem RpL.strs {K : PySem.W.Frag} {H : Hp} : ∀ {ws : List (List Nat)}, (∀ l ∈ ws, l.length ≤ 100000) → RpL K H (ws.map Tx) (ws.map Dt.str)
  | [], _ => .nil
  | l :: ws, h => .cons (.str l (h l List.mem_cons_self)) (RpL.strs fun m q => h m (List.mem_cons_of_mem _ q))
theorem dep_strs : ∀ (ws : List (List Nat)), Dt.depL (ws.map Dt.str) = 0
  | [] => rfl
  | l :: ws => by
    show max 0 (Dt.depL (ws.map Dt.str)) = 0
    rw [dep_strs ws]
    rfl
/-- a text of the program's own as a value -/
theorem Rp.lit {K : PySem.W.Frag} {H : Hp} (s : Str) (h : s.cps.toList.length ≤ 100000 := by decide +kernel) : Rp K H (.str s) (.str s.cps.toList) := by
  have := Rp.str (K := K) (H := H) s.cps.toList h
  have e : tx s.cps.toList = s := by cases s <;> simp [tx]
  rwa [Tx, e] at this
end Pg
namespace Pg
open PySem PySem.Spec PyProof.Rows L2
/-! ### expressions that build data: what they evaluate to -/
def EvD (K : PySem.W.Frag) (te : TE) (σ : L2.St) (H : Hp) (d : Dt) : Prop := ∀ H1, Stp [] H H1 → ∀ Q : VK, (∀ v H2, Stp [] H1 H2 → Rp K H2 v d → Q v H2) → te σ H1 Q
def EvDA (K : PySem.W.Frag) (ta : TA) (σ : L2.St) (H : Hp) (ds : List Dt) : Prop := ∀ H1, Stp [] H H1 → ∀ Q : List V → Hp → Prop, (∀ vs H2, Stp [] H1 H2 → RpL K H2 vs ds → Q vs H2) → ta σ H1 Q
section
variable {K : PySem.W.Frag} {te : TE} {ta : TA} {σ : L2.St} {H : Hp} {d : Dt} {ds : List Dt}
theorem EvD.bl {b : Bool} : EvD K (tC (.bl b)) σ H (.bl b) := fun H1 _ _ k => k _ H1 (Stp.refl _ _) (.bl b)
theorem EvD.int {i : Int} : EvD K (tC (.int i)) σ H (.int i) := fun H1 _ _ k => k _ H1 (Stp.refl _ _) (.int i)
theorem EvD.non : EvD K (tC .non) σ H .non := fun H1 _ _ k => k _ H1 (Stp.refl _ _) .non
theorem EvD.str {s : Str} (h : s.cps.toList.length ≤ 100000 := by decide +kernel) : EvD K (tC (.str s)) σ H (.str s.cps.toList) := fun H1 _ _ k => k _ H1 (Stp.refl _ _) (Rp.lit s h)
theorem EvD.var {i : Nat} {v : V} (r : Rp K H v d) (e : σ[i]? = some (some v) := by rfl) : EvD K (tVar i) σ H d := fun H1 s _ k => ⟨v, e, k v H1 (Stp.refl _ _) (r.stp s Lsts.nil)⟩
theorem EvDA.nil : EvDA K tNil σ H [] := fun H1 _ _ k => k [] H1 (Stp.refl _ _) .nil
theorem EvDA.cons (h : EvD K te σ H d) (g : EvDA K ta σ H ds) : EvDA K (tCons te ta) σ H (d :: ds) := fun H1 s Q k =>
  h H1 s _ fun v H2 s2 r => g H2 (s.trans s2) _ fun vs H3 s3 rs => k (v :: vs) H3 (s2.trans s3) (.cons (r.stp s3 Lsts.nil) rs)
theorem EvD.tup (h : EvDA K ta σ H ds) (hl : ds.length ≤ 1000) : EvD K (tTup ta) σ H (.tup ds) := fun H1 s Q k =>
  h H1 s _ fun vs H2 s2 rs => ⟨sz (by rw [rs.len]; omega), fun p np => k _ _ (s2.new' np) (.tup (SqT.of upd_same) (by rw [rs.len]; omega) (rs.stp (Stp.new np []) Lsts.nil))⟩
theorem EvD.lst (h : EvDA K ta σ H ds) (hl : ds.length ≤ 1000) : EvD K (tLst ta) σ H .lst := fun H1 s Q k =>
  h H1 s _ fun vs H2 s2 rs => ⟨sz (by rw [rs.len]; omega), fun p np => k _ _ (s2.new' np) (.lst upd_same)⟩
theorem EvD.exc {C : Addr} (h : EvD K te σ H d) : EvD K (fun σ H Q => te σ H fun _ H1 => ∀ a, H1 a = none → Q (.ref a) (upd H1 a (ExO (.ref C) a))) σ H .obj := fun H1 s Q k =>
  h H1 s _ fun v H2 s2 _ => fun a na => k _ _ (s2.new' na) (.obj upd_same)
theorem EvD.cat {tb : TE} {a b : List Nat} (h : EvD K te σ H (.str a)) (g : EvD K tb σ H (.str b)) (hl : a.length + b.length ≤ 100000) : EvD K (tOp (fun x y H Q => ∃ i j, x = .str i ∧ y = .str j ∧ i.length + j.length ≤ sizeLine ∧ Q (.str (i ++ j)) H) te tb) σ H (.str (a ++ b)) := fun H1 s Q k =>
  h H1 s _ fun v H2 s2 r => g H2 (s.trans s2) _ fun u H3 s3 q => by
    cases r with
    | str _ h1 =>
      cases q with
      | str _ h2 =>
        refine ⟨tx a, tx b, rfl, rfl, by rw [tx_len, tx_len]; exact sz hl, ?_⟩
        rw [tx_app]
        exact k _ _ (s2.trans s3) (.str _ (by rw [List.length_append]; exact hl))
theorem EvD.pow {i j : Int} (h : CPow i j) : EvD K (tOp (rI CPow fun i j => .int (i ^ j.toNat)) (tC (.int i)) (tC (.int j))) σ H (.int (i ^ j.toNat)) := fun H1 s Q k =>
  ⟨i, j, rfl, rfl, h, k _ _ (Stp.refl _ _) (.int _)⟩
theorem EvD.neg {i : Int} : EvD K (tUn (rU fun i => .int (-i)) (tC (.int i))) σ H (.int (-i)) := fun H1 s Q k => ⟨i, rfl, k _ _ (Stp.refl _ _) (.int _)⟩
/-- list(t) of a tuple -/
theorem EvD.list (h : EvD K te σ H (.tup ds)) : EvD K (tCB (fun xs H Q => ∃ p ys, xs = [.ref p] ∧ (SqL K H p ys ∨ SqT K H p ys) ∧ ∀ l, H l = none → Q (.ref l) (upd H l (.lst ys))) (tCons te tNil)) σ H .lst := fun H1 s Q k =>
  h H1 s _ fun v H2 s2 r => by
    cases r with
    | tup hs hn rl => exact ⟨_, _, rfl, .inr hs, fun l nl => k _ _ (s2.new' nl) (.lst upd_same)⟩
theorem EvDA.use (h : EvDA K ta σ H ds) {Q : List V → Hp → Prop} (k : ∀ vs H2, Stp [] H H2 → RpL K H2 vs ds → Q vs H2) : ta σ H Q := h H (Stp.refl _ _) Q k
theorem EvD.use (h : EvD K te σ H d) {Q : VK} (k : ∀ v H2, Stp [] H H2 → Rp K H2 v d → Q v H2) : te σ H Q := h H (Stp.refl _ _) Q k
/-- a new list of data -/
theorem EvDA.newl (h : EvDA K ta σ H ds) (hl : ds.length ≤ 1000) {Q : VK} (k : ∀ p vs H2, Stp [] H H2 → H p = none → H2 p = some (.lst vs) → RpL K H2 vs ds → Q (.ref p) H2) : tLst ta σ H Q :=
  h.use fun vs H2 s rs => ⟨sz (by rw [rs.len]; omega), fun p np => k p vs _ (s.new' np) (s.fresh (fun m => nomatch m) np) upd_same (rs.stp (Stp.new np []) Lsts.nil)⟩
end
/-! ### tuples put together, cut -/
theorem catA_use {K : PySem.W.Frag} {H : Hp} {a b : Addr} {xs ys : List V} {Q : VK} (ha : SqT K H a xs) (hb : SqT K H b ys) (hl : xs.length + ys.length ≤ 100000) (k : ∀ p H', Stp [] H H' → SqT K H' p (xs ++ ys) → Q (.ref p) H') : rCatA K (.ref a) (.ref b) H Q := by
  refine ⟨a, b, xs, ys, rfl, rfl, ha, hb, sz hl, fun e => ?_, fun _ e => ?_, fun _ _ p np => ?_⟩
  · subst e
    exact k b H (Stp.refl _ _) hb
  · subst e
    refine k a H (Stp.refl _ _) ?_
    rw [List.append_nil]
    exact ha
  · exact k p _ (Stp.new np _) (SqT.of upd_same)
theorem slA_use {K : PySem.W.Frag} {H : Hp} {a : Addr} {xs : List V} {lo hi : Option Int} {Q : VK} (ha : SqT K H a xs) (k : ∀ p H', Stp [] H H' → SqT K H' p (cutV xs lo hi) → Q (.ref p) H') : rSlA K (.ref a) lo hi H Q := by
  refine ⟨a, xs, rfl, ha, fun ⟨e1, e2⟩ => ?_, fun _ p np => ?_⟩
  · refine k a H (Stp.refl _ _) ?_
    have e : cutV xs lo hi = xs := by
      unfold cutV
      rw [e1, e2, List.drop_zero, Nat.sub_zero, List.take_length]
    rw [e]
    exact ha
  · exact k p _ (Stp.new np _) (SqT.of upd_same)
theorem cut_upto {xs : List V} (k : Nat) : cutV xs none (some (k : Int)) = xs.take k := by
  unfold cutV
  rw [HT.sIx_none, HT.sIx_nat, List.drop_zero, Nat.sub_zero]
  rcases Nat.le_total k xs.length with h | h
  · rw [Nat.min_eq_left h]
  · rw [Nat.min_eq_right h, List.take_of_length_le (Nat.le_refl _), List.take_of_length_le h]
theorem cut_from {xs : List V} (k : Nat) : cutV xs (some (k : Int)) none = xs.drop k := by
  unfold cutV
  rw [HT.sIx_none, HT.sIx_nat]
  rcases Nat.le_total k xs.length with h | h
  · rw [Nat.min_eq_left h, List.take_of_length_le (by rw [List.length_drop]; exact Nat.le_refl _)]
  · rw [Nat.min_eq_right h, List.drop_length, List.drop_of_length_le h, List.take_nil]
theorem RpL.take {K : PySem.W.Frag} {H : Hp} : ∀ {vs : List V} {ds : List Dt} (n : Nat), RpL K H vs ds → RpL K H (vs.take n) (ds.take n)
  | _, _, 0, _ => by rw [List.take_zero, List.take_zero]; exact .nil
  | _, [], _ + 1, .nil => .nil
  | _, _ :: _, n + 1, .cons h r => .cons h (RpL.take n r)
theorem RpL.drop {K : PySem.W.Frag} {H : Hp} : ∀ {vs : List V} {ds : List Dt} (n : Nat), RpL K H vs ds → RpL K H (vs.drop n) (ds.drop n)
  | _, _, 0, r => r
  | _, [], _ + 1, .nil => .nil
  | _, _ :: _, n + 1, .cons _ r => RpL.drop n r
/-! ### heads of statements -/
theorem asg_name {te : TE} {i : Nat} {u : TS} {D : Ends} {σ : L2.St} {H : Hp} (h : te σ H fun x H1 => u D (σ.set i (some x)) H1) : tSeq (tAsg te (gName i)) u D σ H := h
theorem op_var {r : R2} {i : Nat} {tb : TE} {σ : L2.St} {H : Hp} {Q : VK} {v : V} (e : σ[i]? = some (some v)) (h : tb σ H fun y H2 => r v y H2 Q) : tOp r (tVar i) tb σ H Q := ⟨v, e, h⟩
theorem nopart {σ : L2.St} {H : Hp} {Q : Option Int → Hp → Prop} (h : Q none H) : tNoPart σ H Q := h
end Pg
namespace Pv
open PySem PySem.Spec PyProof.Rows L2 Pg
/-! ### values with all that is in them -/
inductive D where
  | non | bl (b : Bool) | int (i : Int) | str (l : List Nat) | tup (ds : List D) | lst (ds : List D) | obj (C : Addr)
mutual
def D.old : D → Dt
  | .non => .non
  | .bl b => .bl b
  | .int i => .int i
  | .str l => .str l
  | .tup ds => .tup (D.olds ds)
  | .lst _ => .lst
  | .obj _ => .obj
def D.olds : List D → List Dt
  | [] => []
  | d :: ds => d.old :: D.olds ds
end
def D.ty (d : D) : Option String := d.old.ty
/-- isinstance(d, T) -/
def D.isi (T : String) : D → Bool
  | .bl _ => T == "bool" || T == "int"
  | .int _ => T == "int"
  | .str _ => T == "str"
  | .tup _ => T == "tuple"
  | .lst _ => T == "list"
  | _ => false
/-- what the class of an object says -/
structure OkC (K : PySem.W.Frag) (C : Addr) : Prop where
  exc : ExcC K C
  is_str : PySem.W.kitOne K (.ref C) (.type "str") = some false
  is_int : PySem.W.kitOne K (.ref C) (.type "int") = some false
  is_bool : PySem.W.kitOne K (.ref C) (.type "bool") = some false
  is_tuple : PySem.W.kitOne K (.ref C) (.type "tuple") = some false
  is_list : PySem.W.kitOne K (.ref C) (.type "list") = some false
mutual
/-- v is d; no list in it stands at an address of S -/
inductive Rv (K : PySem.W.Frag) (S : List Addr) (H : Hp) : V → D → Prop
  | non : Rv K S H .non .non
  | bl (b : Bool) : Rv K S H (.bl b) (.bl b)
  | int (i : Int) : Rv K S H (.int i) (.int i)
  | str (l : List Nat) (h : l.length ≤ 100000) : Rv K S H (Tx l) (.str l)
  | tup {a : Addr} {vs : List V} {ds : List D} : SqT K H a vs → vs.length ≤ 100000 → RvL K S H vs ds → Rv K S H (.ref a) (.tup ds)
  | lst {a : Addr} {vs : List V} {ds : List D} : H a = some (.lst vs) → a ∉ S → vs.length ≤ 100000 → RvL K S H vs ds → Rv K S H (.ref a) (.lst ds)
  | obj {a C : Addr} : H a = some (ExO (.ref C) a) → OkC K C → Rv K S H (.ref a) (.obj C)
inductive RvL (K : PySem.W.Frag) (S : List Addr) (H : Hp) : List V → List D → Prop
  | nil : RvL K S H [] []
  | cons {v : V} {vs : List V} {d : D} {ds : List D} : Rv K S H v d → RvL K S H vs ds → RvL K S H (v :: vs) (d :: ds)
end
section
variable {K : PySem.W.Frag} {S : List Addr} {H H' : Hp}
mutual
theorem Rv.old : ∀ {v : V} {d : D}, Rv K S H v d → Rp K H v d.old
  | _, .non, .non => .non
  | _, .bl _, .bl b => .bl b
  | _, .int _, .int i => .int i
  | _, .str _, .str x h => .str x h
  | _, .tup ds, .tup h n r => .tup h n (RvL.old r)
  | _, .lst _, .lst h _ _ _ => .lst h
  | _, .obj _, .obj h _ => .obj h
theorem RvL.old : ∀ {vs : List V} {ds : List D}, RvL K S H vs ds → RpL K H vs (D.olds ds)
  | _, [], .nil => .nil
  | _, _ :: _, .cons h r => .cons (Rv.old h) (RvL.old r)
end
mutual
theorem Rv.fr {S' : List Addr} (s : Stp S' H H') (l : Lsts H S') (sub : ∀ x ∈ S', x ∈ S) : ∀ {v : V} {d : D}, Rv K S H v d → Rv K S H' v d
  | _, .non, .non => .non
  | _, .bl _, .bl b => .bl b
  | _, .int _, .int i => .int i
  | _, .str _, .str x h => .str x h
  | _, .tup ds, .tup h n r => .tup (sqt_stp s l h) n (RvL.fr s l sub r)
  | _, .lst ds, .lst h o n r => .lst (s.kp _ _ (fun m => o (sub _ m)) h) o n (RvL.fr s l sub r)
  | _, .obj _, .obj (a := a) (C := C) h k => by
    refine .obj (C := C) (s.kp a _ (fun m => ?_) h) k
    obtain ⟨xs, e⟩ := l a m
    rw [h] at e
    cases e
theorem RvL.fr {S' : List Addr} (s : Stp S' H H') (l : Lsts H S') (sub : ∀ x ∈ S', x ∈ S) : ∀ {vs : List V} {ds : List D}, RvL K S H vs ds → RvL K S H' vs ds
  | _, [], .nil => .nil
  | _, _ :: _, .cons h r => .cons (Rv.fr s l sub h) (RvL.fr s l sub r)
end
theorem Rv.stp {v : V} {d : D} (r : Rv K S H v d) (s : Stp S H H') (l : Lsts H S) : Rv K S H' v d := Rv.fr s l (fun _ m => m) r
theorem RvL.stp {vs : List V} {ds : List D} (r : RvL K S H vs ds) (s : Stp S H H') (l : Lsts H S) : RvL K S H' vs ds := RvL.fr s l (fun _ m => m) r
theorem Rv.up {v : V} {d : D} (r : Rv K S H v d) (s : Stp [] H H') : Rv K S H' v d := Rv.fr s Lsts.nil (fun _ m => nomatch m) r
theorem RvL.up {vs : List V} {ds : List D} (r : RvL K S H vs ds) (s : Stp [] H H') : RvL K S H' vs ds := RvL.fr s Lsts.nil (fun _ m => nomatch m) r
mutual
theorem Rv.sub {S' : List Addr} (h : ∀ x ∈ S', x ∈ S) : ∀ {v : V} {d : D}, Rv K S H v d → Rv K S' H v d
  | _, .non, .non => .non
  | _, .bl _, .bl b => .bl b
  | _, .int _, .int i => .int i
  | _, .str _, .str x h => .str x h
  | _, .tup ds, .tup q n r => .tup q n (RvL.sub h r)
  | _, .lst ds, .lst q o n r => .lst q (fun m => o (h _ m)) n (RvL.sub h r)
  | _, .obj _, .obj q k => .obj q k
theorem RvL.sub {S' : List Addr} (h : ∀ x ∈ S', x ∈ S) : ∀ {vs : List V} {ds : List D}, RvL K S H vs ds → RvL K S' H vs ds
  | _, [], .nil => .nil
  | _, _ :: _, .cons q r => .cons (Rv.sub h q) (RvL.sub h r)
end
theorem RvL.len : ∀ {vs : List V} {ds : List D}, RvL K S H vs ds → vs.length = ds.length
  | _, [], .nil => rfl
  | _, _ :: _, .cons _ r => by rw [List.length_cons, List.length_cons, RvL.len r]
theorem RvL.get : ∀ {vs : List V} {ds : List D} {i : Nat} {v : V}, RvL K S H vs ds → vs[i]? = some v → ∃ d, ds[i]? = some d ∧ Rv K S H v d
  | _, [], _, _, .nil, e => by simp at e
  | _, d :: _, 0, _, .cons h _, e => by
    simp at e
    subst e
    exact ⟨d, rfl, h⟩
  | _, _ :: _, i + 1, v, .cons _ r, e => RvL.get (i := i) (v := v) r (by simpa using e)
theorem RvL.app : ∀ {vs ws : List V} {ds es : List D}, RvL K S H vs ds → RvL K S H ws es → RvL K S H (vs ++ ws) (ds ++ es)
  | _, _, [], _, .nil, q => q
  | _, _, _ :: _, _, .cons h r, q => .cons h (RvL.app r q)
theorem RvL.take : ∀ {vs : List V} {ds : List D} (n : Nat), RvL K S H vs ds → RvL K S H (vs.take n) (ds.take n)
  | _, _, 0, _ => by rw [List.take_zero, List.take_zero]; exact .nil
  | _, [], _ + 1, .nil => .nil
  | _, _ :: _, n + 1, .cons h r => .cons h (RvL.take n r)
theorem RvL.drop : ∀ {vs : List V} {ds : List D} (n : Nat), RvL K S H vs ds → RvL K S H (vs.drop n) (ds.drop n)
  | _, _, 0, r => r
  | _, [], _ + 1, .nil => .nil
  | _, _ :: _, n + 1, .cons _ r => RvL.drop n r
theorem RvL.rev : ∀ {vs : List V} {ds : List D}, RvL K S H vs ds → RvL K S H vs.reverse ds.reverse
  | _, [], .nil => .nil
  | _, _ :: _, .cons h r => by
    rw [List.reverse_cons, List.reverse_cons]
    exact RvL.app (RvL.rev r) (.cons h .nil)
theorem RvL.pick {vs : List V} {ds : List D} {i : Int} (r : RvL K S H vs ds) (h0 : 0 ≤ i) (h1 : i < (ds.length : Int)) : ∃ v d, d ∈ ds ∧ Rv K S H v d ∧ atI vs i = some v := by
  obtain ⟨k, rfl⟩ := Int.eq_ofNat_of_zero_le h0
  have hk : k < vs.length := by rw [r.len]; omega
  obtain ⟨d, hd, rd⟩ := r.get (List.getElem?_eq_getElem hk)
  exact ⟨vs[k], d, List.mem_of_getElem? hd, rd, atI_nat (List.getElem?_eq_getElem hk)⟩
/-- a text of the program's own -/
def wd (s : Str) : D := .str s.cps.toList
theorem tx_cps (s : Str) : tx s.cps.toList = s := by cases s <;> simp [tx]
theorem Rv.lit (s : Str) (h : s.cps.toList.length ≤ 100000 := by decide +kernel) : Rv K S H (.str s) (wd s) := by
  have := Rv.str (K := K) (S := S) (H := H) s.cps.toList h
  rwa [Tx, tx_cps] at this
theorem out_new {p : Addr} (l : Lsts H S) (h : H p = none) : p ∉ S := fun m => by
  obtain ⟨xs, e⟩ := l p m
  rw [h] at e
  cases e
/-- a new tuple, a new list -/
theorem Rv.newT {p : Addr} {vs : List V} {ds : List D} (np : H p = none) (r : RvL K S H vs ds) (h : ds.length ≤ 100000) : Rv K S (upd H p (.tup vs)) (.ref p) (.tup ds) := .tup (SqT.of upd_same) (by rw [r.len]; exact h) (r.up (Stp.new np []))
theorem Rv.newL {p : Addr} {vs : List V} {ds : List D} (l : Lsts H S) (np : H p = none) (r : RvL K S H vs ds) (h : ds.length ≤ 100000) : Rv K S (upd H p (.lst vs)) (.ref p) (.lst ds) := .lst upd_same (out_new l np) (by rw [r.len]; exact h) (r.up (Stp.new np []))
theorem Lsts.up {H H' : Hp} (l : Lsts H S) (s : Stp [] H H') : Lsts H' S := l.stp s
end
/-! ### type(x) is T -/
theorem D.ty_old (d : D) : d.old.ty = d.ty := rfl
theorem ty_non : D.non.ty = some "NoneType" := rfl
theorem ty_bl {b : Bool} : (D.bl b).ty = some "bool" := rfl
theorem ty_int {i : Int} : (D.int i).ty = some "int" := rfl
theorem ty_str {l : List Nat} : (D.str l).ty = some "str" := rfl
theorem ty_tup {ds : List D} : (D.tup ds).ty = some "tuple" := by unfold D.ty D.old; rfl
theorem ty_lst {ds : List D} : (D.lst ds).ty = some "list" := by unfold D.ty D.old; rfl
theorem ty_obj {C : Addr} : (D.obj C).ty = none := rfl
theorem D.lst_of {d : D} (h : d.ty = some "list") : ∃ ds, d = .lst ds := by
  cases d with
  | lst ds => exact ⟨ds, rfl⟩
  | tup ds => rw [ty_tup] at h; exact absurd h (by decide)
  | obj C => rw [ty_obj] at h; cases h
  | non => exact absurd h (by rw [ty_non]; decide)
  | bl b => exact absurd h (by rw [ty_bl]; decide)
  | int i => exact absurd h (by rw [ty_int]; decide)
  | str l => exact absurd h (by rw [ty_str]; decide)
theorem D.tup_of {d : D} (h : d.ty = some "tuple") : ∃ ds, d = .tup ds := by
  cases d with
  | tup ds => exact ⟨ds, rfl⟩
  | lst ds => rw [ty_lst] at h; exact absurd h (by decide)
  | obj C => rw [ty_obj] at h; cases h
  | non => exact absurd h (by rw [ty_non]; decide)
  | bl b => exact absurd h (by rw [ty_bl]; decide)
  | int i => exact absurd h (by rw [ty_int]; decide)
  | str l => exact absurd h (by rw [ty_str]; decide)
theorem D.str_of {d : D} (h : d.ty = some "str") : ∃ l, d = .str l := by
  cases d with
  | str ds => exact ⟨ds, rfl⟩
  | lst ds => rw [ty_lst] at h; exact absurd h (by decide)
  | tup ds => rw [ty_tup] at h; exact absurd h (by decide)
  | obj C => rw [ty_obj] at h; cases h
  | non => exact absurd h (by rw [ty_non]; decide)
  | bl b => exact absurd h (by rw [ty_bl]; decide)
  | int i => exact absurd h (by rw [ty_int]; decide)
theorem D.int_of {d : D} (h : d.ty = some "int") : ∃ i, d = .int i := by
  cases d with
  | int i => exact ⟨i, rfl⟩
  | lst ds => rw [ty_lst] at h; exact absurd h (by decide)
  | tup ds => rw [ty_tup] at h; exact absurd h (by decide)
  | obj C => rw [ty_obj] at h; cases h
  | non => exact absurd h (by rw [ty_non]; decide)
  | bl b => exact absurd h (by rw [ty_bl]; decide)
  | str l => exact absurd h (by rw [ty_str]; decide)
/-! ### isinstance -/
def rIsD (K : PySem.W.Frag) (T : String) : List V → Hp → VK → Prop := fun xs H Q => ∃ (S : List Addr) (x : V) (d : D), xs = [x, .ty T] ∧ Rv K S H x d ∧ Q (.bl (d.isi T)) H
section
variable {X : Cx} {T : String}
theorem tyx_of {K : PySem.W.Frag} {S : List Addr} {H : Hp} {x : V} {d : D} (r : Rv K S H x d) (t : String) (h : d.ty = some t) : TyX K H x (.type t) := by
  cases r with
  | non => rw [ty_non] at h; cases h; exact .base .non
  | bl b => rw [ty_bl] at h; cases h; exact .base (.bl b)
  | int i => rw [ty_int] at h; cases h; exact .base (.int i)
  | str l hl => rw [ty_str] at h; cases h; exact .base (.str _)
  | lst hs _ _ _ => rw [ty_lst] at h; cases h; exact .base (.lst hs)
  | obj ho _ => rw [ty_obj] at h; cases h
  | tup hs _ _ =>
    rw [ty_tup] at h
    cases h
    rcases hs with (hs | ⟨o, hs⟩) | ⟨o, its, n, e, c, _⟩
    · exact .base (.tup hs)
    · exact .fTuple hs
    · exact .kTuple e c
theorem kit_str : ∀ t : String, t ∈ ["NoneType", "bool", "int", "str", "tuple", "list"] → kitB t "str" = some (t == "str") := by decide +kernel
theorem kit_int : ∀ t : String, t ∈ ["NoneType", "bool", "int", "str", "tuple", "list"] → kitB t "int" = some (t == "bool" || t == "int") := by decide +kernel
theorem kit_bool : ∀ t : String, t ∈ ["NoneType", "bool", "int", "str", "tuple", "list"] → kitB t "bool" = some (t == "bool") := by decide +kernel
theorem kit_tuple : ∀ t : String, t ∈ ["NoneType", "bool", "int", "str", "tuple", "list"] → kitB t "tuple" = some (t == "tuple") := by decide +kernel
theorem kit_list : ∀ t : String, t ∈ ["NoneType", "bool", "int", "str", "tuple", "list"] → kitB t "list" = some (t == "list") := by decide +kernel
theorem kit_d {d : D} {t : String} (h : d.ty = some t) (hT : T ∈ ["str", "int", "bool", "tuple", "list"]) : kitB t T = some (d.isi T) := by
  simp only [List.mem_cons, List.not_mem_nil, or_false] at hT
  have go : ∀ u, d.ty = some u → u = t := fun u e => by rw [h] at e; exact (Option.some.inj e).symm
  rcases hT with rfl | rfl | rfl | rfl | rfl <;> cases d
  all_goals first
    | (have q := go _ ty_non; subst q; first | exact kit_str _ (by decide) | exact kit_int _ (by decide) | exact kit_bool _ (by decide) | exact kit_tuple _ (by decide) | exact kit_list _ (by decide))
    | (have q := go _ ty_bl; subst q; first | exact kit_str _ (by decide) | exact kit_int _ (by decide) | exact kit_bool _ (by decide) | exact kit_tuple _ (by decide) | exact kit_list _ (by decide))
    | (have q := go _ ty_int; subst q; first | exact kit_str _ (by decide) | exact kit_int _ (by decide) | exact kit_bool _ (by decide) | exact kit_tuple _ (by decide) | exact kit_list _ (by decide))
    | (have q := go _ ty_str; subst q; first | exact kit_str _ (by decide) | exact kit_int _ (by decide) | exact kit_bool _ (by decide) | exact kit_tuple _ (by decide) | exact kit_list _ (by decide))
    | (have q := go _ ty_tup; subst q; first | exact kit_str _ (by decide) | exact kit_int _ (by decide) | exact kit_bool _ (by decide) | exact kit_tuple _ (by decide) | exact kit_list _ (by decide))
    | (have q := go _ ty_lst; subst q; first | exact kit_str _ (by decide) | exact kit_int _ (by decide) | exact kit_bool _ (by decide) | exact kit_tuple _ (by decide) | exact kit_list _ (by decide))
    | (rw [ty_obj] at h; cases h)
theorem D.has_ty (d : D) : (∃ t, d.ty = some t) ∨ ∃ C, d = .obj C := by
  cases d with
  | obj C => exact .inr ⟨C, rfl⟩
  | non => exact .inl ⟨_, ty_non⟩
  | bl b => exact .inl ⟨_, ty_bl⟩
  | int i => exact .inl ⟨_, ty_int⟩
  | str l => exact .inl ⟨_, ty_str⟩
  | tup ds => exact .inl ⟨_, ty_tup⟩
  | lst ds => exact .inl ⟨_, ty_lst⟩
theorem call_isiD (hT : T ∈ ["str", "int", "bool", "tuple", "list"]) : CallR X (.builtin "isinstance") (rIsD X.K T) := by
  intro pins s σ H xs us Q I r h
  obtain ⟨S, x, d, rfl, rv, q⟩ := h
  rcases d.has_ty with ⟨t, ht⟩ | ⟨C, rfl⟩
  · exact call_isi pins s σ H _ us Q I r ⟨x, .ty T, _, _, d.isi T, rfl, .ty T, tyx_of rv t ht, kit_ty (kit_d ht hT), q⟩
  · cases rv with
    | obj ho ok =>
      rename_i a
      obtain ⟨u1, u2, rfl, r1, r2⟩ := vals2 r
      cases r1
      cases (show u2 = Value.type T from r2)
      obtain ⟨⟨oe, vs, e1, ⟨e2, e3⟩, e4, _⟩, _⟩ := I.hok _ _ ho
      have J : PySem.W.InstAt s.heap a oe C none := by
        obtain ⟨oc, od, oda, osl⟩ := oe
        dsimp only at e2 e3 e4
        subst e2 e3 e4
        exact ⟨e1, rfl, rfl, trivial⟩
      have kit : PySem.W.kitOne X.K (.ref C) (.type T) = some ((D.obj C).isi T) := by
        simp only [List.mem_cons, List.not_mem_nil, or_false] at hT
        rcases hT with rfl | rfl | rfl | rfl | rfl
        · exact ok.is_str
        · exact ok.is_int
        · exact ok.is_bool
        · exact ok.is_tuple
        · exact ok.is_list
      exact PySem.W.kia_one (PySem.W.handS_kitx_exc ok.exc.hg ok.exc.hk ok.exc.hs ok.exc.hd ok.exc.ha ok.exc.hn ok.exc.ht ok.exc.hm) I.kIn J kit (fun z => nomatch z) fun tk => ⟨.bl ((D.obj C).isi T), H, I.kept (t' := tk) fun _ _ z => z, rfl, q⟩
end
theorem call_isiDK {X : Cx} {T : String} {K : PySem.W.Frag} (hK : X.K = K) (hT : T ∈ ["str", "int", "bool", "tuple", "list"]) : CallR X (.builtin "isinstance") (rIsD K T) := by
  subst hK
  exact call_isiD hT
/-! ### t[::-1] -/
section
variable {prog : Program} {w : World} {A : Around} {E : Value → Shared → Prop} {s : Shared}
open HT
theorem sliceApplied_rev {sl : Addr} {vl vu vs : Value} {n : Nat} {Q : Int × Int × Nat → Shared → Prop} (hs : s.heap.IsSliceOf sl vl vu vs) (pl : IsPart vl none) (pu : IsPart vu none) (ps : IsPart vs (some (-1)))
    (h : Q ((n : Int) - 1, -1, n) s) : wpAny (model prog w) A (Builtin.Slice.sliceApplied (.ref sl) (pure (n : Int))) Q E s := by
  obtain ⟨os, hos, hcs, hds⟩ := id hs
  unfold Builtin.Slice.sliceApplied Builtin.Slice.sliceFields
  refine wpAny_bind (wpAny_bind (wpAny_field hos hds (x := vl) rfl (wpAny_bind (wpAny_field hos hds (x := vu) rfl (wpAny_bind (wpAny_field hos hds (x := vs) rfl (wpAny_pure ?_)))))))
  refine wpAny_bind (slicePart_ ps ?_)
  show wpAny _ _ (if ((-1 : Int) == 0) = true then _ else _) _ _ s
  rw [if_neg (by decide)]
  refine wpAny_bind (slicePart_ pl (wpAny_bind (slicePart_ pu (wpAny_bind (wpAny_pure ?_)))))
  show wpAny _ _ (pure ((n : Int) - 1, (-1 : Int), Builtin.Slice.slicePlaces ((n : Int) - 1) (-1) (-1))) _ _ s
  have e : Builtin.Slice.slicePlaces ((n : Int) - 1) (-1) (-1) = n := by
    unfold Builtin.Slice.slicePlaces
    rw [if_neg (by decide)]
    by_cases c : (n : Int) - 1 > -1
    · rw [if_pos c, show (- -1 : Int) = 1 by decide, Int.ediv_one]
      omega
    · rw [if_neg c]
      omega
  rw [e]
  exact wpAny_pure h
theorem pick_rev (xs : Array Value) : ((List.range xs.size).filterMap fun (k : Nat) => xs[((xs.size : Int) - 1 + (k : Int) * (-1)).toNat]?).toArray = xs.toList.reverse.toArray := by
  have e : (fun (k : Nat) => xs[((xs.size : Int) - 1 + (k : Int) * (-1)).toNat]?) = (fun k => xs[xs.size - 1 - k]?) := by
    funext k
    have : ((xs.size : Int) - 1 + (k : Int) * (-1)).toNat = xs.size - 1 - k := by omega
    rw [this]
  rw [e]
  have e2 : (fun k => xs[xs.size - 1 - k]?) = (fun k => xs[k]?) ∘ fun k => xs.size - 1 - k := rfl
  rw [e2, ← List.filterMap_map, PySem.W.krv_range, List.filterMap_reverse, PySem.W.krv_all]
theorem getItem_tuple_rev {t sl : Addr} {items : Array Value} {vl vu vs : Value} {Q : Value → Shared → Prop} (ht : IsTup s.heap t items) (hs : s.heap.IsSliceOf sl vl vu vs) (pl : IsPart vl none) (pu : IsPart vu none) (ps : IsPart vs (some (-1)))
    (h : Q (.ref s.heap.objs.size) { s with heap := s.heap.push { cls := .type "tuple", data := .seq items.toList.reverse.toArray } })
    (hsz : items.size ≤ sizeLine) : wpAny (model prog w) A (getItem (.ref t) (.ref sl)) Q E s := by
  have htake : sizeOk (.seq items.toList.reverse.toArray) := by
    show items.toList.reverse.toArray.size ≤ sizeLine
    rw [List.size_toArray, List.length_reverse, Array.length_toList]
    exact hsz
  obtain ⟨os, hos, hcs, hds⟩ := id hs
  have hTs : s.TypeIs (.ref sl) "slice" := ⟨os, hos, hcs⟩
  unfold getItem
  try with_reducible refine wpAny_holding ?_
  first | refine wpAny_bind (wpAny_pure ?_) | skip
  refine wpAny_bind (wpAny_sequenceKey ht.typeIs (by decide) ?_)
  refine wpAny_bind (wpAny_callSpecial?_slot (name := Str.ofString "__getitem__") ht.typeIs PyProof.Rows.slot_tuple_getitem
    (wpAny_call_entry PyProof.Rows.slot_tuple_getitem ht.typeIs entry_tuple_getitem ?_ (args_tuple_getitem _ _)))
  show wpAny _ _ (Builtin.Tuple.tupleItemsOf (.ref t) >>= _) _ _ s
  refine wpAny_bind (tupleItemsOf_ ht ?_)
  refine wpAny_bind (wpAny_typeOf hTs ?_)
  rw [if_pos (by decide)]
  refine wpAny_bind (sliceApplied_rev hs pl pu ps ?_)
  have hno : ¬ ((((items.size : Int) - 1) == 0 && (-1 : Int) == 1 && items.size == items.size) = true) := by
    intro q
    rw [Bool.and_eq_true, Bool.and_eq_true] at q
    exact absurd q.1.2 (by decide)
  show wpAny _ _ (if (((items.size : Int) - 1) == 0 && (-1 : Int) == 1 && items.size == items.size) = true then _ else _) _ _ s
  rw [if_neg hno, pick_rev]
  first
    | exact wpAny_bind (m := Builtin.Tuple.tupleExact _) (wpAny_newObj_type (wpAny_pure ⟨_, rfl, wpAny_pure h⟩) htake)
    | exact wpAny_bind (m := Builtin.Tuple.tupleExact _) (wpAny_newObj_type (wpAny_bind (wpAny_pure (wpAny_pure ⟨_, rfl, wpAny_pure h⟩))) htake)
    | exact wpAny_bind (wpAny_bind (m := Builtin.Tuple.tupleExact _) (wpAny_newObj_type (wpAny_pure (wpAny_pure ⟨_, rfl, wpAny_pure h⟩)) htake))
    | exact wpAny_bind (wpAny_bind (m := Builtin.Tuple.tupleExact _) (wpAny_newObj_type (wpAny_pure ⟨_, rfl, wpAny_pure h⟩) htake))
end
section
variable {X : Cx}
def tRevT (K : PySem.W.Frag) (te : TE) : TE := fun σ H Q => te σ H fun x H1 => ∃ a xs, x = .ref a ∧ SqT K H1 a xs ∧ ∀ p, H1 p = none → Q (.ref p) (upd H1 p (.tup xs.reverse))
theorem pe_revT {e : Expr} {te : TE} {k : Nat} {p1 p2 p3 pos : Pos} (he : PE X e te) : PE X (.Subscript e (.Slice none none (some (.UnaryOp .USub (.Constant (.int 1) k p1) p2)) p3) pos) (tRevT X.K te) := by
  refine ⟨fun pins s σ H Q I h => ?_⟩
  refine Subscript_ (thn (he.run pins s σ H _ I h) fun v s1 ⟨x, H1, I1, r1, q1⟩ => ?_)
  obtain ⟨a, xs, ex, hx, q⟩ := q1
  subst ex
  cases r1
  have hst : PO X (some (.UnaryOp .USub (.Constant (.int 1) k p1) p2)) (tPart (tUn (rU fun i => .int (-i)) (tC (.int 1)))) := po_some (pe_un un_neg pe_int)
  refine wpAny_Slice (thn (po_none.run pins s1 σ H1 (fun o H2 => o = none ∧ H2 = H1) I1 ⟨rfl, rfl⟩) fun vl s2 ⟨l, H2, I2, pl, el, e2⟩ => ?_)
  subst el e2
  refine thn (po_none.run pins s2 σ H2 (fun o H3 => o = none ∧ H3 = H2) I2 ⟨rfl, rfl⟩) fun vu s3 ⟨u, H3, I3, pu, eu, e3⟩ => ?_
  subst eu e3
  refine thn (hst.run pins s3 σ H3 (fun o H4 => o = some (-1) ∧ H4 = H3) I3 ⟨1, rfl, -1, rfl, rfl, rfl⟩) fun vs s4 ⟨o, H4, I4, ps, eo, e4⟩ => ?_
  subst eo e4
  have I5 : Inv X pins σ H4 { s4 with heap := s4.heap.push { cls := .type "slice", data := .fields #[vl, vu, vs] } } := I4.kept (t' := s4.toks) fun b ob q => Heap.get?_push_of_some _ q
  obtain ⟨its, r, ht, hz⟩ := I5.tuple hx
  have hlen := r.length
  show wpAny (model X.prog X.w) X.A (subscriptTail e (.Slice none none (some (.UnaryOp .USub (.Constant (.int 1) k p1) p2)) p3) (.ref a) (.ref s4.heap.objs.size)) (EP X pins σ Q) X.xe { s4 with heap := s4.heap.push { cls := .type "slice", data := .fields #[vl, vu, vs] } }
  refine tail_any (ops := [.ref a, .ref s4.heap.objs.size]) ht.typeIs (PyProof.Rows.slot_tuple_getitem.lookup) ?_ (by with_unfolding_all rfl)
  refine getItem_tuple_rev ht (Heap.IsSliceOf.new _ vl vu vs) pl pu ps ?_ (by rw [List.size_toArray]; omega)
  refine ⟨.ref _, _, I5.laid (t' := s4.toks) (o := .tup xs.reverse) (fun b ob q => Heap.get?_push_of_some _ q) (Nat.le_refl _) ?_, rfl, q _ (I5.hok.fresh (Nat.le_refl _))⟩
  exact ⟨by rw [List.length_reverse]; exact hz, _, r.reverse, IsTup.new _ _⟩
end
/-! ### expressions that build values -/
def EvD (K : PySem.W.Frag) (S : List Addr) (te : TE) (σ : L2.St) (H : Hp) (d : D) : Prop := ∀ H1, Stp [] H H1 → ∀ Q : VK, (∀ v H2, Stp [] H1 H2 → Rv K S H2 v d → Q v H2) → te σ H1 Q
def EvDA (K : PySem.W.Frag) (S : List Addr) (ta : TA) (σ : L2.St) (H : Hp) (ds : List D) : Prop := ∀ H1, Stp [] H H1 → ∀ Q : List V → Hp → Prop, (∀ vs H2, Stp [] H1 H2 → RvL K S H2 vs ds → Q vs H2) → ta σ H1 Q
section
variable {K : PySem.W.Frag} {S : List Addr} {te : TE} {ta : TA} {σ : L2.St} {H : Hp} {d : D} {ds : List D}
theorem EvD.bl {b : Bool} : EvD K S (tC (.bl b)) σ H (.bl b) := fun H1 _ _ k => k _ H1 (Stp.refl _ _) (.bl b)
theorem EvD.int {i : Int} : EvD K S (tC (.int i)) σ H (.int i) := fun H1 _ _ k => k _ H1 (Stp.refl _ _) (.int i)
theorem EvD.non : EvD K S (tC .non) σ H .non := fun H1 _ _ k => k _ H1 (Stp.refl _ _) .non
theorem EvD.str {s : Str} (h : s.cps.toList.length ≤ 100000 := by decide +kernel) : EvD K S (tC (.str s)) σ H (wd s) := fun H1 _ _ k => k _ H1 (Stp.refl _ _) (Rv.lit s h)
theorem EvD.var {i : Nat} {v : V} (r : Rv K S H v d) (e : σ[i]? = some (some v) := by rfl) : EvD K S (tVar i) σ H d := fun H1 s _ k => ⟨v, e, k v H1 (Stp.refl _ _) (r.up s)⟩
theorem EvDA.nil : EvDA K S tNil σ H [] := fun H1 _ _ k => k [] H1 (Stp.refl _ _) .nil
theorem EvDA.cons (h : EvD K S te σ H d) (g : EvDA K S ta σ H ds) : EvDA K S (tCons te ta) σ H (d :: ds) := fun H1 s Q k =>
  h H1 s _ fun v H2 s2 r => g H2 (s.trans s2) _ fun vs H3 s3 rs => k (v :: vs) H3 (s2.trans s3) (.cons (r.up s3) rs)
theorem EvD.tup (h : EvDA K S ta σ H ds) (hl : ds.length ≤ 1000) : EvD K S (tTup ta) σ H (.tup ds) := fun H1 s Q k =>
  h H1 s _ fun vs H2 s2 rs => ⟨sz (by rw [rs.len]; omega), fun p np => k _ _ (s2.new' np) (Rv.newT np rs (by omega))⟩
theorem EvD.lst (L : Lsts H S) (h : EvDA K S ta σ H ds) (hl : ds.length ≤ 1000) : EvD K S (tLst ta) σ H (.lst ds) := fun H1 s Q k =>
  h H1 s _ fun vs H2 s2 rs => ⟨sz (by rw [rs.len]; omega), fun p np => k _ _ (s2.new' np) (Rv.newL (Pv.Lsts.up L (s.trans s2)) np rs (by omega))⟩
theorem EvD.exc {C : Addr} (ok : OkC K C) (h : EvD K S te σ H d) : EvD K S (fun σ H Q => te σ H fun _ H1 => ∀ a, H1 a = none → Q (.ref a) (upd H1 a (ExO (.ref C) a))) σ H (.obj C) := fun H1 s Q k =>
  h H1 s _ fun v H2 s2 _ => fun a na => k _ _ (s2.new' na) (.obj upd_same ok)
theorem EvD.pow {i j : Int} (h : CPow i j) : EvD K S (tOp (rI CPow fun i j => .int (i ^ j.toNat)) (tC (.int i)) (tC (.int j))) σ H (.int (i ^ j.toNat)) := fun H1 s Q k =>
  ⟨i, j, rfl, rfl, h, k _ _ (Stp.refl _ _) (.int _)⟩
theorem EvD.neg {i : Int} : EvD K S (tUn (rU fun i => .int (-i)) (tC (.int i))) σ H (.int (-i)) := fun H1 s Q k => ⟨i, rfl, k _ _ (Stp.refl _ _) (.int _)⟩
theorem EvDA.use (h : EvDA K S ta σ H ds) {Q : List V → Hp → Prop} (k : ∀ vs H2, Stp [] H H2 → RvL K S H2 vs ds → Q vs H2) : ta σ H Q := h H (Stp.refl _ _) Q k
theorem EvD.use (h : EvD K S te σ H d) {Q : VK} (k : ∀ v H2, Stp [] H H2 → Rv K S H2 v d → Q v H2) : te σ H Q := h H (Stp.refl _ _) Q k
theorem EvDA.newl (h : EvDA K S ta σ H ds) (hl : ds.length ≤ 1000) {Q : VK} (k : ∀ p vs H2, Stp [] H H2 → H p = none → H2 p = some (.lst vs) → RvL K S H2 vs ds → Q (.ref p) H2) : tLst ta σ H Q :=
  h.use fun vs H2 s rs => ⟨sz (by rw [rs.len]; omega), fun p np => k p vs _ (s.new' np) (s.fresh (fun m => nomatch m) np) upd_same (rs.up (Stp.new np []))⟩
end
/-! ### lists of truths, compared -/
theorem dp_bools {K : PySem.W.Frag} {H : Hp} : ∀ (bs : List Bool), DpAll K H (bs.map V.bl) (bs.map PyData.bool)
  | [] => .nil
  | b :: bs => .cons (.bl b) (dp_bools bs)
theorem lay_bools : ∀ (bs : List Bool), PyData.canLayAll0 (bs.map PyData.bool) = true
  | [] => rfl
  | b :: bs => by
    show (PyData.canLay0 (.bool b) && PyData.canLayAll0 (bs.map PyData.bool)) = true
    rw [lay_bools bs]
    rfl
theorem dep_bools : ∀ (bs : List Bool), PyData.depthAll (bs.map PyData.bool) = 0
  | [] => rfl
  | b :: bs => by
    show max 0 (PyData.depthAll (bs.map PyData.bool)) = 0
    rw [dep_bools bs]
    rfl
theorem shaped_bools (bs : List Bool) : SeqAt.shaped (.list (bs.map PyData.bool)) = true := by
  unfold SeqAt.shaped
  rw [show PyData.canLay0 (.list (bs.map PyData.bool)) = true from lay_bools bs]
  rw [show PyData.depth (.list (bs.map PyData.bool)) = 0 + 1 by show PyData.depthAll _ + 1 = _; rw [dep_bools]]
  rfl
/-- the same list of truths twice: != says no -/
theorem ne_bools {K : PySem.W.Frag} {H : Hp} {p q : Addr} {bs : List Bool} {Q : VK} (hp : SqL K H p (bs.map V.bl)) (hq : SqL K H q (bs.map V.bl)) (k : Q (.bl false) H) : rNeD K (.ref p) (.ref q) H Q := by
  refine ⟨.list (bs.map PyData.bool), .list (bs.map PyData.bool), .lst hp (dp_bools bs), .lst hq (dp_bools bs), shaped_bools bs, shaped_bools bs, ?_⟩
  rw [SeqAt.eqv_refl _ (show PyData.canLay0 (.list (bs.map PyData.bool)) = true from lay_bools bs)]
  exact k
end Pv
namespace Pv
open PySem PySem.Spec PyProof.Rows L2 Pg
/-- the ways of an expression, joined by what they leave -/
theorem te_join {te : TE} {σ : L2.St} {H : Hp} {Q : VK} (I : V → Hp → Prop) (h : (∀ v H', I v H' → Q v H') → te σ H Q) (k : ∀ v H', I v H' → Q v H') : te σ H Q := h k
/-- xs + ys, new lists of values -/
theorem cat_use {K : PySem.W.Frag} {S : List Addr} {H : Hp} {a b : Addr} {xs ys : List V} {ds es : List D} {Q : VK} (ha : H a = some (.lst xs)) (hb : H b = some (.lst ys)) (ra : RvL K S H xs ds) (rb : RvL K S H ys es) (hl : ds.length + es.length ≤ 100000)
    (k : ∀ p, H p = none → ∀ H' zs, Stp [] H H' → H' p = some (.lst zs) → RvL K S H' zs (ds ++ es) → Q (.ref p) H') : rCat (.ref a) (.ref b) H Q :=
  ⟨a, b, xs, ys, rfl, rfl, ha, hb, by rw [ra.len, rb.len]; exact sz hl, fun p np => k p np _ _ (Stp.new np _) upd_same ((ra.app rb).up (Stp.new np _))⟩
/-- xs + ys, also of a list that is locked -/
def rCatS (K : PySem.W.Frag) : R2 := fun x y H Q => ∃ l b xs zs, x = .ref l ∧ y = .ref b ∧ SqL K H l xs ∧ SqL K H b zs ∧ xs.length + zs.length ≤ sizeLine ∧ ∀ p, H p = none → Q (.ref p) (upd H p (.lst (xs ++ zs)))
theorem op_catS {X : Cx} : OpR X (binaryOp .Add) (rCatS X.K) := by
  intro pins s σ H x y v u Q I rx ry h
  obtain ⟨l, b, xs, zs, rfl, rfl, hH, hB, hz, q⟩ := h
  cases rx
  cases ry
  obtain ⟨its, r, pl, _⟩ := I.list hH
  obtain ⟨its2, r2, pl2, _⟩ := I.list hB
  have hl := r.length
  have hl2 := r2.length
  have ea : its.toArray ++ its2.toArray = (its ++ its2).toArray := by simp
  obtain ⟨⟨cls, dd, data, sl⟩, ho, hc, n, hd⟩ := pl.isList
  obtain ⟨⟨cls2, dd2, data2, sl2⟩, ho2, hc2, n2, hd2⟩ := pl2.isList
  simp only at hc hd hc2 hd2
  subst hc hd hc2 hd2
  refine concat_meets ⟨_, ho, rfl⟩ ⟨_, ho2, rfl⟩ noFill_list_add seq_list_add PySem.F.slot_list_add PySem.F.entry_list_add (PySem.F.args_list_add_2 _ _) (list_addW l b its.toArray its2.toArray n n2 dd dd2 sl sl2 (by rw [List.size_toArray, List.size_toArray]; omega)) ⟨ho, ho2, ?_⟩
  rw [ea]
  exact ⟨.ref _, _, I.lnew (t' := s.toks) (r.append r2) (by rw [List.length_append]; omega), rfl, q _ I.fresh⟩
theorem out_of {b p : Addr} {H : Hp} {o : HO} (h : H b = some o) (np : H p = none) : p ∉ [b] := fun m => by
  rw [List.mem_singleton.mp m, h] at np
  cases np
end Pv
namespace Pv
open PySem PySem.Spec PyProof.Rows L2 Pg
section
variable {K : PySem.W.Frag} {S : List Addr} {te : TE} {ta : TA} {σ : L2.St} {H : Hp} {d : D} {ds es : List D}
theorem catT {a b : Addr} {xs ys : List V} {Q : VK} (ha : SqT K H a xs) (hb : SqT K H b ys) (ra : RvL K S H xs ds) (rb : RvL K S H ys es) (hl : ds.length + es.length ≤ 100000)
    (k : ∀ p zs H', Stp [] H H' → SqT K H' p zs → RvL K S H' zs (ds ++ es) → Q (.ref p) H') : rCatA K (.ref a) (.ref b) H Q :=
  catA_use ha hb (by rw [ra.len, rb.len]; exact hl) fun p H' s h => k p _ H' s h ((ra.app rb).up s)
theorem upT {a : Addr} {xs : List V} {n : Nat} {Q : VK} (ha : SqT K H a xs) (ra : RvL K S H xs ds) (k : ∀ p zs H', Stp [] H H' → SqT K H' p zs → RvL K S H' zs (ds.take n) → Q (.ref p) H') : rSlA K (.ref a) none (some (n : Int)) H Q :=
  slA_use ha fun p H' s h => k p _ H' s (by rwa [cut_upto] at h) ((ra.take n).up s)
theorem fromT {a : Addr} {xs : List V} {n : Nat} {Q : VK} (ha : SqT K H a xs) (ra : RvL K S H xs ds) (k : ∀ p zs H', Stp [] H H' → SqT K H' p zs → RvL K S H' zs (ds.drop n) → Q (.ref p) H') : rSlA K (.ref a) (some (n : Int)) none H Q :=
  slA_use ha fun p H' s h => k p _ H' s (by rwa [cut_from] at h) ((ra.drop n).up s)
theorem fromT1 {a : Addr} {xs : List V} {n : Nat} {Q : VK} (ha : SqT K H a xs) (ra : RvL K S H xs ds) (k : ∀ p zs H', Stp [] H H' → SqT K H' p zs → RvL K S H' zs (ds.drop (n + 1)) → Q (.ref p) H') : rSlA K (.ref a) (some ((n : Int) + 1)) none H Q :=
  Pv.fromT (n := n + 1) ha ra k
/-! more expressions -/
theorem Rv.tupE {a : V} (r : Rv K S H a (.tup ds)) : ∃ p vs, a = .ref p ∧ SqT K H p vs ∧ vs.length ≤ 100000 ∧ RvL K S H vs ds := by
  cases r with
  | tup h n r => exact ⟨_, _, rfl, h, n, r⟩
theorem EvD.list (L : Lsts H S) (h : EvD K S te σ H (.tup ds)) : EvD K S (tCB (fun xs H Q => ∃ p ys, xs = [.ref p] ∧ (SqL K H p ys ∨ SqT K H p ys) ∧ ∀ l, H l = none → Q (.ref l) (upd H l (.lst ys))) (tCons te tNil)) σ H (.lst ds) := fun H1 s Q k =>
  h H1 s _ fun v H2 s2 r => by
    obtain ⟨p, vs, rfl, hs, n, rl⟩ := r.tupE
    exact ⟨_, _, rfl, .inr hs, fun l nl => k _ _ (s2.new' nl) (Rv.newL (Pg.Lsts.stp L (s.trans s2)) nl rl (by rw [← rl.len]; exact n))⟩
theorem EvD.upT {n : Nat} (h : EvD K S te σ H (.tup ds)) : EvD K S (tSl (rSlA K) te tNoPart (tPart (tC (.int (n : Int))))) σ H (.tup (ds.take n)) := fun H1 s Q k =>
  h H1 s _ fun v H2 s2 r => by
    obtain ⟨p, vs, rfl, hs, n, rl⟩ := r.tupE
    exact ⟨_, rfl, Pv.upT hs rl fun p zs H' s3 h2 r2 => k _ _ (s2.trans s3) (.tup h2 (by rw [r2.len, List.length_take, ← rl.len]; omega) r2)⟩
theorem EvD.fromT {n : Nat} (h : EvD K S te σ H (.tup ds)) : EvD K S (tSl (rSlA K) te (tPart (tC (.int (n : Int)))) tNoPart) σ H (.tup (ds.drop n)) := fun H1 s Q k =>
  h H1 s _ fun v H2 s2 r => by
    obtain ⟨p, vs, rfl, hs, n, rl⟩ := r.tupE
    exact ⟨_, rfl, Pv.fromT hs rl fun p zs H' s3 h2 r2 => k _ _ (s2.trans s3) (.tup h2 (by rw [r2.len, List.length_drop, ← rl.len]; omega) r2)⟩
theorem EvD.catT {tb : TE} (h : EvD K S te σ H (.tup ds)) (g : EvD K S tb σ H (.tup es)) (hl : ds.length + es.length ≤ 100000) : EvD K S (tOp (rCatA K) te tb) σ H (.tup (ds ++ es)) := fun H1 s Q k =>
  h H1 s _ fun v H2 s2 r => g H2 (s.trans s2) _ fun u H3 s3 q => by
    obtain ⟨p, vs, rfl, hs, n, rl⟩ := (r.up s3).tupE
    obtain ⟨p2, vs2, rfl, hs2, n2, rl2⟩ := q.tupE
    exact Pv.catT hs hs2 rl rl2 hl fun p zs H' s4 h2 r2 => k _ _ ((s2.trans s3).trans s4) (.tup h2 (by rw [r2.len, List.length_append]; exact hl) r2)
theorem EvD.ixT {i : Nat} (h : EvD K S te σ H (.tup ds)) (e : ds[i]? = some d) : EvD K S (tOp (rIxT K) te (tC (.int (i : Int)))) σ H d := fun H1 s Q k =>
  h H1 s _ fun v H2 s2 r => by
    obtain ⟨p, vs, rfl, hs, n, rl⟩ := r.tupE
    have hi : i < vs.length := by
      rw [rl.len]
      exact (List.getElem?_eq_some_iff.mp e).1
    obtain ⟨d', e', r'⟩ := rl.get (List.getElem?_eq_getElem hi)
    rw [e] at e'
    cases e'
    exact ⟨p, vs, _, _, rfl, rfl, hs, atI_nat (List.getElem?_eq_getElem hi), k _ _ s2 r'⟩
theorem EvD.revT (h : EvD K S te σ H (.tup ds)) : EvD K S (tRevT K te) σ H (.tup ds.reverse) := fun H1 s Q k =>
  h H1 s _ fun v H2 s2 r => by
    obtain ⟨p, vs, rfl, hs, n, rl⟩ := r.tupE
    exact ⟨p, vs, rfl, hs, fun p np => k _ _ (s2.new' np) (Rv.newT np rl.rev (by rw [List.length_reverse, ← rl.len]; exact n))⟩
theorem op_newl {r : R2} {tb : TE} {Q : VK} (h : EvDA K S ta σ H ds) (hl : ds.length ≤ 1000) (k : ∀ p vs H2, Stp [] H H2 → H p = none → H2 p = some (.lst vs) → RvL K S H2 vs ds → tb σ H2 fun y H3 => r (.ref p) y H3 Q) : tOp r (tLst ta) tb σ H Q := h.newl hl k
theorem EvDA.one (h : EvD K S te σ H d) : EvDA K S (tCons te tNil) σ H [d] := .cons h .nil
end
end Pv
namespace Pv
open PySem PySem.Spec PyProof.Rows L2 Pg
/-! ### xs == [], xs any values -/
def rEqNil (K : PySem.W.Frag) : R2 := fun x y H Q => ∃ a b xs, x = .ref a ∧ y = .ref b ∧ a ≠ b ∧ SqL K H a xs ∧ SqL K H b [] ∧ Q (.bl xs.isEmpty) H
def rNeNil (K : PySem.W.Frag) : R2 := fun x y H Q => ∃ a b xs, x = .ref a ∧ y = .ref b ∧ a ≠ b ∧ SqL K H a xs ∧ SqL K H b [] ∧ Q (.bl (!xs.isEmpty)) H
theorem op_eqNil {X : Cx} (hu : X.A.units + 64 < cLine) : OpR X (compareOp .Eq) (rEqNil X.K) := by
  intro pins s σ H x y v u Q I rx ry h
  obtain ⟨a, b, xs, rfl, rfl, ne, hH, hB, q⟩ := h
  cases rx
  cases ry
  obtain ⟨its, r, pl, _⟩ := I.list hH
  obtain ⟨its2, r2, pl2, _⟩ := I.list hB
  cases r2
  cases xs with
  | nil =>
    cases r
    refine SeqAt.RcAt.lists (e := fun _ => true) pl.isList pl2.isList rfl (by omega) (fun j h1 h2 => absurd h1 (by simp)) _ _ _ _ ?_
    exact ⟨.bl true, H, I, rfl, q⟩
  | cons x xs =>
    cases r with
    | cons r1 r =>
      refine SeqAt.RcAt.lists_lengths pl.isList pl2.isList (by simp) (by omega) _ _ _ _ ?_
      exact ⟨.bl false, H, I, rfl, q⟩
theorem op_neNil {X : Cx} (hu : X.A.units + 64 < cLine) : OpR X (compareOp .NotEq) (rNeNil X.K) := by
  intro pins s σ H x y v u Q I rx ry h
  obtain ⟨a, b, xs, rfl, rfl, ne, hH, hB, q⟩ := h
  cases rx
  cases ry
  obtain ⟨its, r, pl, _⟩ := I.list hH
  obtain ⟨its2, r2, pl2, _⟩ := I.list hB
  cases r2
  cases xs with
  | nil =>
    cases r
    refine SeqAt.RcNeAt.lists (e := fun _ => true) pl.isList pl2.isList rfl (by omega) (fun j h1 h2 => absurd h1 (by simp)) _ _ _ _ ?_
    exact ⟨.bl false, H, I, rfl, q⟩
  | cons x xs =>
    cases r with
    | cons r1 r =>
      refine SeqAt.RcNeAt.lists_lengths pl.isList pl2.isList (by simp) (by omega) _ _ _ _ ?_
      exact ⟨.bl true, H, I, rfl, q⟩
/-- one value told twice -/
theorem eq_rel {v : V} {d : D} {K : PySem.W.Frag} {S : List Addr} {H : Hp} {u u' : Value} (h : Rv K S H v d) (r : RelV v u) (r' : RelV v u') (A : Around) (s : Shared) : SeqAt.EqAt A s u u' true := by
  cases h with
  | non => cases r; cases r'; exact SeqAt.EqAt.same _
  | bl b => cases r; cases r'; exact SeqAt.EqAt.same _
  | int i =>
    obtain ⟨t, rfl⟩ := r
    obtain ⟨t', rfl⟩ := r'
    have := (MeetsSeq.EqGives.int i i t t').at A s
    rwa [show (i == i) = true from beq_self_eq_true i] at this
  | str l hl =>
    obtain ⟨t, rfl⟩ := r
    obtain ⟨t', rfl⟩ := r'
    have := (SeqRoads2.EqGives.str (tx l) (tx l) t t').at A s
    rwa [show ((tx l).cps.toList == (tx l).cps.toList) = true from beq_self_eq_true _] at this
  | tup _ _ _ => cases r; cases r'; exact SeqAt.EqAt.same _
  | lst _ _ _ _ => cases r; cases r'; exact SeqAt.EqAt.same _
  | obj _ _ => cases r; cases r'; exact SeqAt.EqAt.same _
theorem vals_at : ∀ {vs : List V} {us us' : List Value} {ds : List D} {K : PySem.W.Frag} {S : List Addr} {H : Hp}, RvL K S H vs ds → Vals vs us → Vals vs us' → ∀ (A : Around) (s : Shared) (j : Nat) (h1 : j < us.length) (h2 : j < us'.length), SeqAt.EqAt A s us[j] us'[j] true
  | _, _, _, _, _, _, _, .nil, .nil, .nil, _, _, _, h1, _ => absurd h1 (Nat.not_lt_zero _)
  | _, _, _, _, _, _, _, .cons h _, .cons r _, .cons r' _, A, s, 0, _, _ => eq_rel h r r' A s
  | _, _, _, _, _, _, _, .cons _ h, .cons _ r, .cons _ r', A, s, j + 1, h1, h2 => vals_at h r r' A s j (Nat.lt_of_succ_lt_succ h1) (Nat.lt_of_succ_lt_succ h2)
/-- xs != ys, both hold the same values -/
def rNeL (K : PySem.W.Frag) : R2 := fun x y H Q => ∃ (S : List Addr) (a b : Addr) (xs : List V) (ds : List D), x = .ref a ∧ y = .ref b ∧ SqL K H a xs ∧ SqL K H b xs ∧ RvL K S H xs ds ∧ Q (.bl false) H
theorem op_neL {X : Cx} (hu : X.A.units + 64 < cLine) : OpR X (compareOp .NotEq) (rNeL X.K) := by
  intro pins s σ H x y v u Q I rx ry h
  obtain ⟨S, a, b, xs, ds, rfl, rfl, hH, hB, rv, q⟩ := h
  cases rx
  cases ry
  obtain ⟨its, r, pl, _⟩ := I.list hH
  obtain ⟨its2, r2, pl2, _⟩ := I.list hB
  have e1 := Vals.length r
  have e2 := Vals.length r2
  refine SeqAt.RcNeAt.lists (e := fun _ => true) pl.isList pl2.isList (by simp; omega) (by omega) (fun j h1 h2 => ?_) _ _ _ _ ?_
  · have := vals_at rv r r2 X.A.in1 s j (by simpa using h1) (by simpa using h2)
    simpa using this
  · refine ⟨.bl _, H, I, rfl, ?_⟩
    rw [show ((List.range its.toArray.size).all fun _ => true) = true from by simp]
    exact q
end Pv
namespace PySem.W
open PySem PySem.Spec PySem.Calls PyProof.Rows Sem
/-- what a class says of == and != : no own ones -/
structure SameC (K : Frag) (D : Addr) : Prop where
  eq : findIn K (.ref D) "__eq__" = some (some (.builtin "object.__eq__"))
  ne : findIn K (.ref D) "__ne__" = some (some (.builtin "object.__ne__"))
  sub : subIn K (.ref D) (.type "object") = some true
section
variable {prog : Program} {w : World} {A : Around} {E : Value → Shared → Prop} {K : Frag} {x D : Addr} {ox : Obj} {h : Heap} {g : Array GenState} {d : Drawn} {t : Nat} {os : OsState}
theorem sp_same {name : Str} {id : String} {args : List Value} {Q : Option Value → Shared → Prop} (LS : Looks (model prog w) h (specialOf (.ref x) name) (some (.builtin id))) (S : PySem.Slot "object" name id)
    (hcall : wpAny (model prog w) A (call (.builtin id) (.ref x :: args)) (fun v => Q (some v)) E ⟨h, g, d, t, os⟩) : wpAny (model prog w) A (callSpecialIfBound? (.ref x) name args) Q E ⟨h, g, d, t, os⟩ := by
  simp only [callSpecialIfBound?, bindSpecialIfBound?]
  refine wpAny_holding (wpAny_bind (wpAny_bind (LS.at ?_)))
  simp only [S.bind]
  refine wpAny_bind (wpAny_askSetting (wpAny_ite ?_))
  have fin : wpAny (model prog w) A (call (.builtin id) ([.ref x] ++ args) >>= fun v => Pure.pure (some v)) Q E ⟨h, g, d, t, os⟩ :=
    wpAny_bind (wpAny_mono hcall (fun v s' h' => wpAny_pure h') fun _ _ h' => h')
  split
  · exact wpAny_bind (wpAny_pure (wpAny_pure fin))
  · exact wpAny_tryCatch (wpAny_bind (wpAny_pure (wpAny_pure fin)))
theorem eq_same (C : SameC K D) (X : K.In h) (I : InstAt h x ox D none) {Q : Option Value → Shared → Prop} (hq : Q (some (.bool true)) ⟨h, g, d, t, os⟩) :
    wpAny (model prog w) A (callSpecialIfBound? (.ref x) "__eq__" [.ref x]) Q E ⟨h, g, d, t, os⟩ := by
  have L0 := I.type (M := model prog w)
  have sub : Looks (model prog w) h (isInstance (.ref x) (.type "object")) true := L0.andThen (looks_subIn X C.sub)
  refine sp_same (L0.andThen (looks_findIn X C.eq)) PySem.F.cmp_object.eq ?_
  refine wpAny_call (codeAny_call_builtin PySem.F.cmp_object.eq.plain PySem.F.cmpEntry_eq ?_)
  exact @check_slot (model prog w) _ _ ⟨h, g, d, t, os⟩ "object.__eq__" "object" "__eq__" (.ref x) [.ref x] [] _ PySem.F.cmpKind_eq PySem.F.cmpSplit_eq sub (PySem.F.cmpArgs_eq _ _) (objEq_entry_same hq)
theorem ne_same (C : SameC K D) (X : K.In h) (I : InstAt h x ox D none) (hu : A.units + 1 < cLine) {Q : Option Value → Shared → Prop} (hq : Q (some (.bool false)) ⟨h, g, d, t, os⟩) :
    wpAny (model prog w) A (callSpecialIfBound? (.ref x) "__ne__" [.ref x]) Q E ⟨h, g, d, t, os⟩ := by
  have L0 := I.type (M := model prog w)
  have sub : Looks (model prog w) h (isInstance (.ref x) (.type "object")) true := L0.andThen (looks_subIn X C.sub)
  refine sp_same (L0.andThen (looks_findIn X C.ne)) PySem.F.cmp_object.ne ?_
  refine wpAny_call (codeAny_call_builtin PySem.F.cmp_object.ne.plain PySem.F.cmpEntry_ne ?_)
  refine @check_slot (model prog w) _ _ ⟨h, g, d, t, os⟩ "object.__ne__" "object" "__ne__" (.ref x) [.ref x] [] _ PySem.F.cmpKind_ne PySem.F.cmpSplit_ne sub (PySem.F.cmpArgs_ne _ _) ?_
  unfold Builtin.«object.__ne__»
  repeat (first | with_reducible refine wpAny_cRoomFor hu ?_ | with_reducible refine eq_same C X I ?_ | wp_step)
  exact hq
theorem compare_ne_same (C : SameC K D) (X : K.In h) (I : InstAt h x ox D none) (hu : A.units + 1 < cLine) {Q : Value → Shared → Prop} (hq : Q (.bool false) ⟨h, g, d, t, os⟩) :
    wpAny (model prog w) A (compareOp .NotEq (.ref x) (.ref x)) Q E ⟨h, g, d, t, os⟩ := by
  have hu0 : A.units < cLine := Nat.lt_of_succ_lt hu
  show wpAny (model prog w) A (richCompare .NotEq (.ref x) (.ref x)) Q E ⟨h, g, d, t, os⟩
  simp only [richCompare, cmpInfo_NotEq, oneThing_ref]
  have L0 := I.type (M := model prog w)
  have tc : ∀ {Q : Option Value → Shared → Prop}, Q (some (.bool false)) ⟨h, g, d, t, os⟩ → wpAny (model prog w) A (tryCompare (.ref x) "__ne__" (.ref x)) Q E ⟨h, g, d, t, os⟩ := fun hq => by
    simp only [tryCompare]
    exact wpAny_bind (ne_same C X I hu (wpAny_pure hq))
  repeat (first | with_reducible refine wpAny_cRoomFor hu0 ?_ | with_reducible refine L0.at ?_ | with_reducible refine tc ?_ | wp_step)
  exact hq
end
end PySem.W
namespace Pv
open PySem PySem.Spec PyProof.Rows L2 Pg
/-- x != x, any value -/
def rNeV (K : PySem.W.Frag) : R2 := fun x y H Q => x = y ∧ ∃ (S : List Addr) (d : D), Rv K S H x d ∧ (∀ C, d = .obj C → PySem.W.SameC K C) ∧ Q (.bl false) H
/-- kept != due: lists of the same values, or one value -/
def rNeK (K : PySem.W.Frag) : R2 := fun x y H Q => rNeL K x y H Q ∨ rNeV K x y H Q
theorem op_neK {X : Cx} (hu : X.A.units + 64 < cLine) : OpR X (compareOp .NotEq) (rNeK X.K) := by
  intro pins s σ H x y v u Q I rx ry h
  rcases h with h | ⟨rfl, S, d, rv, ob, q⟩
  · exact op_neL hu pins s σ H x y v u Q I rx ry h
  · have sc := fun e => op_ne pins s σ H x x v u Q I rx ry ⟨e, by rw [decide_eq_true rfl]; exact q⟩
    cases rv with
    | non => exact sc rfl
    | bl b => exact sc rfl
    | int i => exact sc rfl
    | str l hl => exact sc rfl
    | lst ha hn hl rl => exact op_neL hu pins s σ H _ _ v u Q I rx ry ⟨S, _, _, _, _, rfl, rfl, SqL.of ha, SqL.of ha, rl, q⟩
    | tup hs hl rl =>
      cases rx
      cases ry
      obtain ⟨its, r, pl, _⟩ := I.tuple hs
      refine SeqAt.RcNeAt.tuples (e := fun _ => true) pl pl (by omega) (fun j h1 h2 => SeqAt.EqAt.same _) _ _ _ _ ?_
      refine ⟨.bl _, H, I, rfl, ?_⟩
      have e : ∀ n : Nat, ((List.range n).all fun _ => true) = true := fun n => List.all_eq_true.mpr fun _ _ => rfl
      rw [e]
      simpa using q
    | obj ho ok =>
      rename_i a C
      cases rx
      cases ry
      obtain ⟨⟨oe, vs, e1, ⟨e2, e3⟩, e4, _⟩, _⟩ := I.hok _ _ ho
      have J : PySem.W.InstAt s.heap a oe C none := by
        obtain ⟨oc, od, oda, osl⟩ := oe
        dsimp only at e2 e3 e4
        subst e2 e3 e4
        exact ⟨e1, rfl, rfl, trivial⟩
      obtain ⟨hp, g, d, t, os⟩ := s
      refine PySem.W.compare_ne_same (ob C rfl) I.kIn J (by omega) ⟨.bl false, H, I, rfl, q⟩
end Pv
namespace Pg
open PySem PySem.Spec PyProof.Rows L2 PySem.Froz
/-! ### sets of texts, with what their order leans on -/
/-- the payload D holds the texts l; its table rises, and its order is to be told -/
structure TxR (P : Program) (w : World) (D : SD) (l : List Str) : Prop where
  ok : TxOk P w D l
  all : ∃ us : List Tok, us.length = l.length ∧ D.1.toList.Perm ((l.zip us).map fun p => (hashStr w p.1, Value.str p.1 p.2))
  nd : l.Nodup
  ris : Ris D.2.2.place.toList
  led : w.params.followText "set-order" = true ∨ D.2.2.led = true
section
variable {P : Program} {w : World} {A : Around} {E : Value → Shared → Prop} {s : Shared}
theorem tail_ris {ep : Nat} {xs : Array (Int × Value)} {t : SetTable} {b : Bool} (h : Ris t.place.toList) : Ris (tailTx ep xs t b).2.2.place.toList := by
  unfold tailTx
  by_cases c : (!b && t.tooFull) = true
  · rw [if_pos c]; exact relayAll_ris _ _ _
  · rw [if_neg c]; exact h
theorem tail_led {ep : Nat} {xs : Array (Int × Value)} {t : SetTable} {b : Bool} : (tailTx ep xs t b).2.2.led = t.led := by
  unfold tailTx
  by_cases c : (!b && t.tooFull) = true
  · rw [if_pos c]; exact relayAll_led _ _ _
  · rw [if_neg c]
theorem tail_all {ep : Nat} {xs : Array (Int × Value)} {t : SetTable} {b : Bool} : (tailTx ep xs t b).1.toList.Perm xs.toList := by
  unfold tailTx
  by_cases c : (!b && t.tooFull) = true
  · rw [if_pos c]; exact relayAll_perm _ _ _
  · rw [if_neg c]
theorem TxR.add {D : SD} {l : List Str} {k : Str} (u : Tok) (R : TxR P w D l) (hk : k ∉ l) : TxR P w (addTx (hashStr w k) (.str k u) D) (k :: l) := by
  obtain ⟨us, hu, hp⟩ := R.all
  refine ⟨add_ok u R.ok, ⟨u :: us, by rw [List.length_cons, List.length_cons, hu], ?_⟩, List.nodup_cons.mpr ⟨hk, R.nd⟩, ?_, ?_⟩
  · have p1 : (addTx (hashStr w k) (.str k u) D).1.toList.Perm (D.1.push (hashStr w k, .str k u)).toList := tail_all.trans (layNew_perm _ _ _ _)
    rw [Array.toList_push] at p1
    exact p1.trans ((List.perm_append_singleton _ _).trans (hp.cons _))
  · refine tail_ris ?_
    have q := layNew_ris D.2.2 D.1 (hashStr w k) (.str k u) R.ris
    split
    · exact q
    · exact q
  · have e1 : (addTx (hashStr w k) (.str k u) D).2.2.led = D.2.2.led := by
      unfold addTx
      rw [tail_led]
      have q := layNew_led D.2.2 D.1 (hashStr w k) (.str k u)
      split
      · exact q
      · exact q
    exact R.led.imp id fun z => e1.trans z
/-- a text that is there already is put in -/
theorem add_old {a : Addr} {T : String} {D : SD} {l : List Str} {k : Str} {u : Tok} {Q : Bool → Shared → Prop} (at_ : s.heap.get? a = some (sObj T D)) (F : TxOk P w D l) (hk : k ∈ l) (hb : l.length < scanBound)
    (h : Q false s) : wpAny (model P w) A (setAddHashed a (.str k u) (hashStr w k)) Q E s := by
  obtain ⟨xs, ep, t⟩ := D
  obtain ⟨e, he, hq⟩ := (F.mem k).mp hk
  have size : xs.size < scanBound := by have e : xs.size = l.length := F.sz; omega
  obtain ⟨j, hj⟩ : ∃ j, List.findIdx? (fun e => (strKind P w).is k e.2) xs.toList = some j := by
    cases c : List.findIdx? (fun e => (strKind P w).is k e.2) xs.toList with
    | some j => exact ⟨j, rfl⟩
    | none =>
      have := List.findIdx?_eq_none_iff.mp c e he
      rw [hq] at this
      cases this
  have dat : (sObj T (xs, ep, t)).data = .set xs ep t := rfl
  unfold setAddHashed setAddHashedIn
  refine wpAny_holding (wpAny_bind (wpAny_setState_of at_ dat F.fit ?_)); dsimp only
  rw [byScan_of rfl size F.el]; simp only [↓reduceIte]
  unfold setAddByScan
  refine wpAny_bind (wpAny_bind (wpAny_rule (wpAny_bind (wpAny_setScan_of (knd := strKind P w) (k := k) (is_str k u) at_ dat F.fit F.el ?_))))
  rw [hj]; dsimp only
  exact wpAny_pure (wpAny_pure h)
end
end Pg
namespace Pg
open PySem PySem.Spec PyProof.Rows L2 PySem.Froz
/-- of some texts each once: in the order in which a set takes them -/
def onceL (acc : List Str) : List Str → List Str
  | [] => acc
  | x :: xs => onceL (if x ∈ acc then acc else x :: acc) xs
theorem once_mem : ∀ (xs acc : List Str) (k : Str), k ∈ onceL acc xs ↔ k ∈ acc ∨ k ∈ xs
  | [], acc, k => by show k ∈ acc ↔ _; simp
  | x :: xs, acc, k => by
    show k ∈ onceL (if x ∈ acc then acc else x :: acc) xs ↔ _
    rw [once_mem xs]
    by_cases h : x ∈ acc
    · rw [if_pos h, List.mem_cons]
      constructor
      · rintro (q | q)
        · exact .inl q
        · exact .inr (.inr q)
      · rintro (q | rfl | q)
        · exact .inl q
        · exact .inl h
        · exact .inr q
    · rw [if_neg h, List.mem_cons, List.mem_cons]
      constructor
      · rintro ((q | q) | q)
        · exact .inr (.inl q)
        · exact .inl q
        · exact .inr (.inr q)
      · rintro (q | q | q)
        · exact .inl (.inr q)
        · exact .inl (.inl q)
        · exact .inr q
theorem once_len : ∀ (xs acc : List Str), (onceL acc xs).length ≤ acc.length + xs.length
  | [], acc => Nat.le_refl _
  | x :: xs, acc => by
    have h := once_len xs (if x ∈ acc then acc else x :: acc)
    show (onceL (if x ∈ acc then acc else x :: acc) xs).length ≤ _
    have e : (if x ∈ acc then acc else x :: acc).length ≤ acc.length + 1 := by split <;> simp
    rw [List.length_cons]
    omega
/-- a set of these texts stands at a -/
def SetS (P : Program) (w : World) (h : Heap) (a : Addr) (l : List Str) : Prop := ∃ D, h.get? a = some (sObj "set" D) ∧ TxR P w D l
section
variable {P : Program} {w : World} {A : Around} {E : Value → Shared → Prop} {s : Shared}
/-- one text is put in, new or not -/
theorem put_txt {a : Addr} {l : List Str} {k : Str} {u : Tok} {Q : Bool → Shared → Prop} (R : SetS P w s.heap a l) (hb : l.length + 1 < scanBound)
    (h : ∀ (b : Bool) h', Heap.SameBut a s.heap h' → SetS P w h' a (if k ∈ l then l else k :: l) → Q b { s with heap := h' }) : wpAny (model P w) A (setAddHashed a (.str k u) (hashStr w k)) Q E s := by
  obtain ⟨D, at_, R⟩ := R
  by_cases hk : k ∈ l
  · refine add_old at_ R.ok hk (by omega) ?_
    exact h false s.heap (Heap.SameBut.refl _ _) (by rw [if_pos hk]; exact ⟨D, at_, R⟩)
  · refine add_x at_ R.ok hk hb ?_
    refine h true _ (Heap.SameBut.update s.heap a _) ?_
    rw [if_neg hk]
    exact ⟨_, get_upd _ at_ rfl, R.add u hk⟩
end
section
variable {prog : Program} {w : World} {A : Around} {R : Result → Shared → Prop} {I : Addr} {fp wr : List Addr} {G : Array GenState → Array GenState → Prop} {n : Nat} {P : Nat → Value → Prop} {St : Nat → Shared → Prop}
theorem SetS.moved {h h' : Heap} {a : Addr} {l : List Str} (R : SetS prog w h a l) (k : ∀ o, h.get? a = some o → h'.get? a = some o) : SetS prog w h' a l := by
  obtain ⟨D, at_, q⟩ := R
  exact ⟨D, k _ at_, q⟩
/-- the loop that puts the items of a walk in -/
theorem puts (W : WalksS prog w A.in1 I fp wr G n P St) {D : Addr} (out : D ∉ fp) (xs : List Str) (len : xs.length = n) (few : n + 1 < scanBound) (is : ∀ i v, P i v → ∃ t, v = .str (xs.getD i Str.empty) t) :
    ∀ (m i : Nat) (s : Shared) (acc : List Str), n - i = m → i ≤ n → acc.length ≤ i → St i s → SetS prog w s.heap D acc →
      (∀ s', Moved (D :: wr) G s s' → SetS prog w s'.heap D (onceL acc (xs.drop i)) → R (.ok (.ret .none)) s') →
      codeAny (model prog w) A (.builtin "set.update.loop" ⟨[.ref D, .ref I], []⟩) R s := by
  have offw : D ∉ wr := fun q => out (W.sub _ q)
  have up : ∀ b ∈ wr, b ∈ D :: wr := fun b q => List.mem_cons_of_mem _ q
  intro m
  induction m with
  | zero =>
    intro i s acc hm hi _ st S fin
    obtain rfl : i = n := by omega
    refine codeAny_builtin PyProof.Rows.F.entry_set_update_loop ?_
    rw [Around.under_plainId PyProof.Rows.F.plain_set_update_loop _]
    refine wpAny_bind (W.done s _ _ st fun s' mv => wpAny_pure (fin s' (mv.mono up) ?_))
    rw [List.drop_of_length_le (by omega)]
    exact S.moved fun o e => mv.heap D o offw e
  | succ m ih =>
    intro i s acc hm hi ha st S fin
    have lt : i < n := by omega
    refine codeAny_builtin PyProof.Rows.F.entry_set_update_loop ?_
    rw [Around.under_plainId PyProof.Rows.F.plain_set_update_loop _]
    refine wpAny_bind (W.item i s _ _ lt st fun v s' pv st' mv => ?_)
    obtain ⟨t, rfl⟩ := is i v pv
    have S' : SetS prog w s'.heap D acc := S.moved fun o e => mv.heap D o offw e
    show wpAny _ A.in1 (holding [Value.str (xs.getD i Str.empty) t] (setAdd D (.str (xs.getD i Str.empty) t)) >>= _) _ _ s'
    refine wpAny_bind (wpAny_holding ?_)
    unfold setAdd
    refine wpAny_holding (wpAny_bind ((PySem.strKind prog w).pyHash (k := xs.getD i Str.empty) (strKind_is _ _ _ _) ?_))
    refine put_txt (s := { s' with toks := s'.toks + 1 }) S' (by omega) fun b h' sb S2 => ?_
    have dr : xs.drop i = xs.getD i Str.empty :: xs.drop (i + 1) := by
      rw [List.drop_eq_getElem_cons (by omega), List.getD_eq_getElem?_getD, List.getElem?_eq_getElem (by omega)]
      rfl
    refine wpAny_pure ⟨plainId_quiet PyProof.Rows.F.plain_set_update_loop _, ih (i + 1) _ (if xs.getD i Str.empty ∈ acc then acc else xs.getD i Str.empty :: acc) (by omega) lt ?_ (W.frame _ s' _ _ st' (Nat.le_succ _) fun b hb o e => ?_) S2 fun s'' mv2 S3 => ?_⟩
    · split
      · omega
      · rw [List.length_cons]; omega
    · rw [sb.2 b fun z => out (z ▸ hb)]; exact e
    · refine fin s'' (Moved.trans W.gtrans ((mv.mono up).then_heap (Nat.le_succ _) fun b o hb e => ?_) mv2) ?_
      · rw [sb.2 b fun z => hb (z ▸ List.mem_cons_self)]; exact e
      · rw [dr]; exact S3
end
end Pg
namespace Pg
open PySem PySem.Spec PyProof.Rows L2 PySem.Froz
section
variable {prog : Program} {w : World} {A : Around} {E : Value → Shared → Prop} {s : Shared}
/-- an empty set as it is laid -/
abbrev set0 (w : World) : Obj := { cls := .type "set", dict := none, data := .set #[] 0 (.fresh 0 0 (!w.params.followText "set-order")) }
theorem code_new1 (x : Value) {Z : Value → Shared → Prop} (h : Z (.ref s.heap.objs.size) { s with heap := s.heap.push (set0 w) }) : codeAny (model prog w) A (.call (.builtin "set.__new__") ⟨[.type "set", x], []⟩) (wants Z E) s := by
  refine codeAny_of_tree ?_
  show wpAny _ A.in1 (do checkBuiltinCall "set.__new__" ⟨[.type "set", x], []⟩; again (.builtin "set.__new__" ⟨[.type "set", x], []⟩)) _ _ s
  refine wpAny_bind (wpAny_of_eq (PySem.F.newCall_set_1 x) (wpAny_pure ⟨plainId_quiet PySem.F.plain_set_new _, codeAny_builtin PySem.F.entry_set_new ?_⟩)); rw [Around.under_plainId PySem.F.plain_set_new _]
  unfold Builtin.«set.__new__» Builtin.Frozenset.newClass
  have _sub := sub_set_self
  obtain ⟨heap, gens, drawn, toks, os⟩ := s; dsimp only; wp_walk
  refine wpAny_askSetting (wpAny_pure ?_); dsimp only; simp only [newObj]
  exact wpAny_bind (wpAny_alloc (wpAny_pure (wpAny_pure h)))
theorem set0_ok {h : Heap} : SetS prog w (h.push (set0 w)) h.objs.size [] := by
  refine ⟨(#[], 0, .fresh 0 0 (!w.params.followText "set-order")), Heap.get?_push_size _ rfl, TxOk.nil (by rfl), ⟨[], rfl, List.Perm.refl _⟩, List.nodup_nil, List.Pairwise.nil, ?_⟩
  show _ ∨ (!w.params.followText "set-order") = true
  cases w.params.followText "set-order" with
  | true => exact .inl rfl
  | false => exact .inr rfl
theorem str_at : ∀ {vs : List Value} {xs : List Str}, StrsAre vs xs → ∀ (i : Nat) (v : Value), vs[i]? = some v → ∃ t, v = .str (xs.getD i Str.empty) t
  | _, _, .nil, i, v, h => by simp at h
  | _, _, .cons n t r, 0, v, h => by
    rw [List.getElem?_cons_zero] at h
    exact ⟨t, (Option.some.inj h).symm⟩
  | _, _, .cons n t r, i + 1, v, h => str_at r i v h
set_option maxHeartbeats 4000000 in
/-- set(xs), xs a list of texts -/
theorem call_set_txt {l : Addr} {items : Array Value} {xs : List Str} {Q : Value → Shared → Prop} (hh : A.handled = none) (hl : s.heap.IsList l items) (his : StrsAre items.toList xs) (few : xs.length + 1 < scanBound)
    (h : ∀ (h' : Heap) (tk : Nat), SetS prog w h' s.heap.objs.size (onceL [] xs) → (∀ b o, s.heap.get? b = some o → h'.get? b = some o) → Q (.ref s.heap.objs.size) { s with heap := h', toks := tk }) :
    wpAny (model prog w) A (call (.type "set") [.ref l]) Q E s := by
  obtain ⟨cc, tt, mro⟩ := PySem.F.called_set.mro
  have g1 := PySem.F.called_set.made; have g2 := PySem.F.called_set.sub
  refine wpAny_call (codeAny_of_tree (wpAny_pure ⟨Code.quiet_builtin _ (by decide +kernel), codeAny_builtin PySem.F.entry_type_call ?_⟩))
  rw [Around.under_plain (weight_type_call_type "set" [.ref l] []) rfl]
  have g3 := PySem.F.called_set.notType; have g4 := PySem.F.called_set.canCreate; have g5 := PySem.F.typeCall_set_1 (.ref l)
  repeat (any_goals (first | assumption | wp_step))
  refine codeAny_mono (code_new1 (prog := prog) (.ref l) (E := E) (Z := fun obj z => obj = .ref s.heap.objs.size ∧ z = { s with heap := s.heap.push (set0 w) }) ⟨rfl, rfl⟩) fun r z hr => ?_
  cases r with
  | error e => exact hr
  | ok fl =>
    cases fl with
    | ret obj =>
      obtain ⟨rfl, rfl⟩ := hr
      have at0 : (s.heap.push (set0 w)).get? s.heap.objs.size = some (set0 w) := Heap.get?_push_size _ rfl
      have ty : Shared.TypeIs { s with heap := s.heap.push (set0 w) } (.ref s.heap.objs.size) "set" := ⟨_, at0, rfl⟩
      have g6 := PySem.F.called_set.init.lookup; have g7 := PySem.F.called_set.init.bind (.ref s.heap.objs.size)
      repeat (any_goals (first | assumption | wp_step))
      refine codeAny_mono (codeAny_call_builtin (R := wants (fun r z => r = .none ∧ ∃ h' tk, z = { s with heap := h', toks := tk } ∧ SetS prog w h' s.heap.objs.size (onceL [] xs) ∧ (∀ b o, s.heap.get? b = some o → h'.get? b = some o)) E)
        PySem.F.called_set.init.plain PySem.F.entry_set_init (check_set_init_1 ty ?_)) fun r2 z2 hr2 => ?_
      · obtain ⟨⟨oc, od, odata, osl⟩, hol, hcl, nl, hdl⟩ := hl
        simp only at hcl hdl
        subst hcl hdl
        have hol2 : (s.heap.push (set0 w)).get? l = some { cls := .type "list", dict := od, data := .seq items nl, slots := osl } := Heap.get?_push_of_some _ hol
        have hl2 : (s.heap.push (set0 w)).IsList l items := ⟨_, hol2, rfl, nl, rfl⟩
        have q1 := PySem.F.sub_list_set; have q2 := PySem.F.sub_list_frozenset
        have q3 : (Value.type "list" == Value.type "dict") = false := by decide
        unfold Builtin.«set.__init__» noKeywords Builtin.Frozenset.updateFrom
        generalize hp : pyIter = pi
        wp_walk
        subst hp
        refine wpAny_pyIter_list hl2 (wpAny_bind (wpAny_runValue ?_))
        have lt : l < s.heap.objs.size := Heap.lt_size hol
        have handled : A.in1.in1.in1.handled = none := by simp [hh]
        have sz1 : (s.heap.push (set0 w)).objs.size = s.heap.objs.size + 1 := Heap.size_push _ _
        have ne : l ≠ (s.heap.push (set0 w)).objs.size := by rw [sz1]; exact Nat.ne_of_lt (Nat.lt_succ_of_lt lt)
        have out : s.heap.objs.size ∉ [(s.heap.push (set0 w)).objs.size, l] := by
          rw [sz1]
          intro m
          rcases List.mem_cons.mp m with m | m
          · exact absurd m (Nat.ne_of_lt (Nat.lt_succ_self _))
          · exact absurd (List.mem_singleton.mp m) (Nat.ne_of_gt lt)
        have len : xs.length = items.size := by rw [← StrsAre.len_eq his, Array.length_toList]
        have is : ∀ (i : Nat) (v : Value), items[i]? = some v → ∃ t, v = .str (xs.getD i Str.empty) t := fun i v hv => str_at his i v (by rw [Array.getElem?_toList]; exact hv)
        refine puts ((Walks.list handled _ l ne items).toS) out xs len (by rw [← len]; exact few) is (items.size - 0) 0 _ [] (by omega) (Nat.zero_le _) (Nat.le_refl _) ⟨⟨_, Heap.get?_push_size _ rfl, rfl, rfl⟩, hl2.push _⟩ (set0_ok.moved fun o e => Heap.get?_push_of_some _ e) ?_
        rintro ⟨h', g', d', tk', os'⟩ mv S
        obtain rfl : g' = s.gens := mv.gens
        obtain rfl : d' = s.drawn := mv.drawn
        obtain rfl : os' = s.os := mv.os
        refine wpAny_pure ?_
        refine wpAny_pure ⟨rfl, h', tk', rfl, S, fun b o e => ?_⟩
        have hb : b < s.heap.objs.size := Heap.lt_size e
        refine mv.heap b o (fun m => ?_) (Heap.get?_push_of_some _ (Heap.get?_push_of_some _ e))
        rcases List.mem_cons.mp m with m | m
        · exact absurd m (Nat.ne_of_lt hb)
        · have q := List.mem_singleton.mp m
          rw [sz1] at q
          exact absurd q (Nat.ne_of_lt (Nat.lt_succ_of_lt hb))
      · cases r2 with
        | error e => exact hr2
        | ok fl2 =>
          cases fl2 with
          | ret r =>
            obtain ⟨rfl, h', tk, rfl, a1, a2⟩ := hr2
            repeat (any_goals (first | assumption | wp_step))
            exact h _ _ a1 a2
          | _ => exact hr2.elim
    | _ => exact hr.elim
end
end Pg
namespace Pg
open PySem PySem.Spec PyProof.Rows L2 PySem.Froz
section
variable {prog : Program} {w : World} {A : Around} {E : Value → Shared → Prop} {s : Shared}
/-- the values of a set of texts, in some order, are texts -/
theorem vals_strs : ∀ {vs : List Value} {ps : List (Str × Tok)}, vs.Perm (ps.map fun p => Value.str p.1 p.2) → StrsAre vs (vs.map strOf) ∧ (vs.map strOf).Perm (ps.map Prod.fst) := fun {vs ps} h => by
  refine ⟨strsAre_map vs fun v m => ?_, ?_⟩
  · obtain ⟨p, _, rfl⟩ := List.mem_map.mp (h.mem_iff.mp m)
    exact ⟨p.1, p.2, rfl⟩
  · have q := h.map strOf
    rw [List.map_map] at q
    exact q.trans (List.Perm.of_eq rfl)
theorem zip_fst {α β : Type} : ∀ (l : List α) (us : List β), us.length = l.length → (l.zip us).map Prod.fst = l
  | [], _, _ => rfl
  | x :: l, [], h => by simp at h
  | x :: l, u :: us, h => by rw [List.zip_cons_cons, List.map_cons, zip_fst l us (by simpa using h)]
/-- sorted(a), a set of texts -/
theorem sorted_txt {a : Addr} {l : List Str} {Q : Value → Shared → Prop} (R : SetS prog w s.heap a l) (hh : A.handled = none) (few : l.length < 4000)
    (h : ∀ z p (out : Array Value) (n : Nat) (ys : List Str), (∀ b o, s.heap.get? b = some o → z.heap.get? b = some o) → z.gens = s.gens → z.os = s.os → s.heap.objs.size ≤ p → z.heap.get? p = some (seqObj "list" out n) →
      StrsAre out.toList ys → ys.Perm l → sortedS ys = true → Q (.ref p) z) : wpAny (model prog w) A (call (.builtin "sorted") [.ref a]) Q E s := by
  obtain ⟨⟨es, ep, t⟩, at_, R⟩ := R
  obtain ⟨us, hu, pm⟩ := R.all
  have sz : es.size = l.length := R.ok.sz
  have scan : es.size < scanBound := by rw [sz]; exact Nat.lt_of_lt_of_le few (by decide)
  refine Calls.call_function_entry kind_sorted plain_sorted entry_sorted (args_sorted1 _) ?_
  unfold Builtin.«sorted»
  refine wpAny_bind (m := checkCount "sorted" 1 1 _) (wpAny_pure (wpAny_bind (collect_set (A := A.in1) hh ⟨_, at_, rfl, rfl⟩ R.ok.fit scan R.ris R.led fun z vs k1 hz g1 o1 pv => ?_)))
  have pv2 : vs.Perm ((l.zip us).map fun p => Value.str p.1 p.2) := by
    have q := pv.trans (pm.map (·.2))
    rw [List.map_map] at q
    exact q
  obtain ⟨st, ps⟩ := vals_strs pv2
  rw [zip_fst l us hu] at ps
  have vlen : vs.length = l.length := by
    have := ps.length_eq
    rwa [List.length_map] at this
  refine wpAny_bind (wpAny_newList ?_ (by rw [vlen, sizeLine_eq]; omega))
  have new : (z.heap.push (seqObj "list" vs.toArray 0)).get? z.heap.objs.size = some (seqObj "list" vs.toArray 0) := Heap.get?_push_size _ rfl
  refine wpAny_bind (wpAny_holding (wpAny_call_entry slot_list_sort ⟨_, new, rfl⟩ entry_list_sort (list_sort_treeKAny strKind_oneLt new st.keysOf (fun v1 v2 rest e => keyKind_strs (by rw [← e]; exact st)) (by rw [vlen, sizeLine_eq]; omega) fun st' hp hs => ?_) (args_list_sort _)))
  obtain ⟨ys, y1, y2, y3⟩ := sorted_out_str st hp hs
  obtain ⟨n, hn⟩ := sortedHeap_at (vs := vs) (out := (arrOf st').map (·.2)) new
  refine ⟨_, rfl, wpAny_pure ⟨_, rfl, h _ z.heap.objs.size _ n ys (fun b o e => ?_) g1 o1 hz hn y1 (y2.trans ps) y3⟩⟩
  have q := k1 b o e
  have lt := Heap.lt_size q
  show (sortedHeap (z.heap.push (seqObj "list" vs.toArray 0)) z.heap.objs.size vs _).get? b = some o
  rw [sortedHeap_old (Nat.ne_of_lt lt) (by rw [size_push']; exact Nat.lt_succ_of_lt lt)]
  exact Heap.get?_push_of_some _ q
end
end Pg
namespace Pg
open PySem PySem.Spec PyProof.Rows L2
/-! ### defs that are called where no text is being written of anything -/
structure FnG (P : Program) (w : World) (K : PySem.W.Frag) (mg : Str → Option Value) (base : Heap) (k : Nat) (f : Addr) (fd : FuncData) (ps : List Str) (sp : Sp) : Prop where
  ln : ∀ vs H Q E, sp vs H Q E → vs.length = ps.length
  go : ∀ (A : Around), A.guards = some [] → Room k A → ∀ (outer : List Env) (s : Shared) (H : Hp), Env0 P w K mg base A outer s H →
    ∀ (args : Args) (us : List Value) (vs : List V) (Q : VK) (E : XK), BindsTo s fd args (ps.zip us) → Vals vs us → sp vs H Q E →
    codeAny (model P w) A (.call (.ref f) args) (CR CX0 outer P w H s Q E) s
section
variable {P : Program} {w : World} {K : PySem.W.Frag} {mg : Str → Option Value} {base : Heap}
theorem FnG.of {k : Nat} {f : Addr} {fd : FuncData} {ps : List Str} {sp : Sp} (F : FnOk P w K mg base CX0 k f fd ps sp) : FnG P w K mg base k f fd ps sp :=
  ⟨F.len, fun A _ r outer s H e args us vs Q E b v h => F.run A outer s H args us vs Q E r e b v h⟩
theorem FnG.mono {j k : Nat} {f : Addr} {fd : FuncData} {ps : List Str} {sp : Sp} (F : FnG P w K mg base j f fd ps sp) (h : j ≤ k) : FnG P w K mg base k f fd ps sp :=
  ⟨F.ln, fun A g r => F.go A g (r.mono h)⟩
/-- a def by its body -/
theorem Df.g {x : Str} {st : Stmt} {f : Addr} {fd : FuncData} {N ps : List Str} {k : Nat} {sp : Sp} (D : Df K mg x st ps f fd) (S : FnScope N ps (defScope st)) (len : ∀ vs H Q E, sp vs H Q E → vs.length = ps.length)
    (hb : ∀ (cdv : Value) (A : Around) (outer : List Env) (s : Shared) (H : Hp) (vs : List V) (Q : VK) (E : XK), (A.deeper (envOfC x (defScope st) s.heap.objs.size f cdv)).guards = some [] →
      Room k (A.deeper (envOfC x (defScope st) s.heap.objs.size f cdv)) → sp vs H Q E →
      ∃ t, PSs (cxOf CX0 P w K mg base N x (defScope st) f cdv A outer s H E).nox (defBody st) t ∧ t { nx := fun _ H' => Q .non H', rt := Q } (start N vs) H) : FnG P w K mg base (k + 1) f fd ps sp := by
  obtain ⟨oc, od, kV, doc, pm, an, cdv, ct, osl, rfl, lk, hcd⟩ := D.fn.ex
  refine ⟨len, fun A g hr outer s H e0 args us vs Q E bt rv hsp => ?_⟩
  have hlen := len _ _ _ _ hsp
  have KX : K.In s.heap := e0.mod.kin.keeps fun b o e => (e0.bs b o e).1
  have lim : s.heap.NoLimit := e0.mod.nolimit.keeps fun b o e => (e0.bs b o e).1
  refine codeAny_call_function hr.depth (KX _ _ lk) rfl S.co S.gen rfl (PySem.W.codeRec_of KX hcd) (bt _ _ _ _ ?_)
  refine wpAny_newFunctionEnv_cells S.kind (fun y hy => ?_) fun env he s1 x1 => ?_
  · have hp : y.1 ∈ ps := (List.of_mem_zip (show (y.1, y.2) ∈ ps.zip us from hy)).1
    refine (S.par y.1 hp).imp id fun q => ⟨q, ?_⟩
    exact PySem.W.cellsFrom_some _ _ _ (.inl q)
  subst he
  refine ⟨lim.keeps x1.toInCall.keep, codeAny_func ?_⟩
  obtain ⟨t, ht, hq⟩ := hb cdv A outer s H vs Q E (by rw [← g]; rfl) (hr.deeper _) hsp
  refine wpAny_mono (ht.nox.run [] s1 (start N vs) H _ (inv_start S hr.hd e0 hlen rv x1) hq) (fun fl s' hs => ?_) fun e s' hs => hs
  cases fl with
  | ret u =>
    obtain ⟨v, σ', H', J, rv', q⟩ := hs
    exact ⟨v, H', J.os, J.bare, J.base, J.hok, rv', q⟩
  | next =>
    obtain ⟨σ', H', J, q⟩ := hs
    exact ⟨.non, H', J.os, J.bare, J.base, J.hok, rfl, q⟩
  | brk =>
    obtain ⟨_, _, _, q⟩ := hs
    exact q.elim
  | cont =>
    obtain ⟨_, _, _, q⟩ := hs
    exact q.elim
end
/-- a def of the text with such a promise -/
structure ClG (P : Program) (w : World) (K : PySem.W.Frag) (mg : Str → Option Value) (base : Heap) (k : Nat) (x : Str) (st : Stmt) (ps : List Str) (sp : Sp) : Prop where
  ex : ∃ f fd, Df K mg x st ps f fd ∧ FnG P w K mg base k f fd ps sp
section
variable {X : Cx} {j k : Nat} {st : Stmt} {f : Addr} {fd : FuncData} {ps : List Str} {sp : Sp} {x : Str} {p pos : Pos} {e : Expr} {es : List Expr} {t : TA}
theorem run_g {pins : List (Addr × Obj)} {σ : L2.St} {H : Hp} {s : Shared} {Q : VK} {us : List Value} {vs : List V} (F : FnG X.prog X.w X.K X.mg X.base k f fd ps sp) (hG : X.A.guards = some []) (hr : Room k X.A) (hb : Binds X.K fd ps [])
    (I : Inv X pins σ H s) (r : Vals vs us) (h : sp vs H Q E0) : wpAny (model X.prog X.w) X.A (call (.ref f) us) (EP X pins σ Q) X.xe s := by
  have hl : (us ++ []).length = ps.length := by rw [List.append_nil, ← r.length]; exact F.ln _ _ _ _ h
  have bt := hb s us I.kIn hl
  rw [List.append_nil] at bt
  refine wpAny_call (codeAny_mono (F.go X.A hG hr X.stack s H I.env0 ⟨us, []⟩ us vs Q E0 bt r h) fun r s' hq => ?_)
  cases r with
  | error e => exact (pass0 (X := X) pins σ H s e s' I hq)
  | ok fl =>
    cases fl with
    | ret u => exact I.after hq
    | next => exact hq.elim
    | brk => exact hq.elim
    | cont => exact hq.elim
theorem pe_clG (c : ClG X.prog X.w X.K X.mg X.base k x st ps sp) (hG : X.A.guards = some []) (hr : Room j X.A) (hk : k ≤ j) (ha : PA X (e :: es) t) (hg : Gl X x := by rfl) (hdb : (x == ("__debug__" : Str)) = false := by decide)
    (he : starEach (e :: es) X.env = (false, eval e X.env) :: starEach es X.env := by rfl) (hpl : (backTo pos (starEach es X.env)).any (·.1) = false := by rfl) :
    PE X (.Call (.Name x p) (e :: es) [] pos) (tCl sp t) := by
  obtain ⟨f, fd, D, F⟩ := c.ex
  refine ⟨fun pins s σ H Q I h => ?_⟩
  refine wpAny_Call_Name_kw (ld_glob I hg D.at_ ?_ hdb)
  refine PySem.W.callWith_K (h₀ := X.base) I.ok.mod.kin D.fn.kp (thn (ha.run pos pins s σ H _ I h) fun us s1 ⟨vs, H1, I1, r, q⟩ => ⟨I1.kIn, ?_⟩) he hpl
  exact run_g (F.mono hk) hG hr D.bd I1 r q
end
end Pg
namespace Pg
open PySem PySem.Spec PyProof.Rows L2
/-! ### the end of a law, from a promise that is kept where no text is being written -/
section
variable {P : Program} {w : World} {K : PySem.W.Frag} {mg mb : Str → Option Value} {h : Heap} {a : Addr} {ob : Obj} {xs : List V}
/-- what is known of the store at first: the script, where it is no object of the module -/
def H0 (K : PySem.W.Frag) (a : Addr) (ob : Obj) (xs : List V) : Hp := fun b => if b = a ∧ K.lookup a = none then some (.frz ob (.lst xs)) else none
theorem h0_cases (b : Addr) : H0 K a ob xs b = none ∨ (b = a ∧ K.lookup a = none ∧ H0 K a ob xs b = some (.frz ob (.lst xs))) := by
  by_cases c : b = a ∧ K.lookup a = none
  · exact .inr ⟨c.1, c.2, if_pos c⟩
  · exact .inl (if_neg c)
theorem h0_none {b : Addr} (n : b ≠ a) : H0 K a ob xs b = none := if_neg fun c => n c.1
theorem h0_base {b : Addr} {o : Obj} (e : h.get? b = some o) (n : H0 K a ob xs b = none) : (hidT h (H0 K a ob xs)).get? b = some o := hidT_get e n
theorem h0_ns {b : Addr} {m : Str → Option Value} {l : List Value} {n : Nat} (ha : h.get? a = some { cls := .type "list", data := .seq l.toArray n }) (q : h.Ns b m) : (hidT h (H0 K a ob xs)).Ns b m := by
  obtain ⟨o, es, ep, e, d, r⟩ := q
  refine ⟨o, es, ep, h0_base e (h0_none fun z => ?_), d, r⟩
  subst z
  rw [ha] at e
  cases e
  exact Data.noConfusion d
theorem law_g {k : Nat} {fa : Addr} {fd : FuncData} {x : Str} {sp : Sp} {s₁ : Shared} {vs : List Value} {ns : List Int}
    (KX : K.In s₁.heap) (hns : s₁.heap.Ns mainGlobals mg) (hb : s₁.heap.Ns builtinsNs mb) (hbb : ∀ x : Str, x ≠ "__name__" → mb x = bootBuiltins x) (hlim : s₁.heap.NoLimit) (hg : s₁.gens = #[])
    (ha : s₁.heap.get? a = some { cls := .type "list", data := .seq vs.toArray }) (hi : IntsAre vs ns) (hl : ns.length ≤ sizeLine) (hr : Room k callerA)
    (F : ∀ base : Heap, K.In base → base.Ns mainGlobals mg → FnG P w K mg base k fa fd [x] sp) (hbind : ∀ (s : Shared) (u : Value), BindsTo s fd ⟨[u], []⟩ [(x, u)])
    (hsp : ∀ H : Hp, L2.Only H → SqL K H a (ns.map V.int) → sp [.ref a] H (fun v _ => v = .bl true) fun _ _ _ => False) :
    codeAny (model P w) callerA (.call (.ref fa) ⟨[.ref a], []⟩) (fun r s' => r = .ok (.ret (.bool true)) ∧ OldK s₁.heap s'.heap ∧ s'.os = s₁.os ∧ AllBare s'.gens) s₁ := by
  have rv := vals_ints hi
  have hlen : (ns.map V.int).length ≤ sizeLine := by rw [List.length_map]; exact hl
  have hK : K.In (hidT s₁.heap (H0 K a { cls := .type "list", data := .seq vs.toArray } (ns.map V.int))) := fun b o e => h0_base (KX b o e) (by
    rcases h0_cases (K := K) (a := a) (ob := { cls := .type "list", data := .seq vs.toArray }) (xs := ns.map V.int) b with q | ⟨rfl, q, _⟩
    · exact q
    · rw [q] at e
      cases e)
  have hM : Mod K mg (hidT s₁.heap (H0 K a { cls := .type "list", data := .seq vs.toArray } (ns.map V.int))) := by
    obtain ⟨mc, l1, l2⟩ := hlim
    exact ⟨hK, h0_ns ha hns, ⟨mb, h0_ns ha hb, hbb⟩, ⟨mc, h0_ns ha l1, l2⟩⟩
  have hok : HOk P w (H0 K a { cls := .type "list", data := .seq vs.toArray } (ns.map V.int)) s₁.heap := fun b u z => by
    rcases h0_cases (K := K) (a := a) (ob := { cls := .type "list", data := .seq vs.toArray }) (xs := ns.map V.int) b with q | ⟨rfl, _, q⟩
    · rw [q] at z
      cases z
    · rw [q] at z
      cases z
      exact ⟨ha, hlen, vs, _, rv, ha⟩
  have e0 : Env0 P w K mg (hidT s₁.heap (H0 K a { cls := .type "list", data := .seq vs.toArray } (ns.map V.int))) callerA [] s₁ (H0 K a { cls := .type "list", data := .seq vs.toArray } (ns.map V.int)) :=
    ⟨rfl, hM, fun b o e => of_hidT e, Nat.le_of_eq (hidT_size _ _), trivial, fun b z => absurd (show b ∈ ([] : List Addr) from z) (by simp), hok, .of_eq hg⟩
  have hO : L2.Only (H0 K a { cls := .type "list", data := .seq vs.toArray } (ns.map V.int)) := fun b => by
    rcases h0_cases (K := K) (a := a) (ob := { cls := .type "list", data := .seq vs.toArray }) (xs := ns.map V.int) b with q | ⟨_, _, q⟩
    · exact .inl q
    · exact .inr ⟨_, _, q⟩
  have hS : SqL K (H0 K a { cls := .type "list", data := .seq vs.toArray } (ns.map V.int)) a (ns.map V.int) := by
    cases hk : K.lookup a with
    | none => exact .inl (.inr ⟨_, if_pos ⟨rfl, hk⟩⟩)
    | some o =>
      have e := KX a o hk
      rw [ha] at e
      cases e
      exact .inr ⟨_, vs.toArray, _, hk, rfl, rfl, rfl, by rw [List.size_toArray, hi.length]; exact hl, by simpa using rv⟩
  refine codeAny_mono ((F _ hK (h0_ns ha hns)).go callerA rfl hr [] s₁ _ e0 ⟨[.ref a], []⟩ [.ref a] [.ref a] _ _ (hbind s₁ (.ref a)) (.cons rfl .nil) (hsp _ hO hS)) fun r s' q => ?_
  cases r with
  | error e => exact q.elim
  | ok fl =>
    cases fl with
    | next => exact q.elim
    | brk => exact q.elim
    | cont => exact q.elim
    | ret u =>
      obtain ⟨v, H', os, bare, un, hok', r', q⟩ := q
      have q' : v = .bl true := q
      subst q'
      obtain rfl : u = Value.bool true := r'
      refine ⟨rfl, OldK.of_keep fun b o e => ?_, os, bare⟩
      rcases h0_cases (K := K) (a := a) (ob := { cls := .type "list", data := .seq vs.toArray }) (xs := ns.map V.int) b with z | ⟨_, _, z⟩
      · exact un.keep b o e z (fun z => absurd (show b ∈ ([] : List Addr) from z) (by simp)) (by simp)
      · obtain ⟨e1, _⟩ := hok b _ z
        obtain ⟨e2, _⟩ := hok' b _ (un.frzs b _ _ z)
        rw [e] at e1
        cases e1
        exact e2
end
/-- the goal that the end of a law leaves -/
theorem walk_g {l : PySem.W.OpenLaw} {n k : Nat} {q : Program} {loose : List Str} {XP : (Str → Option Value) → Heap → Prop} {YP : World → Heap → Prop} {d : DefRec} {K : Params → PySem.W.Frag} {sp : World → Sp} {x : Str}
    (hn : l.most = some n) (hn2 : n ≤ sizeLine) (hdf : d.params.defaults = []) (hr : Room k callerA) (hY : ∀ (w : World) (h : Heap), YP w h → (K w.params).In h)
    (F : ∀ (w : World) (mg : Str → Option Value) (fa : Addr) (h : Heap), (K w.params).In h → h.Ns mainGlobals mg → mg d.name = some (.ref fa) →
      ∃ fd : FuncData, (∀ (s : Shared) (u : Value), BindsTo s fd ⟨[u], []⟩ [(x, u)]) ∧ ∀ base : Heap, (K w.params).In base → base.Ns mainGlobals mg → FnG l.prog w (K w.params) mg base k fa fd [x] (sp w))
    (hsp : ∀ (w : World) (H : Hp) (a : Addr) (ns : List Int), ns.length ≤ n → L2.Only H → SqL (K w.params) H a (ns.map V.int) → sp w [.ref a] H (fun v _ => v = .bl true) fun _ _ _ => False) :
    PySem.W.WalkO q loose XP YP l.row.toRowW d [] (fun f vs => PySem.call f vs) :=
  Att.attach_call hn hdf fun w _ s₁ mg _ fa _ _ _ _ a _ ns G Y _ _ _ hmg hobj hints hlen hg => by
    obtain ⟨fd, hb, hF⟩ := F w mg fa _ (hY w _ Y) G.T.g hmg
    exact law_g (hY w _ Y) G.T.g G.T.b G.T.builtins G.T.nolimit hg hobj hints (Nat.le_trans hlen hn2) hr hF hb fun H hO hS => hsp w H a ns hlen hO hS
end Pg
namespace Pg
open PySem PySem.Spec PyProof.Rows L2
/-! ### repr of data -/
mutual
theorem dp_plain {K : PySem.W.Frag} {H : Hp} : ∀ (d : PyData) {v : V}, Dp K H v d → d.hasDict = false
  | .none, _, _ => by simp only [PyData.hasDict]
  | .bool _, _, _ => by simp only [PyData.hasDict]
  | .int _, _, _ => by simp only [PyData.hasDict]
  | .str _, _, _ => by simp only [PyData.hasDict]
  | .list ds, _, h => by
    cases h with
    | lst _ q =>
      simp only [PyData.hasDict]
      exact dps_plain ds q
  | .tuple ds, _, h => by
    cases h with
    | tup _ q =>
      simp only [PyData.hasDict]
      exact dps_plain ds q
  | .dict _, _, h => by cases h
theorem dps_plain {K : PySem.W.Frag} {H : Hp} : ∀ (ds : List PyData) {vs : List V}, DpAll K H vs ds → PyData.hasDictAll ds = false
  | [], _, _ => by simp only [PyData.hasDictAll]
  | d :: ds, _, h => by
    cases h with
    | cons a b => simp only [PyData.hasDictAll, dp_plain d a, dps_plain ds b, Bool.or_self]
end
def rRepr (K : PySem.W.Frag) : List V → Hp → VK → Prop := fun xs H Q => ∃ v d, xs = [v] ∧ Dp K H v d ∧ d.showable = true ∧ d.depth ≤ 100 ∧ d.shown.length ≤ sizeLine ∧ Q (.str d.shown) H
theorem call_repr {X : Cx} {j : Nat} (hG : X.A.guards = some []) (hr : Room j X.A) : CallR X (.builtin "repr") (rRepr X.K) := by
  intro pins s σ H xs us Q I r h
  obtain ⟨v, d, rfl, dp, sh, dd, sz, q⟩ := h
  obtain ⟨u, rfl, rv⟩ := vals1 r
  have hu : X.A.units + (d.depth + 1) < cLine := by have := hr.un; omega
  obtain ⟨as, rd⟩ := Dp.reads I d v u dp rv
  have nd : d.hasDict = true → sysModules ∉ as := PyData.noDict_hsm (dp_plain d dp)
  have deep : ∀ a, u = .ref a → wpAny (model X.prog X.w) X.A (call (.builtin "repr") [u]) (EP X pins σ Q) X.xe s := fun a e => by
    subst e
    exact repr_of_reads' rd sh nd hG hu (fun _ _ e => e) (fun h' t tk k => ⟨.str d.shown, H, I.kept k, ⟨t, rfl⟩, q⟩) sz
  cases rd with
  | none => exact PySem.P.repr_of_none ⟨.str _, H, I.tok _, ⟨_, rfl⟩, by simpa only [PyData.shown] using q⟩
  | bool b => exact PySem.P.repr_of_bool ⟨.str _, H, I.tok _, ⟨_, rfl⟩, by simpa only [PyData.shown] using q⟩
  | int i t => exact PySem.P.repr_of_int (by simpa [PyData.showable] using sh) ⟨.str _, H, I.tok _, ⟨_, rfl⟩, by simpa only [PyData.shown] using q⟩
  | str x t => exact PySem.P.repr_of_str ⟨.str _, H, I.tok _, ⟨_, rfl⟩, by simpa only [PyData.shown] using q⟩ (by simpa only [PyData.shown] using sz)
  | list _ _ _ _ => exact deep _ rfl
  | tuple _ _ _ _ => exact deep _ rfl
  | dict _ _ _ _ _ => exact deep _ rfl
-- a bound for the signs of data whose texts are short: 4 more for every part, 122 for a text
mutual
def dW : PyData → Nat
  | .none => 4
  | .bool _ => 5
  | .int _ => 30
  | .str _ => 122
  | .list ds => dWs ds + 4
  | .tuple ds => dWs ds + 4
  | .dict _ => 0
def dWs : List PyData → Nat
  | [] => 0
  | d :: ds => dW d + 2 + dWs ds
end
-- no ints, texts of 12 letters at most
mutual
inductive Neat : PyData → Prop
  | non : Neat .none
  | bl (b : Bool) : Neat (.bool b)
  | str {x : Str} (h : x.length ≤ 12) (c : ∀ n ∈ x.cps.toList, n < 16 ^ 8) : Neat (.str x)
  | lst {ds : List PyData} : Neats ds → Neat (.list ds)
  | tup {ds : List PyData} : Neats ds → Neat (.tuple ds)
inductive Neats : List PyData → Prop
  | nil : Neats []
  | cons {d : PyData} {ds : List PyData} : Neat d → Neats ds → Neats (d :: ds)
end
mutual
theorem neat_sh : ∀ (d : PyData), Neat d → d.showable = true
  | .none, _ => by simp only [PyData.showable]
  | .bool _, _ => by simp only [PyData.showable]
  | .str _, _ => by simp only [PyData.showable]
  | .int _, h => by cases h
  | .list ds, .lst q => by
    simp only [PyData.showable]
    exact neats_sh ds q
  | .tuple ds, .tup q => by
    simp only [PyData.showable]
    exact neats_sh ds q
  | .dict _, h => by cases h
theorem neats_sh : ∀ (ds : List PyData), Neats ds → PyData.showableAll ds = true
  | [], _ => by simp only [PyData.showableAll]
  | d :: ds, .cons a b => by simp only [PyData.showableAll, neat_sh d a, neats_sh ds b, Bool.and_self]
end
theorem textFrom_le : ∀ (ts : List Str) (k : Nat) (acc : Str), (textFrom k acc ts).length ≤ acc.length + (ts.map fun t => t.length + 2).sum
  | [], k, acc => by
    show acc.length ≤ _
    simp
  | t :: ts, k, acc => by
    have ih := textFrom_le ts (k + 1) (acc ++ (if k > 0 then ", " else "" : String) ++ t)
    have e : (acc ++ (if k > 0 then ", " else "" : String) ++ t).length ≤ acc.length + 2 + t.length := by
      rw [strLen_append, strLen_append]
      by_cases c : k > 0
      · rw [if_pos c]
        have : (Str.ofString ", ").length = 2 := rfl
        omega
      · rw [if_neg c]
        have : (Str.ofString "").length = 0 := rfl
        omega
    rw [List.map_cons, List.sum_cons]
    show (textFrom (k + 1) (acc ++ (if k > 0 then ", " else "" : String) ++ t) ts).length ≤ _
    omega
theorem piled_sum : ∀ ts : List Str, piled ts = (ts.map fun t => t.length + 2).sum
  | [] => rfl
  | t :: ts => by simp [piled, piled_sum ts]
theorem tupleText_le (ts : List Str) : (tupleText ts).length ≤ (ts.map fun t => t.length + 2).sum + 4 := by
  have e1 : (Str.ofString "(").length = 1 := rfl
  have e2 : (Str.ofString (if ts.length == 1 then ",)" else ")")).length ≤ 2 := by split <;> decide
  have e3 : (Str.join (Str.ofString ", ") ts).length ≤ (ts.map fun t => t.length + 2).sum := by
    cases ts with
    | nil => exact Nat.zero_le _
    | cons t ts =>
      have q := join_length_add (t :: ts) (by simp)
      rw [piled_sum] at q
      omega
  unfold tupleText
  rw [strLen_append, strLen_append]
  omega
theorem listText_le (ts : List Str) : (listText ts).length ≤ (ts.map fun t => t.length + 2).sum + 4 := by
  have e1 : (Str.ofString "[").length = 1 := rfl
  have e2 : (Str.ofString "]").length = 1 := rfl
  have q := textFrom_le ts 0 (Str.ofString "[")
  show (textFrom 0 "[" ts ++ "]").length ≤ _
  rw [strLen_append]
  omega
mutual
theorem neat_le : ∀ (d : PyData), Neat d → d.shown.length ≤ dW d
  | .none, _ => by
    simp only [PyData.shown, dW]
    decide
  | .bool b, _ => by
    cases b <;> simp only [PyData.shown, dW] <;> decide
  | .str x, .str h c => by
    simp only [PyData.shown, dW]
    have := StrLaws.reprText_len x c
    omega
  | .int _, h => by cases h
  | .list ds, .lst q => by
    simp only [PyData.shown, dW]
    have a := listText_le (PyData.shownAll ds)
    have b := neats_le ds q
    omega
  | .tuple ds, .tup q => by
    simp only [PyData.shown, dW]
    have a := tupleText_le (PyData.shownAll ds)
    have b := neats_le ds q
    omega
  | .dict _, h => by cases h
theorem neats_le : ∀ (ds : List PyData), Neats ds → ((PyData.shownAll ds).map fun t => t.length + 2).sum ≤ dWs ds
  | [], _ => by
    simp only [PyData.shownAll, dWs]
    decide
  | d :: ds, .cons a b => by
    have p := neat_le d a
    have q := neats_le ds b
    simp only [PyData.shownAll, dWs, List.map_cons, List.sum_cons]
    omega
end
/-- repr of data with short texts and no ints -/
def rNeat (K : PySem.W.Frag) : List V → Hp → VK → Prop := fun xs H Q => ∃ v d, xs = [v] ∧ Dp K H v d ∧ Neat d ∧ d.depth ≤ 100 ∧ dW d ≤ 1000000 ∧ Q (.str d.shown) H
theorem call_repr_neat {X : Cx} {j : Nat} (hG : X.A.guards = some []) (hr : Room j X.A) : CallR X (.builtin "repr") (rNeat X.K) := fun pins s σ H xs us Q I r h => by
  obtain ⟨v, d, e, dp, n, dd, sz, q⟩ := h
  exact call_repr hG hr pins s σ H xs us Q I r ⟨v, d, e, dp, neat_sh d n, dd, Nat.le_trans (neat_le d n) (Nat.le_trans sz (by decide)), q⟩
end Pg
namespace Pg
open PySem PySem.Spec PyProof.Rows L2
/-! ### sorted(set(xs)), texts -/
theorem once_nodup : ∀ (xs acc : List Str), acc.Nodup → (onceL acc xs).Nodup
  | [], _, h => h
  | x :: xs, acc, h => by
    show (onceL (if x ∈ acc then acc else x :: acc) xs).Nodup
    refine once_nodup xs _ ?_
    by_cases c : x ∈ acc
    · rw [if_pos c]
      exact h
    · rw [if_neg c]
      exact List.nodup_cons.mpr ⟨c, h⟩
theorem txt_lt_of {a b : List Nat} (n : ¬ b < a) (d : a ≠ b) : a < b := by
  by_cases h : a < b
  · exact h
  · exact absurd (List.le_antisymm (List.not_lt.mp n) (List.not_lt.mp h)) d
theorem rising_pw : ∀ (zs : List (List Nat)) (p : List Nat), (p :: zs).Nodup → risingS (tx p) (zs.map tx) = true → (p :: zs).Pairwise (· < ·)
  | [], p, _, _ => List.pairwise_singleton _ _
  | z :: zs, p, nd, h => by
    have h' : (!ltCps z p && risingS (tx z) (zs.map tx)) = true := by simpa [risingS] using h
    rw [ltCps_eq] at h'
    obtain ⟨h1, h2⟩ := Bool.and_eq_true_iff.mp h'
    obtain ⟨n1, n2⟩ := List.nodup_cons.mp nd
    have ih := rising_pw zs z n2 h2
    have pz : p < z := txt_lt_of (by simpa using h1) fun e => n1 (by rw [e]; exact List.mem_cons_self)
    refine List.pairwise_cons.mpr ⟨fun y m => ?_, ih⟩
    rcases List.mem_cons.mp m with rfl | m
    · exact pz
    · exact List.lt_trans pz ((List.pairwise_cons.mp ih).1 y m)
theorem sorted_pw {ls : List (List Nat)} {ys : List Str} (pm : ys.Perm (onceL [] (ls.map tx))) (so : sortedS ys = true) : ∃ zs : List (List Nat), ys = zs.map tx ∧ zs.Pairwise (· < ·) ∧ (∀ l, l ∈ zs ↔ l ∈ ls) ∧ zs.length ≤ ls.length := by
  have e : ys = (ys.map fun s => s.cps.toList).map tx := by
    rw [List.map_map]
    conv => lhs; rw [← List.map_id ys]
    rfl
  have nd : ys.Nodup := pm.nodup_iff.mpr (once_nodup _ _ List.nodup_nil)
  have mem : ∀ s, s ∈ ys ↔ s ∈ ls.map tx := fun s => by
    rw [pm.mem_iff, once_mem]
    simp
  refine ⟨ys.map fun s => s.cps.toList, e, ?_, fun l => ?_, ?_⟩
  · have nd2 : (ys.map fun s => s.cps.toList).Nodup := by
      rw [e] at nd
      exact List.Pairwise.of_map tx (fun a b h e => h (by rw [e])) nd
    revert nd2
    rw [e] at so
    generalize (ys.map fun s => s.cps.toList) = zs at so
    intro nd2
    cases zs with
    | nil => exact List.Pairwise.nil
    | cons z zs => exact rising_pw zs z nd2 so
  · constructor
    · intro m
      obtain ⟨s, m1, rfl⟩ := List.mem_map.mp m
      obtain ⟨l, m2, rfl⟩ := List.mem_map.mp ((mem s).mp m1)
      simpa using m2
    · intro m
      exact List.mem_map.mpr ⟨tx l, (mem _).mpr (List.mem_map.mpr ⟨l, m, rfl⟩), by simp⟩
  · rw [List.length_map, pm.length_eq]
    have := once_len (ls.map tx) []
    simpa using this
/-- sorted(set(xs)): xs texts, under 64 of them; strictly ascending -/
def tSS (K : PySem.W.Frag) (te : TE) : TE := fun σ H Q => te σ H fun v H1 => ∃ (a : Addr) (ls : List (List Nat)), v = .ref a ∧ SqL K H1 a (ls.map Tx) ∧ ls.length < 4000 ∧
  ∀ (zs : List (List Nat)) (p : Addr), zs.Pairwise (· < ·) → (∀ l, l ∈ zs ↔ l ∈ ls) → zs.length ≤ ls.length → H1 p = none → Q (.ref p) (upd H1 p (.lst (zs.map Tx)))
theorem pe_sortset {X : Cx} {e : Expr} {te : TE} {p p2 pos pos2 : Pos} (hh : X.A.handled = none) (g1 : Gl X "sorted") (m1 : X.mg "sorted" = none) (g2 : Gl X "set") (m2 : X.mg "set" = none) (he : PE X e te)
    (hs : starEach [e] X.env = (false, eval e X.env) :: starEach [] X.env := by rfl)
    (hs2 : starEach [Expr.Call (.Name "set" p2) [e] [] pos2] X.env = (false, eval (Expr.Call (.Name "set" p2) [e] [] pos2) X.env) :: starEach [] X.env := by rfl) :
    PE X (.Call (.Name "sorted" p) [.Call (.Name "set" p2) [e] [] pos2] [] pos) (tSS X.K te) := by
  refine ⟨fun pins s σ H Q I h => ?_⟩
  refine wpAny_Call_Name_kw (ld_blt I g1 m1 (by rfl) ?_ (by decide) (by decide))
  refine PyProof.Rows.callWith_builtin1 ?_ hs2 (by rfl)
  rw [hs2]
  show wpAny _ _ (spliced ((false, eval (Expr.Call (.Name "set" p2) [e] [] pos2) X.env) :: backTo pos (starEach [] X.env))) _ _ s
  refine Calls.spliced_cons ?_
  refine wpAny_Call_Name_kw (ld_blt I g2 m2 (by rfl) ?_ (by decide) (by decide))
  refine PyProof.Rows.callWith_type1 ?_ hs (by rfl)
  rw [hs]
  show wpAny _ _ (spliced ((false, eval e X.env) :: backTo pos2 (starEach [] X.env))) _ _ s
  refine Calls.spliced_cons (thn (he.run pins s σ H _ I h) fun u s1 ⟨v, H1, I1, r1, q1⟩ => Calls.spliced_nil ?_)
  obtain ⟨a, ls, rfl, hl, few, q⟩ := q1
  obtain rfl : u = .ref a := r1
  obtain ⟨its, rv, pl, _⟩ := I1.list hl
  have st : StrsAre its.toArray.toList (ls.map tx) := by
    have : ls.map Tx = (ls.map tx).map V.str := by rw [List.map_map]; rfl
    rw [this] at rv
    exact rv.strs
  refine call_set_txt hh pl.isList st (by rw [List.length_map]; exact Nat.lt_of_lt_of_le (Nat.succ_lt_succ few) (by decide)) fun h' tk S k => ?_
  refine Calls.spliced_nil ?_
  have few2 : (onceL [] (ls.map tx)).length < 4000 := by
    have := once_len (ls.map tx) []
    rw [List.length_map] at this
    simp at this
    omega
  refine sorted_txt (s := { s1 with heap := h', toks := tk }) S hh few2 fun z p out n ys k2 hg ho hp hat hst pm so => ?_
  obtain ⟨zs, rfl, pw, mem, len⟩ := sorted_pw pm so
  have k3 : ∀ b u, s1.heap.get? b = some u → z.heap.get? b = some u := fun b u e => k2 b u (k b u e)
  have sz : s1.heap.objs.size ≤ p := by
    obtain ⟨D, at_, _⟩ := S
    exact Nat.le_trans (Nat.le_of_lt (Heap.lt_size at_)) hp
  have fr := I1.hok.fresh sz
  refine ⟨.ref p, upd H1 p (.lst (zs.map Tx)), ?_, rfl, q zs p pw mem len fr⟩
  have ok : ObjOk X.prog X.w (upd H1 p (.lst (zs.map Tx))) z.heap p (.lst (zs.map Tx)) :=
    ⟨by rw [List.length_map]; exact Nat.le_trans len (Nat.le_of_lt (Nat.lt_of_lt_of_le few (by decide))), out.toList, n, by
      have := vals_of_strs hst
      rw [List.map_map] at this
      exact this, hat⟩
  exact I1.call' (ch := []) ho (Un.laid k3 sz fr) (I1.hok.laid k3 sz ok) (by rw [hg]; exact I1.bare) (fun b z => absurd z (by simp))
end Pg
namespace Pg
open PySem PySem.Spec PyProof.Rows L2
/-! ### comprehensions that give values -/
theorem sql_up {K : PySem.W.Frag} {H H' : Hp} {a : Addr} {xs : List V} (s : Stp [] H H') (h : SqL K H a xs) : SqL K H' a xs := by
  rcases h with (h | ⟨o, h⟩) | h
  · exact .inl (.inl (s.kp _ _ (fun m => nomatch m) h))
  · exact .inl (.inr ⟨o, s.kp _ _ (fun m => nomatch m) h⟩)
  · exact .inr h
theorem ix_listK {X : Cx} {K : PySem.W.Frag} (hK : X.K = K) : IxR X (rIxL K) := by
  subst hK
  exact ix_list
theorem tn {σ : L2.St} {H : Hp} {Q : List V → Hp → Prop} (h : Q [] H) : tNil σ H Q := h
theorem RpL.snoc {K : PySem.W.Frag} {H : Hp} {vs : List V} {ds : List Dt} {i : Nat} {v : V} {d : Dt} (r : RpL K H vs (ds.take i)) (e : ds[i]? = some d) (h : Rp K H v d) : RpL K H (vs ++ [v]) (ds.take (i + 1)) := by
  rw [List.take_add_one, e]
  exact r.app (.cons h .nil)
theorem rpl_strs {K : PySem.W.Frag} {H : Hp} : ∀ {ls : List (List Nat)} {vs : List V}, RpL K H vs (ls.map Dt.str) → vs = ls.map Tx
  | [], _, .nil => rfl
  | l :: ls, _, .cons h r => by
    cases h
    rw [List.map_cons, rpl_strs r]
theorem rpl_bls {K : PySem.W.Frag} {H : Hp} : ∀ {bs : List Bool} {vs : List V}, RpL K H vs (bs.map Dt.bl) → vs = bs.map V.bl
  | [], _, .nil => rfl
  | b :: bs, _, .cons h r => by
    cases h
    rw [List.map_cons, rpl_bls r]
section
variable {K : PySem.W.Frag} {a : Addr} {xs : List V} {ds : List Dt} {g : TG} {te : TE} {vs : List Nat} {σ : L2.St} {H1 : Hp} {D : Addr} {Qd : Hp → Prop}
theorem lc_mapL (nD : H1 D = none) (hs : SqL K H1 a xs) (hl : ds.length = xs.length) (hz : xs.length ≤ 90000)
    (step : ∀ (i : Nat) x d H, xs[i]? = some x → ds[i]? = some d → Stp [] H1 H → ∀ Q : VK, (∀ y H', Stp [] H H' → Rp K H' y d → Q y H') → g x (wipe σ vs) H fun σ2 H2 => wipe σ2 vs = wipe σ vs ∧ te σ2 H2 Q)
    (hd : ∀ ws H, Stp [] H1 H → H D = some (.lst ws) → RpL K H ws ds → Qd H) :
    ∃ W : Nat → Nat → Hp → Prop, (∃ m, W 0 m (upd H1 D (.lst []))) ∧ ∀ i m H, W i m H →
      ((Itl K a).stop i H ∧ Qd H) ∨ ((Itl K a).go i H ∧ ∃ Nx : Hp → Prop, (∀ H', Nx H' → ∃ m', m' < m ∧ W (i + 1) m' H') ∧ ∀ x H', (Itl K a).yld i H x H' → g x (wipe σ vs) H' fun σ2 H2 => wipe σ2 vs = wipe σ vs ∧ tYes σ2 H2 fun b H3 =>
        if b = true then te σ2 H3 fun y H4 => ∃ acc, H4 D = some (.lst acc) ∧ acc.length < sizeLine ∧ Nx (upd H4 D (.lst (acc ++ [y]))) else Nx H3) := by
  refine lc_list (a := a) (xs := xs) (fun i H => ∃ ws, H D = some (.lst ws) ∧ RpL K H ws (ds.take i) ∧ Stp [] H1 H) ⟨[], upd_same, .nil, Stp.new nD _⟩ (fun i H _ ⟨_, _, _, S⟩ => sql_up S hs) ?_ ?_
  · rintro i x H hi ⟨ws, hL, rv, S⟩
    have il : i < ds.length := by rw [hl]; exact (List.getElem?_eq_some_iff.mp hi).1
    refine step i x ds[i] H hi (List.getElem?_eq_getElem il) S _ fun y H' S' ry => ?_
    refine ⟨ws, S'.kp _ _ (fun m => nomatch m) hL, ?_, ws ++ [y], upd_same, ?_, (S.trans S').mut nD⟩
    · rw [rv.len, List.length_take]
      exact Nat.lt_of_le_of_lt (show min i ds.length ≤ 90000 by omega) (by decide)
    · have s4 : Stp [D] H' (upd H' D (.lst (ws ++ [y]))) := Stp.put (by simp)
      have hL' := S'.kp _ _ (fun m => nomatch m) hL
      exact RpL.snoc ((rv.stp S' Lsts.nil).stp s4 (.one hL')) (List.getElem?_eq_getElem il) (ry.stp s4 (.one hL'))
  · rintro H ⟨ws, hL, rv, S⟩
    rw [← hl, List.take_length] at rv
    exact hd ws H S hL rv
theorem lc_mapT (nD : H1 D = none) (hs : SqT K H1 a xs) (hl : ds.length = xs.length) (hz : xs.length ≤ 90000)
    (step : ∀ (i : Nat) x d H, xs[i]? = some x → ds[i]? = some d → Stp [] H1 H → ∀ Q : VK, (∀ y H', Stp [] H H' → Rp K H' y d → Q y H') → g x (wipe σ vs) H fun σ2 H2 => wipe σ2 vs = wipe σ vs ∧ te σ2 H2 Q)
    (hd : ∀ ws H, Stp [] H1 H → H D = some (.lst ws) → RpL K H ws ds → Qd H) :
    ∃ W : Nat → Nat → Hp → Prop, (∃ m, W 0 m (upd H1 D (.lst []))) ∧ ∀ i m H, W i m H →
      ((Itt K a).stop i H ∧ Qd H) ∨ ((Itt K a).go i H ∧ ∃ Nx : Hp → Prop, (∀ H', Nx H' → ∃ m', m' < m ∧ W (i + 1) m' H') ∧ ∀ x H', (Itt K a).yld i H x H' → g x (wipe σ vs) H' fun σ2 H2 => wipe σ2 vs = wipe σ vs ∧ tYes σ2 H2 fun b H3 =>
        if b = true then te σ2 H3 fun y H4 => ∃ acc, H4 D = some (.lst acc) ∧ acc.length < sizeLine ∧ Nx (upd H4 D (.lst (acc ++ [y]))) else Nx H3) := by
  refine lc_tup (a := a) (xs := xs) (fun i H => ∃ ws, H D = some (.lst ws) ∧ RpL K H ws (ds.take i) ∧ Stp [] H1 H) ⟨[], upd_same, .nil, Stp.new nD _⟩ (fun i H _ ⟨_, _, _, S⟩ => sqt_stp S Lsts.nil hs) ?_ ?_
  · rintro i x H hi ⟨ws, hL, rv, S⟩
    have il : i < ds.length := by rw [hl]; exact (List.getElem?_eq_some_iff.mp hi).1
    refine step i x ds[i] H hi (List.getElem?_eq_getElem il) S _ fun y H' S' ry => ?_
    refine ⟨ws, S'.kp _ _ (fun m => nomatch m) hL, ?_, ws ++ [y], upd_same, ?_, (S.trans S').mut nD⟩
    · rw [rv.len, List.length_take]
      exact Nat.lt_of_le_of_lt (show min i ds.length ≤ 90000 by omega) (by decide)
    · have s4 : Stp [D] H' (upd H' D (.lst (ws ++ [y]))) := Stp.put (by simp)
      have hL' := S'.kp _ _ (fun m => nomatch m) hL
      exact RpL.snoc ((rv.stp S' Lsts.nil).stp s4 (.one hL')) (List.getElem?_eq_getElem il) (ry.stp s4 (.one hL'))
  · rintro H ⟨ws, hL, rv, S⟩
    rw [← hl, List.take_length] at rv
    exact hd ws H S hL rv
theorem lc_mapR {n : Nat} (nD : H1 D = none) (hl : ds.length = n) (hz : n ≤ 90000)
    (step : ∀ (i : Nat) d H, ds[i]? = some d → Stp [] H1 H → ∀ Q : VK, (∀ y H', Stp [] H H' → Rp K H' y d → Q y H') → g (.int ((0 : Int) + (i : Int))) (wipe σ vs) H fun σ2 H2 => wipe σ2 vs = wipe σ vs ∧ te σ2 H2 Q)
    (hd : ∀ ws H, Stp [] H1 H → H D = some (.lst ws) → RpL K H ws ds → Qd H) :
    ∃ W : Nat → Nat → Hp → Prop, (∃ m, W 0 m (upd H1 D (.lst []))) ∧ ∀ i m H, W i m H →
      ((Itr 0 n).stop i H ∧ Qd H) ∨ ((Itr 0 n).go i H ∧ ∃ Nx : Hp → Prop, (∀ H', Nx H' → ∃ m', m' < m ∧ W (i + 1) m' H') ∧ ∀ x H', (Itr 0 n).yld i H x H' → g x (wipe σ vs) H' fun σ2 H2 => wipe σ2 vs = wipe σ vs ∧ tYes σ2 H2 fun b H3 =>
        if b = true then te σ2 H3 fun y H4 => ∃ acc, H4 D = some (.lst acc) ∧ acc.length < sizeLine ∧ Nx (upd H4 D (.lst (acc ++ [y]))) else Nx H3) := by
  refine lc_range (lo := 0) (n := n) (fun i H => ∃ ws, H D = some (.lst ws) ∧ RpL K H ws (ds.take i) ∧ Stp [] H1 H) ⟨[], upd_same, .nil, Stp.new nD _⟩ ?_ ?_
  · rintro i H hi ⟨ws, hL, rv, S⟩
    have il : i < ds.length := by rw [hl]; exact hi
    refine step i ds[i] H (List.getElem?_eq_getElem il) S _ fun y H' S' ry => ?_
    refine ⟨ws, S'.kp _ _ (fun m => nomatch m) hL, ?_, ws ++ [y], upd_same, ?_, (S.trans S').mut nD⟩
    · rw [rv.len, List.length_take]
      exact Nat.lt_of_le_of_lt (show min i ds.length ≤ 90000 by omega) (by decide)
    · have s4 : Stp [D] H' (upd H' D (.lst (ws ++ [y]))) := Stp.put (by simp)
      have hL' := S'.kp _ _ (fun m => nomatch m) hL
      exact RpL.snoc ((rv.stp S' Lsts.nil).stp s4 (.one hL')) (List.getElem?_eq_getElem il) (ry.stp s4 (.one hL'))
  · rintro H ⟨ws, hL, rv, S⟩
    rw [← hl, List.take_length] at rv
    exact hd ws H S hL rv
end
end Pg
namespace Pg
open PySem PySem.Spec PyProof.Rows L2
/-- a new object is changed -/
theorem Stp.mutO {S : List Addr} {H H' : Hp} {p : Addr} {o : HO} (a : Stp S H H') (h : H p = none) : Stp S H (upd H' p o) :=
  ⟨fun x u n q => by
    rw [upd_ne (ne_of_none q h)]
    exact a.kp x u n q, fun x xs q => by
    rw [upd_ne (ne_of_none q h)]
    exact a.ls x xs q⟩
/-- sorted(xs), texts, any number of them -/
def rSortedSA (K : PySem.W.Frag) : List V → Hp → VK → Prop := fun vs H Q => ∃ (a : Addr) (ls : List (List Nat)), vs = [V.ref a] ∧ SqL K H a (ls.map Tx) ∧
  ∀ (zs : List (List Nat)) (p : Addr), zs.Perm ls → zs.Pairwise (· ≤ ·) → H p = none → Q (.ref p) (upd H p (.lst (zs.map Tx)))
theorem rising_le : ∀ (zs : List (List Nat)) (p : List Nat), risingS (tx p) (zs.map tx) = true → (p :: zs).Pairwise (· ≤ ·)
  | [], p, _ => List.pairwise_singleton _ _
  | z :: zs, p, h => by
    have h' : (!ltCps z p && risingS (tx z) (zs.map tx)) = true := by simpa [risingS] using h
    rw [ltCps_eq] at h'
    obtain ⟨h1, h2⟩ := Bool.and_eq_true_iff.mp h'
    have ih := rising_le zs z h2
    have pz : p ≤ z := List.not_lt.mp (by simpa using h1)
    refine List.pairwise_cons.mpr ⟨fun y m => ?_, ih⟩
    rcases List.mem_cons.mp m with rfl | m
    · exact pz
    · exact List.le_trans pz ((List.pairwise_cons.mp ih).1 y m)
theorem cr_sortedSA {X : Cx} : CallR X (.builtin "sorted") (rSortedSA X.K) := by
  intro pins s σ H vs us Q I r h
  obtain ⟨a, ls, rfl, hs, q⟩ := h
  obtain ⟨its, rv, hl, hz⟩ := I.list hs
  rw [Vals.ref1 r]
  have st : StrsAre its (ls.map tx) := by
    have : ls.map Tx = (ls.map tx).map V.str := by rw [List.map_map]; rfl
    rw [this] at rv
    exact rv.strs
  refine sorted_strsAny hl.isList st (by rw [← rv.length]; exact hz) fun out ys h1 h2 h3 => ?_
  have e : ys = (ys.map fun s => s.cps.toList).map tx := by
    rw [List.map_map]
    conv => lhs; rw [← List.map_id ys]
    rfl
  have pm : (ys.map fun s => s.cps.toList).Perm ls := by
    have := h2.map fun s : Str => s.cps.toList
    rw [List.map_map] at this
    refine this.trans (List.Perm.of_eq ?_)
    conv => rhs; rw [← List.map_id ls]
    refine List.map_congr_left fun l _ => ?_
    simp
  have so : (ys.map fun s => s.cps.toList).Pairwise (· ≤ ·) := by
    rw [e] at h3
    generalize (ys.map fun s => s.cps.toList) = zs at h3
    cases zs with
    | nil => exact List.Pairwise.nil
    | cons z zs => exact rising_le zs z h3
  obtain ⟨ep, he'⟩ := PyProof.Rows.sortedAll_at s.heap its out
  rw [e] at h1
  have hv := vals_of_strs h1
  rw [List.map_map] at hv
  have hv : Vals ((ys.map fun s => s.cps.toList).map Tx) out.toList := hv
  have hlen : ((ys.map fun s => s.cps.toList).map Tx).length ≤ sizeLine := by
    rw [List.length_map, pm.length_eq]
    rw [List.length_map] at hz
    exact hz
  exact ⟨.ref _, upd H (s.heap.objs.size + 1) (.lst ((ys.map fun s => s.cps.toList).map Tx)), I.laid (t' := s.toks) (fun _ _ => PyProof.Rows.sortedAll_old) (Nat.le_succ _) ⟨hlen, out.toList, ep, hv, he'⟩, rfl, q _ _ pm so (I.hok.fresh (Nat.le_succ _))⟩
end Pg
namespace Pg
open PySem PySem.Spec PyProof.Rows L2
theorem RpL.rev {K : PySem.W.Frag} {H : Hp} : ∀ {vs : List V} {ds : List Dt}, RpL K H vs ds → RpL K H vs.reverse ds.reverse
  | _, [], .nil => .nil
  | _, _ :: _, .cons h r => by
    rw [List.reverse_cons, List.reverse_cons]
    exact RpL.app (RpL.rev r) (.cons h .nil)
theorem RpL.erase {K : PySem.W.Frag} {H : Hp} {α : Type} {f : α → Dt} : ∀ {vs : List V} {ps : List α} {k : Nat}, RpL K H vs (ps.map f) → RpL K H (vs.eraseIdx k) ((ps.eraseIdx k).map f)
  | _, [], _, .nil => .nil
  | _, _ :: _, 0, .cons _ r => r
  | _, _ :: _, k + 1, .cons h r => .cons h (RpL.erase (k := k) r)
theorem seqIx {n : Nat} {d : Int} (h0 : 0 ≤ d) (h1 : d < (n : Int)) : seqIndex? d n = some d.toNat := (ixN_seq (by unfold ixN; rw [if_pos h0, if_pos h1])).1
/-! ### t[::-1] -/
section
variable {prog : Program} {w : World} {A : Around} {E : Value → Shared → Prop} {s : Shared}
open HT
theorem sliceApplied_rev {sl : Addr} {vl vu vs : Value} {n : Nat} {Q : Int × Int × Nat → Shared → Prop} (hs : s.heap.IsSliceOf sl vl vu vs) (pl : IsPart vl none) (pu : IsPart vu none) (ps : IsPart vs (some (-1)))
    (h : Q ((n : Int) - 1, -1, n) s) : wpAny (model prog w) A (Builtin.Slice.sliceApplied (.ref sl) (pure (n : Int))) Q E s := by
  obtain ⟨os, hos, hcs, hds⟩ := id hs
  unfold Builtin.Slice.sliceApplied Builtin.Slice.sliceFields
  refine wpAny_bind (wpAny_bind (wpAny_field hos hds (x := vl) rfl (wpAny_bind (wpAny_field hos hds (x := vu) rfl (wpAny_bind (wpAny_field hos hds (x := vs) rfl (wpAny_pure ?_)))))))
  refine wpAny_bind (slicePart_ ps ?_)
  show wpAny _ _ (if ((-1 : Int) == 0) = true then _ else _) _ _ s
  rw [if_neg (by decide)]
  refine wpAny_bind (slicePart_ pl (wpAny_bind (slicePart_ pu (wpAny_bind (wpAny_pure ?_)))))
  show wpAny _ _ (pure ((n : Int) - 1, (-1 : Int), Builtin.Slice.slicePlaces ((n : Int) - 1) (-1) (-1))) _ _ s
  have e : Builtin.Slice.slicePlaces ((n : Int) - 1) (-1) (-1) = n := by
    unfold Builtin.Slice.slicePlaces
    rw [if_neg (by decide)]
    by_cases c : (n : Int) - 1 > -1
    · rw [if_pos c, show (- -1 : Int) = 1 by decide, Int.ediv_one]
      omega
    · rw [if_neg c]
      omega
  rw [e]
  exact wpAny_pure h
theorem pick_rev (xs : Array Value) : ((List.range xs.size).filterMap fun (k : Nat) => xs[((xs.size : Int) - 1 + (k : Int) * (-1)).toNat]?).toArray = xs.toList.reverse.toArray := by
  have e : (fun (k : Nat) => xs[((xs.size : Int) - 1 + (k : Int) * (-1)).toNat]?) = (fun k => xs[xs.size - 1 - k]?) := by
    funext k
    have : ((xs.size : Int) - 1 + (k : Int) * (-1)).toNat = xs.size - 1 - k := by omega
    rw [this]
  rw [e]
  have e2 : (fun k => xs[xs.size - 1 - k]?) = (fun k => xs[k]?) ∘ fun k => xs.size - 1 - k := rfl
  rw [e2, ← List.filterMap_map, PySem.W.krv_range, List.filterMap_reverse, PySem.W.krv_all]
theorem getItem_tuple_rev {t sl : Addr} {items : Array Value} {vl vu vs : Value} {Q : Value → Shared → Prop} (ht : IsTup s.heap t items) (hs : s.heap.IsSliceOf sl vl vu vs) (pl : IsPart vl none) (pu : IsPart vu none) (ps : IsPart vs (some (-1)))
    (h : Q (.ref s.heap.objs.size) { s with heap := s.heap.push { cls := .type "tuple", data := .seq items.toList.reverse.toArray } })
    (hsz : items.size ≤ sizeLine) : wpAny (model prog w) A (getItem (.ref t) (.ref sl)) Q E s := by
  have htake : sizeOk (.seq items.toList.reverse.toArray) := by
    show items.toList.reverse.toArray.size ≤ sizeLine
    rw [List.size_toArray, List.length_reverse, Array.length_toList]
    exact hsz
  obtain ⟨os, hos, hcs, hds⟩ := id hs
  have hTs : s.TypeIs (.ref sl) "slice" := ⟨os, hos, hcs⟩
  unfold getItem
  try with_reducible refine wpAny_holding ?_
  first | refine wpAny_bind (wpAny_pure ?_) | skip
  refine wpAny_bind (wpAny_sequenceKey ht.typeIs (by decide) ?_)
  refine wpAny_bind (wpAny_callSpecial?_slot (name := Str.ofString "__getitem__") ht.typeIs PyProof.Rows.slot_tuple_getitem
    (wpAny_call_entry PyProof.Rows.slot_tuple_getitem ht.typeIs entry_tuple_getitem ?_ (args_tuple_getitem _ _)))
  show wpAny _ _ (Builtin.Tuple.tupleItemsOf (.ref t) >>= _) _ _ s
  refine wpAny_bind (tupleItemsOf_ ht ?_)
  refine wpAny_bind (wpAny_typeOf hTs ?_)
  rw [if_pos (by decide)]
  refine wpAny_bind (sliceApplied_rev hs pl pu ps ?_)
  have hno : ¬ ((((items.size : Int) - 1) == 0 && (-1 : Int) == 1 && items.size == items.size) = true) := by
    intro q
    rw [Bool.and_eq_true, Bool.and_eq_true] at q
    exact absurd q.1.2 (by decide)
  show wpAny _ _ (if (((items.size : Int) - 1) == 0 && (-1 : Int) == 1 && items.size == items.size) = true then _ else _) _ _ s
  rw [if_neg hno, pick_rev]
  first
    | exact wpAny_bind (m := Builtin.Tuple.tupleExact _) (wpAny_newObj_type (wpAny_pure ⟨_, rfl, wpAny_pure h⟩) htake)
    | exact wpAny_bind (m := Builtin.Tuple.tupleExact _) (wpAny_newObj_type (wpAny_bind (wpAny_pure (wpAny_pure ⟨_, rfl, wpAny_pure h⟩))) htake)
    | exact wpAny_bind (wpAny_bind (m := Builtin.Tuple.tupleExact _) (wpAny_newObj_type (wpAny_pure (wpAny_pure ⟨_, rfl, wpAny_pure h⟩)) htake))
    | exact wpAny_bind (wpAny_bind (m := Builtin.Tuple.tupleExact _) (wpAny_newObj_type (wpAny_pure ⟨_, rfl, wpAny_pure h⟩) htake))
end
section
variable {X : Cx}
def tRevT (K : PySem.W.Frag) (te : TE) : TE := fun σ H Q => te σ H fun x H1 => ∃ a xs, x = .ref a ∧ SqT K H1 a xs ∧ ∀ p, H1 p = none → Q (.ref p) (upd H1 p (.tup xs.reverse))
theorem pe_revT {e : Expr} {te : TE} {k : Nat} {p1 p2 p3 pos : Pos} (he : PE X e te) : PE X (.Subscript e (.Slice none none (some (.UnaryOp .USub (.Constant (.int 1) k p1) p2)) p3) pos) (tRevT X.K te) := by
  refine ⟨fun pins s σ H Q I h => ?_⟩
  refine Subscript_ (thn (he.run pins s σ H _ I h) fun v s1 ⟨x, H1, I1, r1, q1⟩ => ?_)
  obtain ⟨a, xs, ex, hx, q⟩ := q1
  subst ex
  cases r1
  have hst : PO X (some (.UnaryOp .USub (.Constant (.int 1) k p1) p2)) (tPart (tUn (rU fun i => .int (-i)) (tC (.int 1)))) := po_some (pe_un un_neg pe_int)
  refine wpAny_Slice (thn (po_none.run pins s1 σ H1 (fun o H2 => o = none ∧ H2 = H1) I1 ⟨rfl, rfl⟩) fun vl s2 ⟨l, H2, I2, pl, el, e2⟩ => ?_)
  subst el e2
  refine thn (po_none.run pins s2 σ H2 (fun o H3 => o = none ∧ H3 = H2) I2 ⟨rfl, rfl⟩) fun vu s3 ⟨u, H3, I3, pu, eu, e3⟩ => ?_
  subst eu e3
  refine thn (hst.run pins s3 σ H3 (fun o H4 => o = some (-1) ∧ H4 = H3) I3 ⟨1, rfl, -1, rfl, rfl, rfl⟩) fun vs s4 ⟨o, H4, I4, ps, eo, e4⟩ => ?_
  subst eo e4
  have I5 : Inv X pins σ H4 { s4 with heap := s4.heap.push { cls := .type "slice", data := .fields #[vl, vu, vs] } } := I4.kept (t' := s4.toks) fun b ob q => Heap.get?_push_of_some _ q
  obtain ⟨its, r, ht, hz⟩ := I5.tuple hx
  have hlen := r.length
  show wpAny (model X.prog X.w) X.A (subscriptTail e (.Slice none none (some (.UnaryOp .USub (.Constant (.int 1) k p1) p2)) p3) (.ref a) (.ref s4.heap.objs.size)) (EP X pins σ Q) X.xe { s4 with heap := s4.heap.push { cls := .type "slice", data := .fields #[vl, vu, vs] } }
  refine tail_any (ops := [.ref a, .ref s4.heap.objs.size]) ht.typeIs (PyProof.Rows.slot_tuple_getitem.lookup) ?_ (by with_unfolding_all rfl)
  refine getItem_tuple_rev ht (Heap.IsSliceOf.new _ vl vu vs) pl pu ps ?_ (by rw [List.size_toArray]; omega)
  refine ⟨.ref _, _, I5.laid (t' := s4.toks) (o := .tup xs.reverse) (fun b ob q => Heap.get?_push_of_some _ q) (Nat.le_refl _) ?_, rfl, q _ (I5.hok.fresh (Nat.le_refl _))⟩
  exact ⟨by rw [List.length_reverse]; exact hz, _, r.reverse, IsTup.new _ _⟩
end
end Pg
namespace Pg
open PySem PySem.Spec PyProof.Rows L2
theorem pe_clG0 {X : Cx} {j k : Nat} {st : Stmt} {ps : List Str} {sp : Sp} {x : Str} {p pos : Pos} (c : ClG X.prog X.w X.K X.mg X.base k x st ps sp) (hG : X.A.guards = some []) (hr : Room j X.A) (hk : k ≤ j) (hg : Gl X x := by rfl) (hdb : (x == ("__debug__" : Str)) = false := by decide) :
    PE X (.Call (.Name x p) [] [] pos) (tCl sp tNil) := by
  obtain ⟨f, fd, D, F⟩ := c.ex
  refine ⟨fun pins s σ H Q I h => ?_⟩
  refine wpAny_Call_Name_kw (ld_glob I hg D.at_ ?_ hdb)
  exact PySem.W.callWith_K0 I.kIn D.fn.kp (run_g (us := []) (F.mono hk) hG hr D.bd I .nil h)
end Pg
namespace Pv
open PySem PySem.Spec PyProof.Rows L2 Pg
/-! ### values as data, told by repr -/
mutual
def D.py : D → PyData
  | .non => .none
  | .bl b => .bool b
  | .int i => .int i
  | .str l => .str (tx l)
  | .tup ds => .tuple (D.pys ds)
  | .lst ds => .list (D.pys ds)
  | .obj _ => .none
def D.pys : List D → List PyData
  | [] => []
  | d :: ds => d.py :: D.pys ds
end
mutual
/-- signs at most -/
def D.wt : D → Nat
  | .non => 4
  | .bl _ => 5
  | .int _ => 12
  | .str l => 10 * l.length + 2
  | .tup ds => D.wts ds + 4
  | .lst ds => D.wts ds + 4
  | .obj _ => 0
def D.wts : List D → Nat
  | [] => 0
  | d :: ds => d.wt + 2 + D.wts ds
end
mutual
def D.deep : D → Nat
  | .tup ds => D.deeps ds + 1
  | .lst ds => D.deeps ds + 1
  | _ => 0
def D.deeps : List D → Nat
  | [] => 0
  | d :: ds => max d.deep (D.deeps ds)
end
mutual
/-- no objects, small numbers, signs that are signs -/
def D.fair : D → Bool
  | .non => true
  | .bl _ => true
  | .int i => decide (i.natAbs < 10 ^ 10)
  | .str l => l.all fun n => decide (n < 16 ^ 8)
  | .tup ds => D.fairs ds
  | .lst ds => D.fairs ds
  | .obj _ => false
def D.fairs : List D → Bool
  | [] => true
  | d :: ds => d.fair && D.fairs ds
end
section
variable {K : PySem.W.Frag} {S : List Addr} {H : Hp}
mutual
theorem rv_dp : ∀ {v : V} {d : D}, Rv K S H v d → d.fair = true → Dp K H v d.py
  | _, .non, .non, _ => by unfold D.py; exact .non
  | _, .bl _, .bl b, _ => by unfold D.py; exact .bl b
  | _, .int _, .int i, _ => by unfold D.py; exact .int i
  | _, .str _, .str x h, _ => by unfold D.py; exact .str _
  | _, .tup ds, .tup h n r, f => by
    unfold D.py
    unfold D.fair at f
    exact .tup h (rvs_dp r f)
  | _, .lst ds, .lst h o n r, f => by
    unfold D.py
    unfold D.fair at f
    exact .lst (SqL.of h) (rvs_dp r f)
  | _, .obj _, .obj _ _, f => by
    unfold D.fair at f
    cases f
theorem rvs_dp : ∀ {vs : List V} {ds : List D}, RvL K S H vs ds → D.fairs ds = true → DpAll K H vs (D.pys ds)
  | _, [], .nil, _ => by unfold D.pys; exact .nil
  | _, _ :: _, .cons h r, f => by
    unfold D.pys
    unfold D.fairs at f
    obtain ⟨f1, f2⟩ := Bool.and_eq_true_iff.mp f
    exact .cons (rv_dp h f1) (rvs_dp r f2)
end
end
mutual
theorem D.shw : ∀ (d : D), d.fair = true → d.py.showable = true
  | .non, _ => by unfold D.py; simp only [PyData.showable]
  | .bl _, _ => by unfold D.py; simp only [PyData.showable]
  | .int i, f => by
    unfold D.py
    unfold D.fair at f
    simp only [PyData.showable]
    have h := of_decide_eq_true f
    refine decide_eq_true ?_
    by_cases z : i.natAbs = 0
    · rw [z]; decide
    · exact (Nat.log2_lt z).mpr (Nat.lt_trans h (by decide +kernel))
  | .str _, _ => by unfold D.py; simp only [PyData.showable]
  | .tup ds, f => by
    unfold D.py
    unfold D.fair at f
    simp only [PyData.showable]
    exact D.shws ds f
  | .lst ds, f => by
    unfold D.py
    unfold D.fair at f
    simp only [PyData.showable]
    exact D.shws ds f
  | .obj _, f => by
    unfold D.fair at f
    cases f
theorem D.shws : ∀ (ds : List D), D.fairs ds = true → PyData.showableAll (D.pys ds) = true
  | [], _ => by unfold D.pys; simp only [PyData.showableAll]
  | d :: ds, f => by
    unfold D.pys
    unfold D.fairs at f
    obtain ⟨f1, f2⟩ := Bool.and_eq_true_iff.mp f
    simp only [PyData.showableAll, D.shw d f1, D.shws ds f2, Bool.and_self]
end
mutual
theorem D.dpt : ∀ (d : D), d.py.depth = d.deep
  | .non => by unfold D.py D.deep; rfl
  | .bl _ => by unfold D.py D.deep; rfl
  | .int _ => by unfold D.py D.deep; rfl
  | .str _ => by unfold D.py D.deep; rfl
  | .obj _ => by unfold D.py D.deep; rfl
  | .tup ds => by
    unfold D.py D.deep
    show PyData.depthAll _ + 1 = _
    rw [D.dpts ds]
  | .lst ds => by
    unfold D.py D.deep
    show PyData.depthAll _ + 1 = _
    rw [D.dpts ds]
theorem D.dpts : ∀ (ds : List D), PyData.depthAll (D.pys ds) = D.deeps ds
  | [] => by unfold D.pys D.deeps; rfl
  | d :: ds => by
    unfold D.pys D.deeps
    show max d.py.depth (PyData.depthAll (D.pys ds)) = _
    rw [D.dpt d, D.dpts ds]
end
mutual
theorem D.sgn : ∀ (d : D), d.fair = true → d.py.shown.length ≤ d.wt
  | .non, _ => by
    unfold D.py D.wt
    simp only [PyData.shown]
    decide
  | .bl b, _ => by
    unfold D.py D.wt
    cases b <;> simp only [PyData.shown] <;> decide
  | .int i, f => by
    unfold D.py D.wt
    unfold D.fair at f
    simp only [PyData.shown]
    have h := int_text_length_le10 (k := 10) (by decide) (of_decide_eq_true f)
    show (Str.ofString (toString i)).length ≤ 12
    rw [PySem.ofString_length]
    omega
  | .str l, f => by
    unfold D.py D.wt
    unfold D.fair at f
    simp only [PyData.shown]
    have := StrLaws.reprText_len (tx l) (fun c m => of_decide_eq_true (List.all_eq_true.mp f c (by simpa using m)))
    rw [tx_len] at this
    exact this
  | .tup ds, f => by
    unfold D.py D.wt
    unfold D.fair at f
    simp only [PyData.shown]
    have a := tupleText_le (PyData.shownAll (D.pys ds))
    have b := D.sgns ds f
    omega
  | .lst ds, f => by
    unfold D.py D.wt
    unfold D.fair at f
    simp only [PyData.shown]
    have a := listText_le (PyData.shownAll (D.pys ds))
    have b := D.sgns ds f
    omega
  | .obj _, f => by
    unfold D.fair at f
    cases f
theorem D.sgns : ∀ (ds : List D), D.fairs ds = true → ((PyData.shownAll (D.pys ds)).map fun t => t.length + 2).sum ≤ D.wts ds
  | [], _ => by
    unfold D.pys D.wts
    simp only [PyData.shownAll]
    decide
  | d :: ds, f => by
    unfold D.pys D.wts
    unfold D.fairs at f
    obtain ⟨f1, f2⟩ := Bool.and_eq_true_iff.mp f
    have p := D.sgn d f1
    have q := D.sgns ds f2
    simp only [PyData.shownAll, List.map_cons, List.sum_cons]
    omega
end
/-- what repr tells of a value -/
def D.told (d : D) : Str := d.py.shown
structure D.Fine (d : D) : Prop where
  fair : d.fair = true
  deep : d.deep ≤ 100
  wt : d.wt ≤ 1000000
/-- repr of values -/
def rReprD (K : PySem.W.Frag) : List V → Hp → VK → Prop := fun xs H Q => ∃ (S : List Addr) (v : V) (d : D), xs = [v] ∧ Rv K S H v d ∧ d.Fine ∧ Q (.str d.told) H
theorem call_reprD {X : Cx} {j : Nat} (hG : X.A.guards = some []) (hr : Room j X.A) : CallR X (.builtin "repr") (rReprD X.K) := fun pins s σ H xs us Q I r h => by
  obtain ⟨S, v, d, e, rv, ⟨f, dd, sz⟩, q⟩ := h
  exact call_repr hG hr pins s σ H xs us Q I r ⟨v, d.py, e, rv_dp rv f, D.shw d f, by rw [D.dpt]; exact dd, Nat.le_trans (D.sgn d f) (Nat.le_trans sz (by decide)), q⟩
/-! ### list.count of flat items -/
def rCntF (K : PySem.W.Frag) : V → List V → Hp → VK → Prop := fun x xs H Q => ∃ (p : Addr) (ys : List V) (y : V), x = .ref p ∧ xs = [y] ∧ SqL K H p ys ∧ flatV y = true ∧ ys.all flatV = true ∧ Q (.int ((ys.countP fun z => eqV z y : Nat) : Int)) H
theorem count_eqU {x : V} : ∀ {ys : List V} {us : List Value}, Vals ys us → ys.all flatV = true → us.countP (eqU x) = ys.countP fun z => eqV z x
  | [], _, .nil, _ => rfl
  | y :: ys, _, .cons r t, f => by
    rw [List.all_cons, Bool.and_eq_true] at f
    rw [List.countP_cons, List.countP_cons, count_eqU t f.2, eqU_of r f.1]
theorem mt_lcountF {X : Cx} : MtR X "list.count" (rCntF X.K) := by
  intro pins s σ H x xs v us Q I rx rxs h
  obtain ⟨p, ys, y, rfl, rfl, hs, fy, fys, q⟩ := h
  cases rx
  obtain ⟨u, rfl, ru⟩ := rxs.one
  obtain ⟨its, rv, ⟨⟨cls, dd, data, sl⟩, n, ho, hc, hdn, hd⟩, hlen⟩ := I.list hs
  simp only at hc hd
  subst hc hd
  refine call_meets PySem.F.slot_list_count ⟨_, ho, rfl⟩ PySem.F.entry_list_count (PySem.F.args_list_count_2 _ _)
    (SeqAt.list_countAt p its.toArray n dd sl u (eqU y)) ⟨ho, fun u' hu' => mem_eqAt ru fy rv fys u' (by simpa using hu'), ?_⟩
  have ec : its.toArray.toList.countP (eqU y) = ys.countP fun z => eqV z y := count_eqU rv fys
  refine ⟨.int ((ys.countP fun z => eqV z y : Nat) : Int), H, I.tok _, ⟨s.toks, ?_⟩, q⟩
  show Value.int ((its.toArray.toList.countP (eqU y) : Nat) : Int) s.toks = _
  rw [ec]
/-! ### str.index of what is there -/
def rIdxS : V → List V → Hp → VK → Prop := fun x xs H Q => ∃ (a b : Str) (k : Nat), x = .str a ∧ xs = [.str b] ∧ Txt.index0 a b = some k ∧ Q (.int (k : Int)) H
theorem mt_idxS {X : Cx} : MtR X "str.index" rIdxS := by
  intro pins s σ H x xs v us Q I rx rs h
  obtain ⟨a, b, k, rfl, rfl, hk, w⟩ := h
  obtain ⟨t, rfl⟩ := rx
  cases rs with
  | cons r1 rs =>
    cases rs
    obtain ⟨u, rfl⟩ := r1
    cases q : Builtin.Str.occurrences a b 0 a.length 1 with
    | nil =>
      unfold Txt.index0 at hk
      rw [q] at hk
      cases hk
    | cons k' rest =>
      unfold Txt.index0 at hk
      rw [q] at hk
      cases hk
      exact PySem.SC.index q ⟨.int (k : Nat), H, I.tok _, ⟨_, rfl⟩, w⟩
/-! ### xs == ys, both hold the same values -/
def rEqL (K : PySem.W.Frag) : R2 := fun x y H Q => ∃ (S : List Addr) (a b : Addr) (xs : List V) (ds : List D), x = .ref a ∧ y = .ref b ∧ SqL K H a xs ∧ SqL K H b xs ∧ RvL K S H xs ds ∧ Q (.bl true) H
theorem op_eqL {X : Cx} (hu : X.A.units + 64 < cLine) : OpR X (compareOp .Eq) (rEqL X.K) := by
  intro pins s σ H x y v u Q I rx ry h
  obtain ⟨S, a, b, xs, ds, rfl, rfl, hH, hB, rv, q⟩ := h
  cases rx
  cases ry
  obtain ⟨its, r, pl, _⟩ := I.list hH
  obtain ⟨its2, r2, pl2, _⟩ := I.list hB
  have e1 := Vals.length r
  have e2 := Vals.length r2
  refine SeqAt.RcAt.lists (e := fun _ => true) pl.isList pl2.isList (by simp; omega) (by omega) (fun j h1 h2 => ?_) _ _ _ _ ?_
  · have := vals_at rv r r2 X.A.in1 s j (by simpa using h1) (by simpa using h2)
    simpa using this
  · refine ⟨.bl _, H, I, rfl, ?_⟩
    rw [show ((List.range its.toArray.size).all fun _ => true) = true from by simp]
    exact q
/-! ### letters c at the end -/
/-- without the letters c at its end -/
def cOff (l : List Nat) : List Nat := l.take (l.length - (l.reverse.takeWhile fun c => c == 99).length)
theorem cOff_rev (l : List Nat) : cOff l = (l.reverse.dropWhile fun c => c == 99).reverse := by
  unfold cOff
  have e := List.takeWhile_append_dropWhile (p := fun c => c == 99) (l := l.reverse)
  have e2 : l = (l.reverse.dropWhile fun c => c == 99).reverse ++ (l.reverse.takeWhile fun c => c == 99).reverse := by
    rw [← List.reverse_append, e, List.reverse_reverse]
  have hl : l.length = (l.reverse.dropWhile fun c => c == 99).length + (l.reverse.takeWhile fun c => c == 99).length := by
    have := congrArg List.length e2
    simpa using this
  generalize (l.reverse.dropWhile fun c => c == 99) = A at *
  generalize (l.reverse.takeWhile fun c => c == 99) = B at *
  rw [e2, List.length_append, List.length_reverse, List.length_reverse, Nat.add_sub_cancel, ← List.length_reverse (as := A), List.take_left]
theorem contains_c (n : Nat) : (tx [99]).cps.contains n = (n == 99) := by
  by_cases h : n = 99
  · subst h
    decide +kernel
  · rw [show (n == 99) = false from beq_eq_false_iff_ne.mpr h]
    simp [tx]
    exact fun q => h (by omega)
theorem rstrip_c (l : List Nat) : Txt.rstripChars (tx l) (tx [99]) = tx (cOff l) := by
  unfold Txt.rstripChars
  rw [PyProof.Rows.stripBy_eq]
  have e : (tx [99]).cps.contains = fun n => n == 99 := funext contains_c
  rw [e]
  unfold stripLo stripHi Builtin.Str.strSub cOff
  simp [tx, Str.length]
theorem drop_all : ∀ {l : List Nat}, (l.dropWhile fun c => c == 99) = [] → ∀ c ∈ l, c = 99
  | x :: l, h, c, m => by
    rw [List.dropWhile_cons] at h
    by_cases z : (x == 99) = true
    · rw [if_pos z] at h
      rcases List.mem_cons.mp m with rfl | m
      · exact beq_iff_eq.mp z
      · exact drop_all h c m
    · rw [if_neg z] at h
      cases h
theorem cOff_nil {l : List Nat} (h : cOff l = []) : ∀ c ∈ l, c = 99 := fun c m => by
  rw [cOff_rev] at h
  exact drop_all (List.reverse_eq_nil_iff.mp h) c (List.mem_reverse.mpr m)
theorem cOff_last {l : List Nat} (h : cOff l ≠ []) : ∃ i c, cOff l = i ++ [c] ∧ c ≠ 99 := by
  rw [cOff_rev] at h ⊢
  cases e : (l.reverse.dropWhile fun c => c == 99) with
  | nil => rw [e] at h; exact absurd rfl h
  | cons c t =>
    refine ⟨t.reverse, c, by rw [List.reverse_cons], fun z => ?_⟩
    have := List.head?_dropWhile_not (fun c => c == 99) l.reverse
    rw [e] at this
    simp at this
    exact this z
theorem abc_cOff {l : List Nat} (h : Abc l) : Abc (cOff l) := h.take _
theorem cOff_len (l : List Nat) : (cOff l).length ≤ l.length := by
  unfold cOff
  rw [List.length_take]
  omega
/-- the text beyond -/
def bey (l : List Nat) : Option (List Nat) := if cOff l = [] then none else some ((cOff l).dropLast ++ [(cOff l).getLastD 0 + 1])
theorem abc_bey {l m : List Nat} (h : Abc l) (e : bey l = some m) : Abc m ∧ m.length ≤ l.length := by
  unfold bey at e
  by_cases z : cOff l = []
  · rw [if_pos z] at e; cases e
  · rw [if_neg z] at e
    obtain ⟨i, c, hc, n⟩ := cOff_last z
    have hl := cOff_len l
    have ha := abc_cOff h
    rw [hc] at e hl ha
    simp at e
    subst e
    refine ⟨Abc.app (fun x m => ha x (List.mem_append_left _ m)) (Abc.one ?_), by simpa using hl⟩
    rcases ha c (List.mem_append_right _ List.mem_cons_self) with q | q | q <;> omega
end Pv
namespace Pv
open PySem PySem.Spec PyProof.Rows L2 Pg
theorem bag_ls {H : Hp} {b : Addr} {n : Nat} (B : Bag H b n) : Lsts H [b] := by
  obtain ⟨x, y, z, hb, _⟩ := B
  exact .one hb
theorem catle {a b : List Nat} (h : a.length ≤ 12) (g : b.length ≤ 1000) : a.length + b.length ≤ 100000 := by omega
theorem catle' {a b : List Nat} (h : a.length ≤ 1000) (g : b.length ≤ 12) : a.length + b.length ≤ 100000 := by omega
theorem EvD.cat {K : PySem.W.Frag} {S : List Addr} {te tb : TE} {σ : L2.St} {H : Hp} {a b : List Nat} (h : EvD K S te σ H (.str a)) (g : EvD K S tb σ H (.str b)) (hl : a.length + b.length ≤ 100000) : EvD K S (tOp (fun x y H Q => ∃ i j, x = .str i ∧ y = .str j ∧ i.length + j.length ≤ sizeLine ∧ Q (.str (i ++ j)) H) te tb) σ H (.str (a ++ b)) := fun H1 s Q k =>
  h H1 s _ fun v H2 s2 r => g H2 (s.trans s2) _ fun u H3 s3 q => by
    cases r with
    | str _ h1 =>
      cases q with
      | str _ h2 =>
        refine ⟨tx a, tx b, rfl, rfl, by rw [tx_len, tx_len]; exact sz hl, ?_⟩
        rw [tx_app]
        exact k _ _ (s2.trans s3) (.str _ (by rw [List.length_append]; exact hl))
/-! ### t == () -/
def rEqNilT (K : PySem.W.Frag) : R2 := fun x y H Q => ∃ a b xs, x = .ref a ∧ y = .ref b ∧ SqT K H a xs ∧ SqT K H b [] ∧ Q (.bl xs.isEmpty) H
theorem op_eqNilT {X : Cx} (hu : X.A.units + 64 < cLine) : OpR X (compareOp .Eq) (rEqNilT X.K) := by
  intro pins s σ H x y v u Q I rx ry h
  obtain ⟨a, b, xs, rfl, rfl, hH, hB, q⟩ := h
  cases rx
  cases ry
  obtain ⟨its, r, pl, _⟩ := I.tuple hH
  obtain ⟨its2, r2, pl2, _⟩ := I.tuple hB
  cases r2
  have e1 := Vals.length r
  refine SeqAt.RcAt.tuples (e := fun _ => true) pl pl2 (by omega) (fun j h1 h2 => absurd h2 (by simp)) _ _ _ _ ?_
  refine ⟨.bl _, H, I, rfl, ?_⟩
  have e : ((List.range (min its.toArray.size ([] : List Value).toArray.size)).all (fun _ => true) && its.toArray.size == ([] : List Value).toArray.size) = xs.isEmpty := by
    cases r with
    | nil => rfl
    | cons _ _ => simp
  rw [e]
  exact q
end Pv
namespace Kq
open PySem PySem.Spec PyProof.Rows L2 Pg Pv
def topS (i : Nat) : Stmt := PySem.Challenge.pw_pageskips_k03_spans_told.main.body.getD i (.Pass ⟨0, 0, 0, 0⟩)
structure Nm (mg : Str → Option Value) : Prop where
  n_int : mg "int" = none
  n_len : mg "len" = none
  n_max : mg "max" = none
  n_range : mg "range" = none
  n_type : mg "type" = none
  n_tuple : mg "tuple" = none
  n_list : mg "list" = none
  n_str : mg "str" = none
  n_bool : mg "bool" = none
  n_all : mg "all" = none
  n_sorted : mg "sorted" = none
  n_set : mg "set" = none
  n_repr : mg "repr" = none
  n_min : mg "min" = none
  n_any : mg "any" = none
  n_zip : mg "zip" = none
  n_sum : mg "sum" = none
/-- the class InvalidSpan -/
structure Nx (K : PySem.W.Frag) (mg : Str → Option Value) (C : Addr) : Prop where
  x_InvalidSpan : PySem.W.excIn K C [.type "ValueError", .type "Exception", .type "BaseException", .type "object"] "ValueError.__new__" = true
  g_InvalidSpan : mg "InvalidSpan" = some (.ref C)
  k_InvalidSpan : PySem.W.keepIn K (.ref C) = true
  ok : OkC K C
section
variable {P : Program} {w : World} {K : PySem.W.Frag} {mg : Str → Option Value} {base : Heap}
abbrev s__law_bag : Stmt := topS 9
abbrev N__law_bag : List Str := ["cell"]
theorem sc__law_bag : FnScope ["cell"] ["cell"] (defScope s__law_bag) := ⟨rfl, rfl, rfl, by decide +kernel, rfl, by decide +kernel, by decide +kernel⟩

abbrev s__law_draw : Stmt := topS 10
abbrev N__law_draw : List Str := ["bag", "upto", "digit", "turn", "mixed"]
theorem sc__law_draw : FnScope ["bag", "upto", "digit", "turn", "mixed"] ["bag", "upto"] (defScope s__law_draw) := ⟨rfl, rfl, rfl, by decide +kernel, rfl, by decide +kernel, by decide +kernel⟩

/-! ### the bag, the draws -/
def spBag : Sp := fun vs H Q _ => ∃ c : Int, vs = [.int c] ∧ ∀ b H', H b = none → Stp [] H H' → Bag H' b 0 → Q (.ref b) H'
theorem cl__law_bag {f : Addr} {fd : FuncData} (D : Df K mg "_law_bag" s__law_bag ["cell"] f fd) (T : Nm mg) : Cl P w K mg base 1 "_law_bag" s__law_bag ["cell"] spBag := by
  refine D.cl sc__law_bag (fun vs H Q E h => ?_) (fun cdv A outer s H vs Q E hr h => ?_)
  · obtain ⟨c, rfl, _⟩ := h
    rfl
  · obtain ⟨c, rfl, k⟩ := h
    refine ⟨_, (pss_one (ps_ret (pe_lst (pa_cons (pe_callB (call_max2 rfl) (by rfl) T.n_max (by decide +kernel) (pa_cons pe_int (pa_cons (pe_op op_sub (pe_callTy call_int1 (by rfl) T.n_int (by decide +kernel) (pa_cons (pv 0) pa_nil)) (pe_op op_pow pe_int pe_int)) pa_nil))) (pa_cons (pe_op op_mod (pe_callTy call_int1 (by rfl) T.n_int (by decide +kernel) (pa_cons (pv 0) pa_nil)) pe_int) (pa_cons pe_int pa_nil)))))), ?_⟩
    refine ⟨_, rfl, .inl ⟨c, rfl, _, _, rfl, rfl, ⟨by decide, by decide, by decide⟩, _, _, rfl, rfl, _, _, rfl, ?_⟩⟩
    refine ⟨_, rfl, .inl ⟨c, rfl, _, _, rfl, rfl, (by show (0 : Int) < 999999999989; decide), (by show 3 ≤ sizeLine; decide), fun b nb => ?_⟩⟩
    refine k b _ nb (Stp.new nb _) ⟨_, _, _, upd_same, ?_⟩
    have m1 : 0 ≤ c % 999999999989 := Int.emod_nonneg _ (by decide)
    have m2 : c % 999999999989 < 999999999989 := Int.emod_lt_of_pos _ (by decide)
    refine ⟨?_, m1, by omega, by omega, by omega⟩
    split <;> omega
def spDraw : Sp := fun vs H Q _ => ∃ (b : Addr) (up : Int) (n : Nat), vs = [.ref b, .int up] ∧ Bag H b n ∧ n < 2 ^ 30 ∧ 0 < up ∧ up < 2 ^ 30 ∧
  ∀ d H', 0 ≤ d → d < up → Only b H H' → Bag H' b (n + 1) → Q (.int d) H'
theorem cl__law_draw {f : Addr} {fd : FuncData} (D : Df K mg "_law_draw" s__law_draw ["bag", "upto"] f fd) (T : Nm mg) : Cl P w K mg base 1 "_law_draw" s__law_draw ["bag", "upto"] spDraw := by
  refine D.cl sc__law_draw (fun vs H Q E h => ?_) (fun cdv A outer s H vs Q E hr h => ?_)
  · obtain ⟨b, up, n, rfl, _⟩ := h
    rfl
  · obtain ⟨b, up, n, rfl, ⟨x, y, z, hb, x0, y0, y1, z0, z1⟩, hn, u0, u1, k⟩ := h
    refine ⟨_, (pss_cons (ps_if (pt_cmpR op_gt (pe_ix ix_list (pv 0) pe_int (fun _ _ => rfl)) pe_int (by first | exact nomark _ | rfl)) (pss_cons (ps_set (i := 2) sc__law_draw.nd rfl (by first | exact Or.inl rfl | exact Or.inr rfl) (pe_op op_mod (pe_callTy call_int1 (by rfl) T.n_int (by decide +kernel) (pa_cons (pe_ix ix_list (pv 0) pe_int (fun _ _ => rfl)) pa_nil)) (pv 1)))
      (pss_cons (ps_asg (pe_op op_fdivW (pe_ix ix_list (pv 0) pe_int (fun _ _ => rfl)) (pv 1)) (pg_sub (pv 0) pe_int set_list))
      (pss_one (ps_ret (pv 2))))) pss_nil)
      (pss_cons (ps_set (i := 3) sc__law_draw.nd rfl (by first | exact Or.inl rfl | exact Or.inr rfl) (pe_op op_add (pe_ix ix_list (pv 0) pe_int (fun _ _ => rfl)) pe_int))
      (pss_cons (ps_asg (pv 3) (pg_sub (pv 0) pe_int set_list))
      (pss_cons (ps_set (i := 4) sc__law_draw.nd rfl (by first | exact Or.inl rfl | exact Or.inr rfl) (pe_op op_add (pe_op op_mulW (pe_op op_add (pe_ix ix_list (pv 0) pe_int (fun _ _ => rfl)) pe_int) (pe_op op_add (pe_op op_add (pe_op op_mulW (pv 3) (pv 3)) (pe_op op_mulW pe_int (pv 3))) pe_int)) (pe_op op_mulW pe_int (pv 3))))
      (pss_cons (ps_set (i := 4) sc__law_draw.nd rfl (by first | exact Or.inl rfl | exact Or.inr rfl) (pe_op op_fdivW (pe_op op_mod (pe_callTy call_int1 (by rfl) T.n_int (by decide +kernel) (pa_cons (pe_op op_add (pe_op op_add (pe_op op_mulW (pv 4) (pv 4)) (pe_op op_mulW pe_int (pv 4))) (pv 3)) pa_nil)) pe_int) pe_int))
      (pss_one (ps_ret (pe_op op_mod (pe_op op_fdivW (pe_op op_mod (pe_callTy call_int1 (by rfl) T.n_int (by decide +kernel) (pa_cons (pe_op op_add (pe_op op_add (pe_op op_mulW (pv 4) (pv 4)) (pe_op op_mulW pe_int (pv 4))) (pv 3)) pa_nil)) pe_int) pe_int) (pv 1))))))))), ?_⟩
    refine ⟨_, rfl, b, _, 0, .int x, rfl, rfl, SqL.of hb, rfl, _, _, rfl, rfl, _, rfl, ite2 (fun hx => ?_) (fun hx => ?_)⟩
    · refine ⟨_, rfl, b, _, 0, .int x, rfl, rfl, SqL.of hb, rfl, .inl ⟨x, rfl, _, rfl, _, _, rfl, rfl, u0, ?_⟩⟩
      refine ⟨_, rfl, b, _, 0, .int x, rfl, rfl, SqL.of hb, rfl, _, rfl, _, _, rfl, rfl, cdiv 30 u0 u1 (by decide) (by decide), ?_⟩
      refine ⟨_, rfl, b, _, 0, 0, rfl, rfl, hb, rfl, ?_⟩
      refine ⟨_, rfl, k _ _ (Int.emod_nonneg _ (by omega)) (Int.emod_lt_of_pos _ u0) ⟨_, rfl⟩ ⟨_, _, _, upd_same, ?_⟩⟩
      exact ⟨Int.ediv_nonneg x0 (by omega), y0, y1, z0, by omega⟩
    · refine ⟨_, rfl, b, _, 2, .int z, rfl, rfl, SqL.of hb, rfl, _, _, rfl, rfl, ?_⟩
      obtain ⟨t, et⟩ : ∃ t, t = z + 1 := ⟨_, rfl⟩
      dsimp only
      rw [← et]
      have t0 : 0 ≤ t := by omega
      have t1 : t < 2 ^ 31 := by omega
      refine ⟨_, rfl, _, rfl, b, _, 2, 2, rfl, rfl, hb, rfl, ?_⟩
      have a1 := mul_lt (a := 31) (b := 31) t0 t1 t0 t1
      have a2 := mul_lt (i := 1009) (a := 10) (b := 31) (by decide) (by decide) t0 t1
      have a3 := mul_lt (i := y + 5) (j := t * t + 1009 * t + 61) (a := 41) (b := 63) (by omega) (by omega) (by omega) (by omega)
      have a4 := mul_lt (i := 9176) (a := 14) (b := 31) (by decide) (by decide) t0 t1
      refine ⟨_, rfl, b, _, 1, .int y, rfl, rfl, SqL.of upd_same, rfl, _, _, rfl, rfl,
        _, rfl, _, rfl, _, _, rfl, rfl, cmul 31 31 t0 t1 t0 t1 (by decide) (by decide) (by decide),
        _, rfl, _, _, rfl, rfl, cmul 10 31 (by decide) (by decide) t0 t1 (by decide) (by decide) (by decide), _, _, rfl, rfl, _, _, rfl, rfl,
        _, _, rfl, rfl, cmul 41 63 (by omega) (by omega) (by omega) (by omega) (by decide) (by decide) (by decide),
        _, rfl, _, _, rfl, rfl, cmul 14 31 (by decide) (by decide) t0 t1 (by decide) (by decide) (by decide), _, _, rfl, rfl, ?_⟩
      obtain ⟨m, em⟩ : ∃ m, m = (y + 5) * (t * t + 1009 * t + 61) + 9176 * t := ⟨_, rfl⟩
      dsimp only
      rw [← em]
      have m0 : 0 ≤ m := by omega
      have m1 : m < 2 ^ 105 := by omega
      refine ⟨_, rfl, _, rfl, _, _, rfl, rfl, cmul 105 105 m0 m1 m0 m1 (by decide) (by decide) (by decide),
        _, rfl, _, _, rfl, rfl, cmul 20 105 (by decide) (by decide) m0 m1 (by decide) (by decide) (by decide), _, _, rfl, rfl,
        _, rfl, _, _, rfl, rfl, .inl ⟨_, rfl, _, _, rfl, rfl, (by show (0 : Int) < 1000000000039; decide), _, _, rfl, rfl, cdiv 8 (by decide) (by decide) (by decide) (by decide), ?_⟩⟩
      obtain ⟨v, ev⟩ : ∃ v, v = (m * m + 524287 * m + t) % 1000000000039 / 131 := ⟨_, rfl⟩
      dsimp only
      rw [← ev]
      have w0 : 0 ≤ (m * m + 524287 * m + t) % 1000000000039 := Int.emod_nonneg _ (by decide)
      have w1 : (m * m + 524287 * m + t) % 1000000000039 < 1000000000039 := Int.emod_lt_of_pos _ (by decide)
      have v0 : 0 ≤ v := by omega
      have v1 : v < 2 ^ 40 := by omega
      refine ⟨_, rfl, _, rfl, _, _, rfl, rfl, cmul 40 40 v0 v1 v0 v1 (by decide) (by decide) (by decide),
        _, rfl, _, _, rfl, rfl, cmul 13 40 (by decide) (by decide) v0 v1 (by decide) (by decide) (by decide), _, _, rfl, rfl,
        _, rfl, _, _, rfl, rfl, .inl ⟨_, rfl, _, _, rfl, rfl, (by show (0 : Int) < 2147483587; decide), _, _, rfl, rfl, cdiv 5 (by decide) (by decide) (by decide) (by decide), _, rfl, _, _, rfl, rfl, u0, ?_⟩⟩
      exact k _ _ (Int.emod_nonneg _ (by omega)) (Int.emod_lt_of_pos _ u0) ⟨_, rfl⟩ ⟨_, _, _, upd_same, x0, y0, y1, by omega, by omega⟩
abbrev s__law_text : Stmt := topS 11
abbrev N__law_text : List Str := ["bag", "size", "k"]
theorem sc__law_text : FnScope ["bag", "size", "k"] ["bag"] (defScope s__law_text) := ⟨rfl, rfl, rfl, by decide +kernel, rfl, by decide +kernel, by decide +kernel⟩

/-! ### drawn texts -/
def spText : Sp := fun vs H Q _ => ∃ (b : Addr) (n : Nat), vs = [.ref b] ∧ Bag H b n ∧ n + 20 < 2 ^ 30 ∧ ∀ l H', Abc l → l.length ≤ 12 → Stp [b] H H' → Bag H' b (n + 14) → Q (Tx l) H'
theorem cl__law_text {f : Addr} {fd : FuncData} (D : Df K mg "_law_text" s__law_text ["bag"] f fd) (T : Nm mg) (c__law_draw : Cl P w K mg base 1 "_law_draw" s__law_draw ["bag", "upto"] spDraw) : Cl P w K mg base 2 "_law_text" s__law_text ["bag"] spText := by
  refine D.cl sc__law_text (fun vs H Q E h => ?_) (fun cdv A outer s H vs Q E hr h => ?_)
  · obtain ⟨b, n, rfl, _⟩ := h
    rfl
  · obtain ⟨b, n, rfl, B, hn, k⟩ := h
    refine ⟨_, (pss_cons (ps_set (i := 1) sc__law_text.nd rfl (by first | exact Or.inl rfl | exact Or.inr rfl) (pe_cl c__law_draw hr (by omega) (pa_cons (pv 0) (pa_cons (pe_ix ix_list (pe_lst (pa_cons pe_int (pa_cons pe_int (pa_cons pe_int (pa_cons pe_int pa_nil))))) (pe_cl c__law_draw hr (by omega) (pa_cons (pv 0) (pa_cons pe_int pa_nil))) (fun _ _ => rfl)) pa_nil))))
      (pss_one (ps_ret (pe_join pe_str (pe_lc (own := [("k", 2)]) rfl sc__law_text.nd (pi_range1 (by rfl) T.n_range (pa_cons (pv 1) pa_nil)) (blkOk_by (own := [("k", 2)]) (N := N__law_text) (sc := defScope s__law_text) (by decide +kernel)) (fun _ _ _ _ _ => (pg_name (i := 2) sc__law_text.nd rfl (by first | exact Or.inl rfl | exact Or.inr rfl))) (fun _ _ _ _ _ => pts_nil) (fun _ _ _ _ _ => (pe_ix ix_str pe_str (pe_cl c__law_draw hr (by omega) (pa_cons (pv 0) (pa_cons pe_int pa_nil))) (fun _ _ => rfl)))))))), ?_⟩
    refine ⟨_, rfl, (by show 4 ≤ sizeLine; decide), fun l nl => ?_⟩
    have S1 : Stp [b] H (upd H l (.lst [.int 3, .int 4, .int 6, .int 13])) := Stp.new nl _
    refine ⟨_, rfl, b, 4, n, rfl, B.upd (B.ne nl), by omega, by decide, by decide, fun d H2 d0 d1 o1 B1 => ?_⟩
    have S2 : Stp [b] H H2 := S1.trans (o1.stp (List.mem_singleton.mpr rfl))
    have hl : H2 l = some (.lst [.int 3, .int 4, .int 6, .int 13]) := o1.at upd_same (B.ne nl).symm
    obtain ⟨u, mu, eu⟩ := pick_int (ns := [3, 4, 6, 13]) d0 d1
    have u0 : 0 < u ∧ u ≤ 13 := by
      simp at mu
      omega
    refine ⟨l, _, d, .int u, rfl, rfl, SqL.of hl, eu, b, u, n + 1, rfl, B1, by omega, u0.1, by omega, fun z H3 z0 z1 o2 B2 => ?_⟩
    have S3 : Stp [b] H H3 := S2.trans (o2.stp (List.mem_singleton.mpr rfl))
    refine ⟨⟨_, rfl⟩, _, rfl, z, rfl, by omega, by omega, fun L nL => ?_⟩
    refine lc_range (lo := 0) (n := z.toNat) (fun i H4 => ∃ cs : List Nat, Abc cs ∧ cs.length = i ∧ H4 L = some (.lst (cs.map fun c => Tx [c])) ∧ Stp [b] H3 H4 ∧ Bag H4 b (n + 2 + i))
      ⟨[], Abc.nil, rfl, upd_same, Stp.new nL _, B2.upd (B2.ne nL)⟩ ?_ ?_
    · rintro i H4 hi ⟨cs, ha, hcl, hL, S4, B4⟩
      refine ⟨rfl, _, rfl, b, 3, _, rfl, B4, by omega, by decide, by decide, fun d H5 d0 d1 o3 B5 => ?_⟩
      obtain ⟨c, mc, ec⟩ := pick (xs := [97, 98, 99]) d0 d1
      have nLb : L ≠ b := (B2.ne nL).symm
      have hL5 : H5 L = some (.lst (cs.map fun c => Tx [c])) := o3.at hL nLb
      have S5 : Stp [b] H4 H5 := o3.stp (List.mem_singleton.mpr rfl)
      have hc : c = 97 ∨ c = 98 ∨ c = 99 := by
        simp at mc
        exact mc
      refine ⟨("abc" : Str), d, c, rfl, rfl, (by rw [abc_lit]; exact szt (by decide)), (by rw [abc_lit]; exact ec), cs.map fun c => Tx [c], hL5, ?_, ?_⟩
      · rw [List.length_map, hcl]
        exact Nat.lt_of_lt_of_le (show i < 100000 by omega) (by decide)
      · refine ⟨cs ++ [c], ha.app (Abc.one hc), by simp [hcl], ?_, ?_, ?_⟩
        · rw [List.map_append]
          exact upd_same
        · exact (S4.trans S5).mut nL
        · exact B5.upd nLb.symm
    · rintro H4 ⟨cs, ha, hcl, hL, S4, B4⟩
      refine ⟨_, L, cs.map (fun c => tx [c]), rfl, rfl, .inl (SqL.of (by rw [List.map_map]; exact hL)), ?_, ?_⟩
      · rw [List.map_map, nil_lit]
        have e : ∀ l : List Nat, (l.map ((fun x : Str => x.length) ∘ fun c => tx [c])).sum = l.length := by
          intro l
          induction l with
          | nil => rfl
          | cons x l ih =>
            rw [List.map_cons, List.sum_cons, ih, List.length_cons]
            show (tx [x]).length + l.length = l.length + 1
            rw [tx_len]
            simp
            omega
        rw [e, List.length_map, tx_len]
        simp
        omega
      · rw [nil_lit, join_abc]
        exact k _ _ ha (by omega) (S3.trans S4) (B4.mono (by omega))
abbrev s__law_near : Stmt := topS 12
abbrev N__law_near : List Str := ["bag", "word", "way", "sign"]
theorem sc__law_near : FnScope ["bag", "word", "way", "sign"] ["bag", "word"] (defScope s__law_near) := ⟨rfl, rfl, rfl, by decide +kernel, rfl, by decide +kernel, by decide +kernel⟩

abbrev s__law_some : Stmt := topS 14
abbrev N__law_some : List Str := ["bag", "pool"]
theorem sc__law_some : FnScope ["bag", "pool"] ["bag", "pool"] (defScope s__law_some) := ⟨rfl, rfl, rfl, by decide +kernel, rfl, by decide +kernel, by decide +kernel⟩

theorem a_lit : ("a" : Str) = tx [97] := by decide +kernel
theorem atx {l m : List Nat} (h : Abc l) (e : l = m) : Abc m := e ▸ h
def spNear : Sp := fun vs H Q _ => ∃ (b : Addr) (n : Nat) (l : List Nat), vs = [.ref b, Tx l] ∧ Bag H b n ∧ n + 10 < 2 ^ 30 ∧ Abc l ∧ l.length ≤ 12 ∧ ∀ m H', Abc m → m.length ≤ 12 → Stp [b] H H' → Bag H' b (n + 3) → Q (Tx m) H'
theorem cl__law_near {f : Addr} {fd : FuncData} (D : Df K mg "_law_near" s__law_near ["bag", "word"] f fd) (T : Nm mg) (c__law_draw : Cl P w K mg base 1 "_law_draw" s__law_draw ["bag", "upto"] spDraw) : Cl P w K mg base 2 "_law_near" s__law_near ["bag", "word"] spNear := by
  refine D.cl sc__law_near (fun vs H Q E h => ?_) (fun cdv A outer s H vs Q E hr h => ?_)
  · obtain ⟨b, n, l, rfl, _⟩ := h
    rfl
  · obtain ⟨b, n, l, rfl, B, hn, ha, hl, k⟩ := h
    refine ⟨_, (pss_cons (ps_par (i := 2) (j := 3) rfl sc__law_near.nd rfl rfl (by decide) rfl rfl (pa_cons (pe_cl c__law_draw hr (by omega) (pa_cons (pv 0) (pa_cons pe_int pa_nil))) (pa_cons (pe_ix ix_str pe_str (pe_cl c__law_draw hr (by omega) (pa_cons (pv 0) (pa_cons pe_int pa_nil))) (fun _ _ => rfl)) pa_nil)) (by rfl))
      (pss_cons (ps_if (pt_cmpR op_lt (pv 2) pe_int (by first | exact nomark _ | rfl)) (pss_one (ps_ret (pv 1))) pss_nil)
      (pss_cons (ps_if (pt_cmpR op_lt (pv 2) pe_int (by first | exact nomark _ | rfl)) (pss_one (ps_ret (pe_slice sl_str (pe_op op_add_str (pe_op op_add_str (pv 1) (pe_op Pg.op_mul_str pe_str (pe_op op_sub (pv 2) pe_int))) (pv 3)) po_none (po_some pe_int)))) pss_nil)
      (pss_cons (ps_if (pt_cmpR op_eq (pv 2) pe_int (by first | exact nomark _ | rfl)) (pss_one (ps_ret (pe_slice sl_str (pe_op op_add_str (pv 1) (pe_op Pg.op_mul_str (pv 3) pe_int)) po_none (po_some pe_int)))) pss_nil)
      (pss_cons (ps_if (pt_cmpR op_eq (pv 2) pe_int (by first | exact nomark _ | rfl)) (pss_one (ps_ret (pe_op op_add_str (pe_slice sl_str (pv 1) po_none (po_some (pe_un un_neg pe_int))) (pv 3)))) pss_nil)
      (pss_cons (ps_if (pt_cmpR op_eq (pv 2) pe_int (by first | exact nomark _ | rfl)) (pss_one (ps_ret (pe_slice sl_str (pv 1) po_none (po_some (pe_un un_neg pe_int))))) pss_nil)
      (pss_one (ps_ret (pe_slice sl_str (pv 1) po_none (po_some (pe_cl c__law_draw hr (by omega) (pa_cons (pv 0) (pa_cons (pe_op op_add (pe_callB call_len_str (by rfl) T.n_len (by decide +kernel) (pa_cons (pv 1) pa_nil)) pe_int) pa_nil))))))))))))), ?_⟩
    refine ⟨_, rfl, b, 8, n, rfl, B, by omega, by decide, by decide, fun way H1 w0 w1 o1 B1 => ?_⟩
    refine ⟨_, rfl, b, 3, n + 1, rfl, B1, by omega, by decide, by decide, fun d H2 d0 d1 o2 B2 => ?_⟩
    have S2 : Stp [b] H H2 := (o1.stp (List.mem_singleton.mpr rfl)).trans (o2.stp (List.mem_singleton.mpr rfl))
    obtain ⟨c, mc, ec⟩ := pick (xs := [97, 98, 99]) d0 d1
    have hc : c = 97 ∨ c = 98 ∨ c = 99 := by
      simp at mc
      exact mc
    refine ⟨("abc" : Str), d, c, rfl, rfl, (by rw [abc_lit]; exact szt (by decide)), (by rw [abc_lit]; exact ec), _, _, rfl, ?_⟩
    refine ⟨_, rfl, _, _, rfl, rfl, _, rfl, ite2 (fun h1 => ?_) (fun h1 => ?_)⟩
    · exact ⟨_, rfl, k _ _ ha hl S2 (B2.mono (by omega))⟩
    have h1 : ¬ way < 2 := fun q => h1 (decide_eq_true q)
    refine ⟨_, rfl, _, _, rfl, rfl, _, rfl, ite2 (fun h2 => ?_) (fun h2 => ?_)⟩
    · have h2 : way < 4 := of_decide_eq_true h2
      refine ⟨_, rfl, _, rfl, _, _, rfl, rfl, tx [97], way - 2, congrArg V.str a_lit, rfl, mulOk 97 (by omega) (by omega), ?_⟩
      refine ⟨tx l, tx (List.replicate (way - 2).toNat 97), rfl, congrArg V.str (tx_mul _ _), (by rw [tx_len, tx_len, List.length_replicate]; exact sz (by omega)), ?_⟩
      refine ⟨_, rfl, tx (l ++ List.replicate (way - 2).toNat 97), tx [c], congrArg V.str (tx_app _ _), rfl, (by rw [tx_len, tx_len, List.length_append, List.length_replicate, List.length_singleton]; exact sz (by omega)), 12, rfl, ?_⟩
      refine ⟨tx (l ++ List.replicate (way - 2).toNat 97 ++ [c]), congrArg V.str (tx_app _ _), szt (by simp; omega), ?_⟩
      show Q _ _
      rw [show cutS _ none (some 12) = _ from tx_upto _ 12]
      exact k _ _ (((ha.app (Abc.rep _ (.inl rfl))).app (Abc.one hc)).take 12) (by rw [List.length_take]; omega) S2 (B2.mono (by omega))
    have h2 : ¬ way < 4 := fun q => h2 (decide_eq_true q)
    refine ⟨_, rfl, rfl, _, rfl, ite2 (fun h3 => ?_) (fun h3 => ?_)⟩
    · refine ⟨_, rfl, _, rfl, tx [c], 12, rfl, rfl, mulOk c (by decide) (by decide), ?_⟩
      refine ⟨tx l, tx (List.replicate (12 : Int).toNat c), rfl, congrArg V.str (tx_mul _ _), (by rw [tx_len, tx_len, List.length_replicate]; exact sz (by simp; omega)), 12, rfl, ?_⟩
      refine ⟨tx (l ++ List.replicate (12 : Int).toNat c), congrArg V.str (tx_app _ _), szt (by simp; omega), ?_⟩
      show Q _ _
      rw [show cutS _ none (some 12) = _ from tx_upto _ 12]
      exact k _ _ ((ha.app (Abc.rep _ hc)).take 12) (by rw [List.length_take]; omega) S2 (B2.mono (by omega))
    refine ⟨_, rfl, rfl, _, rfl, ite2 (fun h4 => ?_) (fun h4 => ?_)⟩
    · refine ⟨_, rfl, 1, rfl, -1, rfl, tx l, rfl, szt (by omega), _, rfl, tx l.dropLast, tx [c], congrArg V.str (tx_init l), rfl, (by rw [tx_len, tx_len, List.length_dropLast, List.length_singleton]; exact sz (by omega)), ?_⟩
      show Q _ _
      rw [tx_app]
      exact k _ _ (ha.init.app (Abc.one hc)) (by rw [List.length_append, List.length_dropLast, List.length_singleton]; omega) S2 (B2.mono (by omega))
    refine ⟨_, rfl, rfl, _, rfl, ite2 (fun h5 => ?_) (fun h5 => ?_)⟩
    · refine ⟨_, rfl, 1, rfl, -1, rfl, tx l, rfl, szt (by omega), ?_⟩
      show Q _ _
      rw [show cutS _ none (some (-1)) = _ from tx_init l]
      exact k _ _ ha.init (by rw [List.length_dropLast]; omega) S2 (B2.mono (by omega))
    · refine ⟨_, rfl, _, rfl, _, rfl, tx l, rfl, szt (by omega), _, _, rfl, rfl, b, _, n + 2, rfl, B2, by omega, ?_, ?_, fun d H3 d0 d1 o3 B3 => ?_⟩
      · have := tx_len l
        omega
      · have := tx_len l
        omega
      obtain ⟨e, rfl⟩ := Int.eq_ofNat_of_zero_le d0
      refine ⟨_, rfl, tx l, rfl, szt (by omega), ?_⟩
      show Q _ _
      rw [show cutS _ none (some (e : Int)) = _ from tx_upto l e]
      exact k _ _ (ha.take _) (by rw [List.length_take]; omega) (S2.trans (o3.stp (List.mem_singleton.mpr rfl))) B3
/-- a pool: some texts -/
def Pool (H : Hp) (p : Addr) (ls : List (List Nat)) : Prop := H p = some (.lst (ls.map Tx)) ∧ ∀ l ∈ ls, Abc l ∧ l.length ≤ 12
def spSome : Sp := fun vs H Q _ => ∃ (b p : Addr) (n : Nat) (ls : List (List Nat)), vs = [.ref b, .ref p] ∧ Bag H b n ∧ n + 40 < 2 ^ 30 ∧ Pool H p ls ∧ ls.length < 2 ^ 20 ∧ b ≠ p ∧ ∀ m H', Abc m → m.length ≤ 12 → Stp [b] H H' → Bag H' b (n + 20) → Q (Tx m) H'
theorem cl__law_some {f : Addr} {fd : FuncData} (D : Df K mg "_law_some" s__law_some ["bag", "pool"] f fd) (T : Nm mg) (c__law_draw : Cl P w K mg base 1 "_law_draw" s__law_draw ["bag", "upto"] spDraw)
    (c__law_near : Cl P w K mg base 2 "_law_near" s__law_near ["bag", "word"] spNear) (c__law_text : Cl P w K mg base 2 "_law_text" s__law_text ["bag"] spText) : Cl P w K mg base 3 "_law_some" s__law_some ["bag", "pool"] spSome := by
  refine D.cl sc__law_some (fun vs H Q E h => ?_) (fun cdv A outer s H vs Q E hr h => ?_)
  · obtain ⟨b, p, n, ls, rfl, _⟩ := h
    rfl
  · obtain ⟨b, p, n, ls, rfl, B, hn, ⟨hp, ha⟩, hls, ne, k⟩ := h
    refine ⟨_, (pss_cons (ps_if (PW.pt (pw_and (pt_cmpR (op_neD hr.units) (pv 1) (pe_lst pa_nil) (by first | exact nomark _ | rfl)) (pw_and1 (pt_cmpR op_gt (pe_cl c__law_draw hr (by omega) (pa_cons (pv 0) (pa_cons pe_int pa_nil))) pe_int (by first | exact nomark _ | rfl))))) (pss_one (ps_ret (pe_cl c__law_near hr (by omega) (pa_cons (pv 0) (pa_cons (pe_ix ix_list (pv 1) (pe_cl c__law_draw hr (by omega) (pa_cons (pv 0) (pa_cons (pe_callB call_len_seq (by rfl) T.n_len (by decide +kernel) (pa_cons (pv 1) pa_nil)) pa_nil))) (fun _ _ => rfl)) pa_nil))))) pss_nil)
      (pss_one (ps_ret (pe_cl c__law_text hr (by omega) (pa_cons (pv 0) pa_nil))))), ?_⟩
    have npb : p ∉ [b] := fun m => ne (List.mem_singleton.mp m).symm
    have fin : ∀ H1 m, Stp [b] H H1 → Bag H1 b m → m ≤ n + 2 → tRet (tCl spText (tCons (tVar 0) tNil)) { nx := fun _ H' => Q .non H', rt := Q } (start N__law_some [.ref b, .ref p]) H1 := fun H1 m S1 B1 hm => by
      refine ⟨_, rfl, b, m, rfl, B1, by omega, fun l H2 hl hll S2 B2 => ?_⟩
      exact k l H2 hl hll (S1.trans S2) (B2.mono (by omega))
    refine ⟨_, rfl, Nat.zero_le _, fun q hq => ?_⟩
    have S0 : Stp [b] H (upd H q (.lst [])) := Stp.new hq _
    have B0 := B.upd (o := .lst []) (B.ne hq)
    refine ne_nil_strs (SqL.of (S0.kp _ _ npb hp)) (fun l m => (ha l m).1) upd_same ?_
    cases ls with
    | nil => exact ⟨false, rfl, fin _ n S0 B0 (by omega)⟩
    | cons l0 ls =>
    refine ⟨true, rfl, ?_⟩
    refine ⟨_, rfl, b, 3, n, rfl, B0, by omega, by decide, by decide, fun d H1 d0 d1 o1 B1 => ?_⟩
    have S1 : Stp [b] H H1 := S0.trans (o1.stp (List.mem_singleton.mpr rfl))
    refine ⟨_, _, rfl, rfl, _, rfl, ite2 (fun h1 => ?_) (fun h1 => ?_)⟩
    · refine ⟨_, rfl, _, rfl, _, rfl, _, rfl, p, _, rfl, .inl (SqL.of (S1.kp _ _ npb hp)), b, _, n + 1, rfl, B1, by omega, ?_, ?_, fun e H2 e0 e1 o2 B2 => ?_⟩
      · rw [List.length_map, List.length_cons]
        omega
      · rw [List.length_map]
        omega
      have S2 : Stp [b] H H2 := S1.trans (o2.stp (List.mem_singleton.mpr rfl))
      obtain ⟨v, mv, ev⟩ := pick e0 e1
      obtain ⟨m, mm, rfl⟩ := List.mem_map.mp mv
      refine ⟨p, _, e, Tx m, rfl, rfl, SqL.of (S2.kp _ _ npb hp), ev, b, n + 2, m, rfl, B2, by omega, (ha m mm).1, (ha m mm).2, fun m' H3 a3 l3 S3 B3 => ?_⟩
      exact k m' H3 a3 l3 (S2.trans S3) (B3.mono (by omega))
    · exact fin H1 (n + 1) S1 B1 (by omega)
/-! ### spans: what they are -/
abbrev Txt := List Nat
abbrev Pr := Txt × Option Txt
theorem le_of_nlt {a b : Txt} (h : ¬ b < a) : a ≤ b := List.not_lt.mp h
theorem nlt_of_le {a b : Txt} (h : a ≤ b) : ¬ b < a := List.not_lt.mpr h
theorem lt_le {a b c : Txt} (h : a < b) (g : b ≤ c) : a < c := by
  by_cases q : a < c
  · exact q
  · exact absurd (List.lt_of_le_of_lt (le_of_nlt q) h) (nlt_of_le g)
theorem le_lt {a b c : Txt} (h : a ≤ b) (g : b < c) : a < c := List.lt_of_le_of_lt h g
theorem lt_le' {a b : Txt} (h : a < b) : a ≤ b := List.le_of_lt h
theorem nil_le (a : Txt) : ([] : Txt) ≤ a := le_of_nlt (by intro h; cases h)
def Short (l : Txt) : Prop := Abc l ∧ l.length ≤ 12
def PrOk (p : Pr) : Prop := Short p.1 ∧ ∀ e, p.2 = some e → Short e ∧ p.1 < e
def PrS (p : Pr) : Prop := Short p.1 ∧ ∀ e, p.2 = some e → Short e
theorem PrOk.s {p : Pr} (h : PrOk p) : PrS p := ⟨h.1, fun e q => (h.2 e q).1⟩
def Gap (p q : Pr) : Prop := ∃ e, p.2 = some e ∧ e < q.1
structure SpOk (ps : List Pr) : Prop where
  ok : ∀ p ∈ ps, PrOk p
  gap : ps.Pairwise Gap
theorem SpOk.nil : SpOk [] := ⟨fun _ m => (nomatch m), .nil⟩
theorem SpOk.tail {p : Pr} {ps : List Pr} (h : SpOk (p :: ps)) : SpOk ps := ⟨fun q m => h.ok q (List.mem_cons_of_mem _ m), (List.pairwise_cons.mp h.gap).2⟩
/-- a text stands in a range, in a span -/
def inP (w : Txt) (p : Pr) : Bool := decide (p.1 ≤ w) && (match p.2 with | none => true | some e => decide (w < e))
def inS (ps : List Pr) (w : Txt) : Bool := ps.any (inP w)
theorem inP_low {w : Txt} {p : Pr} (h : w < p.1) : inP w p = false := by
  unfold inP
  rw [decide_eq_false (fun q => nlt_of_le q h)]
  rfl
theorem inS_low {ps : List Pr} {w : Txt} (h : ∀ p ∈ ps, w < p.1) : inS ps w = false := by
  unfold inS
  rw [List.any_eq_false]
  intro p m
  rw [inP_low (h p m)]
  simp
theorem firsts {p : Pr} {ps : List Pr} {w : Txt} (h : SpOk (p :: ps)) (g : w ≤ p.1) : ∀ q ∈ ps, w < q.1 := fun q m => by
  obtain ⟨e, e1, e2⟩ := (List.pairwise_cons.mp h.gap).1 q m
  exact le_lt g (List.lt_trans ((h.ok p List.mem_cons_self).2 e e1).2 e2)
/-- what follows an end -/
def past (e : Option Txt) (g : Txt → List Pr) : List Pr := match e with | none => [] | some e => g e
/-- the gaps behind a start -/
def opps : Txt → List Pr → List Pr
  | a, [] => [(a, none)]
  | a, (f, e) :: ps => (if a < f then [(a, some f)] else []) ++ past e fun e => opps e ps
theorem opps_ok : ∀ (ps : List Pr) (a : Txt), SpOk ps → Short a → (∀ p ∈ ps, a ≤ p.1) → SpOk (opps a ps) ∧ ∀ p ∈ opps a ps, a ≤ p.1
  | [], a, _, sa, _ => ⟨⟨fun p m => by
      rw [List.mem_singleton.mp m]
      exact ⟨sa, fun e q => by cases q⟩, List.pairwise_singleton _ _⟩, fun p m => by
      rw [List.mem_singleton.mp m]
      exact le_of_nlt (List.lt_irrefl _)⟩
  | (f, e) :: ps, a, h, sa, g => by
    have gf : a ≤ f := g (f, e) List.mem_cons_self
    have pf := h.ok (f, e) List.mem_cons_self
    have rest : SpOk (past e fun e => opps e ps) ∧ ∀ p ∈ (past e fun e => opps e ps), f < p.1 := by
      cases e with
      | none => exact ⟨.nil, fun _ m => nomatch m⟩
      | some e =>
        obtain ⟨s1, s2⟩ := pf.2 e rfl
        obtain ⟨r1, r2⟩ := opps_ok ps e h.tail s1 fun q m => by
          obtain ⟨e', q1, q2⟩ := (List.pairwise_cons.mp h.gap).1 q m
          cases q1
          exact lt_le' q2
        exact ⟨r1, fun p m => lt_le s2 (r2 p m)⟩
    unfold opps
    obtain ⟨r1, r2⟩ := rest
    by_cases c : a < f
    · rw [if_pos c]
      refine ⟨⟨fun p m => ?_, List.pairwise_cons.mpr ⟨fun q m => ⟨f, rfl, r2 q m⟩, r1.gap⟩⟩, fun p m => ?_⟩
      · rcases List.mem_cons.mp m with rfl | m
        · exact ⟨sa, fun e q => by cases q; exact ⟨pf.1, c⟩⟩
        · exact r1.ok p m
      · rcases List.mem_cons.mp m with rfl | m
        · exact le_of_nlt (List.lt_irrefl _)
        · exact lt_le' (le_lt gf (r2 p m))
    · rw [if_neg c]
      exact ⟨r1, fun p m => lt_le' (le_lt gf (r2 p m))⟩
theorem opps_in : ∀ (ps : List Pr) (a w : Txt), SpOk ps → Short a → (∀ p ∈ ps, a ≤ p.1) → a ≤ w → inS (opps a ps) w = !inS ps w
  | [], a, w, _, _, _, h => by simp [opps, inS, inP, h]
  | (f, e) :: ps, a, w, h, sa, g, hw => by
    have pf := h.ok (f, e) List.mem_cons_self
    by_cases c : w < f
    · have af : a < f := le_lt hw c
      rw [inS_low (ps := (f, e) :: ps) fun p m => by
        rcases List.mem_cons.mp m with rfl | m
        · exact c
        · exact firsts h (lt_le' c) p m]
      unfold opps inS
      rw [if_pos af, List.any_append]
      simp [inP, hw, c]
    · have fw : f ≤ w := le_of_nlt c
      have e1 : inS (opps a ((f, e) :: ps)) w = inS (past e fun e => opps e ps) w := by
        rw [show opps a ((f, e) :: ps) = (if a < f then [(a, some f)] else []) ++ past e fun e => opps e ps from rfl]
        unfold inS
        rw [List.any_append]
        by_cases q : a < f
        · rw [if_pos q]
          simp [inP, c]
        · rw [if_neg q]
          simp
      rw [e1]
      cases e with
      | none =>
        show false = _
        simp [inS, inP, fw]
      | some e =>
        obtain ⟨s1, s2⟩ := pf.2 e rfl
        have ge : ∀ q ∈ ps, e ≤ q.1 := fun q m => by
          obtain ⟨e', q1, q2⟩ := (List.pairwise_cons.mp h.gap).1 q m
          cases q1
          exact lt_le' q2
        by_cases d : w < e
        · have lo : inS (opps e ps) w = false := inS_low fun p m => lt_le d ((opps_ok ps e h.tail s1 ge).2 p m)
          show inS (opps e ps) w = _
          rw [lo]
          simp [inS, inP, fw, d]
        · show inS (opps e ps) w = _
          rw [opps_in ps e w h.tail s1 ge (le_of_nlt d)]
          simp [inS, inP, fw, d]
theorem opps_len : ∀ (ps : List Pr) (a : Txt), (opps a ps).length ≤ ps.length + 1
  | [], _ => Nat.le_refl _
  | (f, e) :: ps, a => by
    unfold opps
    rw [List.length_append]
    have h1 : (if a < f then [(a, some f)] else [] : List Pr).length ≤ 1 := by split <;> simp
    cases e with
    | none =>
      show _ + 0 ≤ _
      rw [List.length_cons]
      omega
    | some e =>
      have := opps_len ps e
      show _ + (opps e ps).length ≤ _
      rw [List.length_cons]
      omega
theorem le_dec (a b : Txt) : decide (a ≤ b) = !decide (b < a) := by
  by_cases h : b < a
  · rw [decide_eq_true h, decide_eq_false (nlt_of_le · h)]
    rfl
  · rw [decide_eq_false h, decide_eq_true (le_of_nlt h)]
    rfl
/-! ### one normal span for each set of texts -/
theorem le_self (a : Txt) : a ≤ a := le_of_nlt (List.lt_irrefl _)
theorem inP_iff {w : Txt} {p : Pr} : inP w p = true ↔ p.1 ≤ w ∧ ∀ e, p.2 = some e → w < e := by
  obtain ⟨f, e⟩ := p
  unfold inP
  cases e with
  | none => simp
  | some e => simp
theorem inS_cons {p : Pr} {ps : List Pr} {w : Txt} : inS (p :: ps) w = (inP w p || inS ps w) := List.any_cons
theorem inS_app {ps qs : List Pr} {w : Txt} : inS (ps ++ qs) w = (inS ps w || inS qs w) := List.any_append
theorem inS_mem {ps : List Pr} {w : Txt} : inS ps w = true ↔ ∃ p ∈ ps, inP w p = true := by
  unfold inS
  rw [List.any_eq_true]
theorem end_out {p : Pr} {ps : List Pr} (h : SpOk (p :: ps)) {e : Txt} (he : p.2 = some e) : inS (p :: ps) e = false := by
  rw [inS_cons, inS_low (ps := ps) fun q m => by
    obtain ⟨e', e1, e2⟩ := (List.pairwise_cons.mp h.gap).1 q m
    rw [he] at e1
    cases e1
    exact e2]
  rw [Bool.or_false, Bool.eq_false_iff]
  intro c
  exact List.lt_irrefl _ ((inP_iff.mp c).2 e he)
theorem span_uniq : ∀ (as bs : List Pr), SpOk as → SpOk bs → (∀ w, inS as w = inS bs w) → as = bs
  | [], [], _, _, _ => rfl
  | [], q :: qs, _, hb, h => by
    have a := h q.1
    rw [inS_cons, inP_iff.mpr ⟨le_self _, fun e he => ((hb.ok q List.mem_cons_self).2 e he).2⟩] at a
    cases a
  | p :: ps, [], ha, _, h => by
    have a := h p.1
    rw [inS_cons, inP_iff.mpr ⟨le_self _, fun e he => ((ha.ok p List.mem_cons_self).2 e he).2⟩] at a
    cases a
  | p :: ps, q :: qs, ha, hb, h => by
    have pin : inS (p :: ps) p.1 = true := by rw [inS_cons, inP_iff.mpr ⟨le_self _, fun e he => ((ha.ok p List.mem_cons_self).2 e he).2⟩]; rfl
    have qin : inS (q :: qs) q.1 = true := by rw [inS_cons, inP_iff.mpr ⟨le_self _, fun e he => ((hb.ok q List.mem_cons_self).2 e he).2⟩]; rfl
    have low : ∀ {p : Pr} {ps : List Pr} {w : Txt}, SpOk (p :: ps) → w < p.1 → inS (p :: ps) w = false := fun {p ps w} hp l => inS_low fun r m => by
      rcases List.mem_cons.mp m with rfl | m
      · exact l
      · exact firsts hp (lt_le' l) r m
    have f1 : p.1 = q.1 := by
      refine List.le_antisymm (le_of_nlt fun l => ?_) (le_of_nlt fun l => ?_)
      · rw [h, ] at *
        have := low ha l
        rw [h, qin] at this
        cases this
      · have := low hb l
        rw [← h, pin] at this
        cases this
    have f2 : p.2 = q.2 := by
      cases hp : p.2 with
      | none =>
        cases hq : q.2 with
        | none => rfl
        | some d =>
          have a := end_out hb hq
          rw [← h, inS_cons, inP_iff.mpr ⟨by rw [f1]; exact lt_le' ((hb.ok q List.mem_cons_self).2 d hq).2, fun e he => by rw [hp] at he; cases he⟩] at a
          cases a
      | some e =>
        cases hq : q.2 with
        | none =>
          have a := end_out ha hp
          rw [h, inS_cons, inP_iff.mpr ⟨by rw [← f1]; exact lt_le' ((ha.ok p List.mem_cons_self).2 e hp).2, fun d hd => by rw [hq] at hd; cases hd⟩] at a
          cases a
        | some d =>
          congr 1
          refine List.le_antisymm (le_of_nlt fun l => ?_) (le_of_nlt fun l => ?_)
          · have a := end_out hb hq
            rw [← h, inS_cons, inP_iff.mpr ⟨by rw [f1]; exact lt_le' ((hb.ok q List.mem_cons_self).2 d hq).2, fun e' he => by rw [hp] at he; cases he; exact l⟩] at a
            cases a
          · have a := end_out ha hp
            rw [h, inS_cons, inP_iff.mpr ⟨by rw [← f1]; exact lt_le' ((ha.ok p List.mem_cons_self).2 e hp).2, fun d' hd => by rw [hq] at hd; cases hd; exact l⟩] at a
            cases a
    have pq : p = q := Prod.ext f1 f2
    subst pq
    congr 1
    refine span_uniq ps qs ha.tail hb.tail fun w => ?_
    cases hp : p.2 with
    | none =>
      have no : ∀ {ps : List Pr}, SpOk (p :: ps) → ps = [] := fun {ps} hh => by
        cases ps with
        | nil => rfl
        | cons r rs =>
          obtain ⟨e, e1, _⟩ := (List.pairwise_cons.mp hh.gap).1 r List.mem_cons_self
          rw [hp] at e1
          cases e1
      rw [no ha, no hb]
    | some e =>
      have lo : ∀ {ps : List Pr}, SpOk (p :: ps) → w ≤ e → inS ps w = false := fun {ps} hh l => inS_low fun r m => by
        obtain ⟨e', e1, e2⟩ := (List.pairwise_cons.mp hh.gap).1 r m
        rw [hp] at e1
        cases e1
        exact le_lt l e2
      by_cases c : e < w
      · have no : inP w p = false := Bool.eq_false_iff.mpr fun q => List.lt_irrefl _ (List.lt_trans c ((inP_iff.mp q).2 e hp))
        have a := h w
        rw [inS_cons, inS_cons, no] at a
        exact a
      · rw [lo ha (le_of_nlt c), lo hb (le_of_nlt c)]
/-- each range of the normal span begins where one of the ranges does -/
theorem first_of {ds ps : List Pr} (hd : SpOk ds) (h : ∀ w, inS ds w = inS ps w) {d : Pr} (m : d ∈ ds) : ∃ p ∈ ps, p.1 = d.1 := by
  have din : inP d.1 d = true := inP_iff.mpr ⟨le_self _, fun e he => ((hd.ok d m).2 e he).2⟩
  obtain ⟨p, mp, hp⟩ := inS_mem.mp ((h d.1).symm.trans (inS_mem.mpr ⟨d, m, din⟩))
  obtain ⟨p1, p2⟩ := inP_iff.mp hp
  refine ⟨p, mp, List.le_antisymm p1 (le_of_nlt fun lt => ?_)⟩
  have pin : inP p.1 p = true := inP_iff.mpr ⟨le_self _, fun e he => List.lt_trans lt (p2 e he)⟩
  obtain ⟨d', m', hd'⟩ := inS_mem.mp ((h p.1).trans (inS_mem.mpr ⟨p, mp, pin⟩))
  obtain ⟨q1, q2⟩ := inP_iff.mp hd'
  have lt' : d'.1 < d.1 := le_lt q1 lt
  obtain ⟨e, e1, e2⟩ : Gap d' d := by
    obtain ⟨i, hi, ei⟩ := List.mem_iff_getElem.mp m'
    obtain ⟨j, hj, ej⟩ := List.mem_iff_getElem.mp m
    rcases Nat.lt_trichotomy i j with c | c | c
    · have := List.pairwise_iff_getElem.mp hd.gap i j hi hj c
      rwa [ei, ej] at this
    · subst c
      rw [ei] at ej
      subst ej
      exact absurd lt' (List.lt_irrefl _)
    · have := List.pairwise_iff_getElem.mp hd.gap j i hj hi c
      rw [ei, ej] at this
      obtain ⟨e, e1, e2⟩ := this
      exact absurd (List.lt_trans (List.lt_trans ((hd.ok d m).2 e e1).2 e2) lt') (List.lt_irrefl _)
  have ein : inP e p = true := inP_iff.mpr ⟨lt_le' (q2 e e1), fun e' he => List.lt_trans e2 (p2 e' he)⟩
  obtain ⟨c, mc, hc⟩ := inS_mem.mp ((h e).trans (inS_mem.mpr ⟨p, mp, ein⟩))
  obtain ⟨c1, c2⟩ := inP_iff.mp hc
  obtain ⟨i, hi, ei⟩ := List.mem_iff_getElem.mp m'
  obtain ⟨j, hj, ej⟩ := List.mem_iff_getElem.mp mc
  rcases Nat.lt_trichotomy i j with q | q | q
  · have := List.pairwise_iff_getElem.mp hd.gap i j hi hj q
    rw [ei, ej] at this
    obtain ⟨e', f1, f2⟩ := this
    rw [e1] at f1
    cases f1
    exact nlt_of_le c1 f2
  · subst q
    rw [ei] at ej
    subst ej
    exact List.lt_irrefl _ (c2 e e1)
  · have := List.pairwise_iff_getElem.mp hd.gap j i hj hi q
    rw [ei, ej] at this
    obtain ⟨e', f1, f2⟩ := this
    exact List.lt_irrefl _ (List.lt_trans (c2 e' f1) (List.lt_trans f2 (lt_le ((hd.ok d' m').2 e e1).2 (le_self e))))
theorem asc_len : ∀ (xs L : List Txt), xs.Pairwise (· < ·) → (∀ x ∈ xs, x ∈ L) → xs.length ≤ L.length
  | [], _, _, _ => Nat.zero_le _
  | x :: xs, L, pw, h => by
    obtain ⟨p1, p2⟩ := List.pairwise_cons.mp pw
    have mx := h x List.mem_cons_self
    have ih := asc_len xs (L.erase x) p2 fun y m => (List.mem_erase_of_ne fun e => List.lt_irrefl _ (e ▸ p1 y m)).mpr (h y (List.mem_cons_of_mem _ m))
    rw [List.length_erase_of_mem mx] at ih
    have := List.length_pos_of_mem mx
    rw [List.length_cons]
    omega
theorem SpOk.asc {ps : List Pr} (h : SpOk ps) : (ps.map Prod.fst).Pairwise (· < ·) := by
  rw [List.pairwise_map]
  exact h.gap.imp_of_mem fun {p q} mp _ ⟨e, e1, e2⟩ => List.lt_trans ((h.ok p mp).2 e e1).2 e2
theorem norm_len {ds ps : List Pr} (hd : SpOk ds) (h : ∀ w, inS ds w = inS ps w) : ds.length ≤ ps.length := by
  have := asc_len (ds.map Prod.fst) (ps.map Prod.fst) hd.asc fun x m => by
    obtain ⟨d, md, rfl⟩ := List.mem_map.mp m
    obtain ⟨p, mp, e⟩ := first_of hd h md
    exact List.mem_map.mpr ⟨p, mp, e⟩
  rwa [List.length_map, List.length_map] at this
theorem short_nil0 : Short [] := ⟨Abc.nil, Nat.zero_le _⟩
theorem opps_opps {ps : List Pr} (h : SpOk ps) : opps [] (opps [] ps) = ps := by
  have o := opps_ok ps [] h short_nil0 fun p _ => nil_le _
  have oo := opps_ok (opps [] ps) [] o.1 short_nil0 fun p _ => nil_le _
  refine span_uniq _ _ oo.1 h fun w => ?_
  rw [opps_in _ _ _ o.1 short_nil0 (fun p _ => nil_le _) (nil_le _), opps_in _ _ _ h short_nil0 (fun p _ => nil_le _) (nil_le _), Bool.not_not]
/-! ### ranges as values -/
theorem pg_tupK {X : Cx} {K : PySem.W.Frag} {pos : Pos} {es : List Expr} {k : Nat} {t : TGs} {n : Nat} (hK : X.K = K) (hc : X.calm = true) (h : PGs X es t) (hn : (assignEach es X.env).length = n) (hst : (assignEach es X.env).findIdx? (·.1) = none) : PG X (.Tuple es k pos) (gTup K n t) := by
  subst hK
  exact pg_tup hc h hn hst
theorem ix_tupK {X : Cx} {K : PySem.W.Frag} (hK : X.K = K) : IxR X (rIxT K) := by
  subst hK
  exact ix_tup

def oD : Option Txt → Dt
  | none => .non
  | some l => .str l
def oV : Option Txt → V
  | none => .non
  | some l => Tx l
def prD (p : Pr) : Dt := .tup [.str p.1, oD p.2]
theorem rp_pr {K : PySem.W.Frag} {H : Hp} {v : V} {p : Pr} (r : Rp K H v (prD p)) : ∃ a, v = .ref a ∧ SqT K H a [Tx p.1, oV p.2] := by
  obtain ⟨f, e⟩ := p
  cases r with
  | tup h _ rl =>
    refine ⟨_, rfl, ?_⟩
    cases rl with
    | cons r1 rl =>
      cases rl with
      | cons r2 rl =>
        cases rl
        cases r1
        cases e with
        | none =>
          cases r2
          exact h
        | some e =>
          cases r2
          exact h
theorem pr_rp {K : PySem.W.Frag} {H : Hp} {a : Addr} {p : Pr} (h : SqT K H a [Tx p.1, oV p.2]) (hf : p.1.length ≤ 12) (he : ∀ e, p.2 = some e → e.length ≤ 12) : Rp K H (.ref a) (prD p) := by
  obtain ⟨f, e⟩ := p
  refine .tup h (by simp) (.cons (.str f (by have : f.length ≤ 12 := hf; omega)) (.cons ?_ .nil))
  cases e with
  | none => exact .non
  | some e => exact .str e (by have := he e rfl; omega)
/-! ### spans as values -/
structure Spn (K : PySem.W.Frag) (H : Hp) (a : Addr) (ps : List Pr) : Prop where
  ex : ∃ vs, SqT K H a vs ∧ RpL K H vs (ps.map prD)
  ok : SpOk ps
  few : ps.length ≤ 3000
theorem Spn.stp {K : PySem.W.Frag} {H H' : Hp} {S : List Addr} {a : Addr} {ps : List Pr} (h : Spn K H a ps) (s : Stp S H H') (l : Lsts H S) : Spn K H' a ps := by
  obtain ⟨vs, h1, h2⟩ := h.ex
  exact ⟨⟨vs, sqt_stp s l h1, h2.stp s l⟩, h.ok, h.few⟩
theorem prs_get {K : PySem.W.Frag} {H : Hp} {vs : List V} {ps : List Pr} {i : Nat} {v : V} (r : RpL K H vs (ps.map prD)) (h : vs[i]? = some v) : ∃ p, ps[i]? = some p ∧ ∃ a, v = .ref a ∧ SqT K H a [Tx p.1, oV p.2] := by
  obtain ⟨d, e, rd⟩ := r.get h
  rw [List.getElem?_map] at e
  cases q : ps[i]? with
  | none =>
    rw [q] at e
    cases e
  | some p =>
    rw [q] at e
    cases e
    exact ⟨p, rfl, rp_pr rd⟩
theorem short_nil : Short [] := ⟨Abc.nil, Nat.zero_le _⟩
theorem prs_one {K : PySem.W.Frag} {H : Hp} {vs : List V} {ds : List Pr} {v : V} {p : Pr} (r : RpL K H vs (ds.map prD)) (h : Rp K H v (prD p)) : RpL K H (vs ++ [v]) ((ds ++ [p]).map prD) := by
  rw [List.map_append]
  exact r.app (.cons h .nil)
abbrev s__law_in : Stmt := topS 16
abbrev N__law_in : List Str := ["pairs", "word", "pair"]
theorem sc__law_in : FnScope ["pairs", "word", "pair"] ["pairs", "word"] (defScope s__law_in) := ⟨rfl, rfl, rfl, by decide +kernel, rfl, by decide +kernel, by decide +kernel⟩

/-! ### _law_in -/
theorem pr_dp {K : PySem.W.Frag} {H : Hp} {v : V} {p : Pr} (r : Rp K H v (prD p)) : Dp K H v (.tuple [.str (tx p.1), match p.2 with | none => .none | some e => .str (tx e)]) := by
  obtain ⟨a, rfl, h⟩ := rp_pr r
  refine .tup h (.cons (.str _) (.cons ?_ .nil))
  cases p.2 with
  | none => exact .non
  | some e => exact .str _
def prP (p : Pr) : PyData := .tuple [.str (tx p.1), match p.2 with | none => .none | some e => .str (tx e)]
theorem prs_dp {K : PySem.W.Frag} {H : Hp} : ∀ {vs : List V} {ps : List Pr}, RpL K H vs (ps.map prD) → DpAll K H vs (ps.map prP)
  | _, [], .nil => .nil
  | _, p :: ps, .cons r q => .cons (pr_dp r) (prs_dp q)
theorem layP {p : Pr} (h : PrS p) : PyData.canLay0 (prP p) = true := by
  obtain ⟨f, e⟩ := p
  have a := strOk_abc h.1.1
  cases e with
  | none =>
    show (PyData.canLay0 (.str (tx f)) && (PyData.canLay0 .none && true)) = true
    rw [a]
    rfl
  | some e =>
    have b := strOk_abc (h.2 e rfl).1
    show (PyData.canLay0 (.str (tx f)) && (PyData.canLay0 (.str (tx e)) && true)) = true
    rw [a, b]
    rfl
theorem layPs : ∀ {ps : List Pr}, (∀ p ∈ ps, PrS p) → PyData.canLayAll0 (ps.map prP) = true
  | [], _ => rfl
  | p :: ps, h => by
    show (PyData.canLay0 (prP p) && PyData.canLayAll0 (ps.map prP)) = true
    rw [layP (h p List.mem_cons_self), layPs fun q m => h q (List.mem_cons_of_mem _ m)]
    rfl
theorem depP (p : Pr) : PyData.depth (prP p) = 1 := by
  obtain ⟨f, e⟩ := p
  cases e <;> rfl
theorem depPs : ∀ (ps : List Pr), PyData.depthAll (ps.map prP) ≤ 1
  | [] => Nat.zero_le _
  | p :: ps => by
    show max (PyData.depth (prP p)) (PyData.depthAll (ps.map prP)) ≤ 1
    rw [depP]
    exact Nat.max_le.mpr ⟨Nat.le_refl _, depPs ps⟩
theorem shapedPs {ps : List Pr} (h : ∀ p ∈ ps, PrS p) : SeqAt.shaped (.list (ps.map prP)) = true := by
  have d := depPs ps
  unfold SeqAt.shaped
  rw [show PyData.canLay0 (.list (ps.map prP)) = true from layPs h]
  have e : PyData.depth (.list (ps.map prP)) = PyData.depthAll (ps.map prP) + 1 := rfl
  simp [e]
  omega
/-- xs != [], xs ranges -/
theorem ne_nil_prs {K : PySem.W.Frag} {H : Hp} {p q : Addr} {vs : List V} {ps : List Pr} {Q : VK} (hp : SqL K H p vs) (r : RpL K H vs (ps.map prD)) (h : ∀ p ∈ ps, PrS p) (hq : H q = some (.lst [])) (k : Q (.bl (!ps.isEmpty)) H) : rNeD K (.ref p) (.ref q) H Q := by
  refine ⟨.list (ps.map prP), .list [], .lst hp (prs_dp r), .lst (SqL.of hq) .nil, shapedPs h, rfl, ?_⟩
  have e : PyData.eqv (.list (ps.map prP)) (.list []) = ps.isEmpty := by
    cases ps with
    | nil => rfl
    | cons l ls => rfl
  rw [e]
  exact k
theorem any_filter (ps : List Pr) (w : Txt) : (!(ps.filter (inP w)).isEmpty) = inS ps w := by
  induction ps with
  | nil => rfl
  | cons p ps ih =>
    unfold inS at ih ⊢
    rw [List.any_cons, List.filter_cons]
    by_cases c : inP w p = true
    · rw [if_pos c, c]
      rfl
    · rw [if_neg c, ih, Bool.eq_false_iff.mpr c]
      rfl
def spInL (K : PySem.W.Frag) : Sp := fun vs H Q _ => ∃ (a : Addr) (xs : List V) (ps : List Pr) (w : Txt), vs = [.ref a, Tx w] ∧ H a = some (.lst xs) ∧ RpL K H xs (ps.map prD) ∧ (∀ p ∈ ps, PrS p) ∧ ps.length ≤ 1000 ∧ ∀ H', Stp [] H H' → Q (.bl (inS ps w)) H'
theorem cl__law_inL {f : Addr} {fd : FuncData} (D : Df K mg "_law_in" s__law_in ["pairs", "word"] f fd) (T : Nm mg) : Cl P w K mg base 1 "_law_in" s__law_in ["pairs", "word"] (spInL K) := by
  refine D.cl sc__law_in (fun vs H Q E h => ?_) (fun cdv A outer s H vs Q E hr h => ?_)
  · obtain ⟨a, xs, ps, l, rfl, _⟩ := h
    rfl
  · obtain ⟨a, xs, ps, l, rfl, hs, rl, ok, few, k⟩ := h
    refine ⟨_, (pss_one (ps_ret (pe_cmpR (op_neD hr.units) (pe_lc (own := [("pair", 2)]) rfl sc__law_in.nd (pi_list (pv 0)) (blkOk_by (own := [("pair", 2)]) (N := N__law_in) (sc := defScope s__law_in) (by decide +kernel)) (fun _ _ _ _ _ => (pg_name (i := 2) sc__law_in.nd rfl (by first | exact Or.inl rfl | exact Or.inr rfl))) (fun _ _ _ _ _ => (pts_one (PW.pt (pw_and (pt_cmpR op_le_str (pe_ix (ix_tupK rfl) (pv 2) pe_int (fun _ _ => rfl)) (pv 1) (by first | exact nomark _ | rfl)) (pw_and1 (PW.pt (pw_or (pt_cmpR op_isN (pe_ix (ix_tupK rfl) (pv 2) pe_int (fun _ _ => rfl)) pe_non (by first | exact nomark _ | rfl)) (pw_or1 (pt_cmpR op_lt_str (pv 1) (pe_ix (ix_tupK rfl) (pv 2) pe_int (fun _ _ => rfl)) (by first | exact nomark _ | rfl)))))))))) (fun _ _ _ _ _ => (pv 2))) (pe_lst pa_nil) (by first | exact nomark _ | rfl)))), ?_⟩
    have lx : xs.length = ps.length := by rw [rl.len, List.length_map]
    refine ⟨_, rfl, a, rfl, ⟨_, SqL.of hs⟩, fun L nL => ?_⟩
    have aL : a ≠ L := ne_of_none hs nL
    refine lc_list (a := a) (xs := xs) (fun i H2 => ∃ vs, H2 L = some (.lst vs) ∧ RpL K H2 vs (((ps.take i).filter (inP l)).map prD) ∧ Stp [] H H2)
      ⟨[], upd_same, .nil, Stp.new nL _⟩ (fun i H2 _ ⟨_, _, _, S⟩ => SqL.of (S.kp _ _ (fun m => nomatch m) hs)) ?_ ?_
    · rintro i x H2 hi ⟨vs, hL, rv, S⟩
      obtain ⟨p, hp, t, rfl, ht⟩ := prs_get rl hi
      obtain ⟨g, e⟩ := p
      have o1 := ok _ (List.mem_of_getElem? hp)
      have ht2 : SqT K H2 t [Tx g, oV e] := sqt_stp S Lsts.nil ht
      have lv : vs.length < sizeLine := by
        have h1 := rv.len
        rw [List.length_map] at h1
        have h2 := List.length_filter_le (inP l) (ps.take i)
        rw [List.length_take] at h2
        exact Nat.lt_of_le_of_lt (show vs.length ≤ 1000 by omega) (by decide)
      have tk : (ps.take (i + 1)).filter (inP l) = (ps.take i).filter (inP l) ++ (if inP l (g, e) = true then [(g, e)] else []) := by
        rw [List.take_add_one, hp, List.filter_append]
        congr 1
        show List.filter (inP l) [(g, e)] = _
        rw [List.filter_cons]
        rfl
      have yes : inP l (g, e) = true → ∃ acc, H2 L = some (.lst acc) ∧ acc.length < sizeLine ∧ ∃ vs, (upd H2 L (.lst (acc ++ [.ref t]))) L = some (.lst vs) ∧ RpL K (upd H2 L (.lst (acc ++ [.ref t]))) vs (((ps.take (i + 1)).filter (inP l)).map prD) ∧ Stp [] H (upd H2 L (.lst (acc ++ [.ref t]))) := fun c => by
        refine ⟨vs, hL, lv, _, upd_same, ?_, S.mut nL⟩
        rw [tk, if_pos c]
        have s4 : Stp [L] H2 (upd H2 L (.lst (vs ++ [.ref t]))) := Stp.put (by simp)
        exact prs_one (rv.stp s4 (.one hL)) (pr_rp (sqt_stp s4 (.one hL) ht2) o1.1.2 fun e' q => (o1.2 e' q).2)
      have no : inP l (g, e) = false → ∃ vs, H2 L = some (.lst vs) ∧ RpL K H2 vs (((ps.take (i + 1)).filter (inP l)).map prD) ∧ Stp [] H H2 := fun c => by
        refine ⟨vs, hL, ?_, S⟩
        rw [tk, if_neg (by rw [c]; simp), List.append_nil]
        exact rv
      refine ⟨rfl, _, rfl, t, _, 0, Tx g, rfl, rfl, ht2, at0, _, rfl, tx g, tx l, rfl, rfl, _, rfl, ite2 (fun h => ?_) (fun h => ?_)⟩
      · have c : ¬ l < g := fun q => by
          rw [decide_eq_true (show (tx l).cps.toList < (tx g).cps.toList from q)] at h
          exact absurd h (by simp)
        have c1 : decide (g ≤ l) = true := by rw [le_dec, decide_eq_false c]; rfl
        refine ⟨_, rfl, t, _, 1, oV e, rfl, rfl, ht2, at1, rfl, _, rfl, ?_⟩
        cases e with
        | none => exact ⟨_, rfl, yes (by unfold inP; rw [c1]; rfl)⟩
        | some e =>
          refine ⟨_, rfl, _, rfl, t, _, 1, Tx e, rfl, rfl, ht2, at1, tx l, tx e, rfl, rfl, _, rfl, ite2 (fun h => ?_) (fun h => ?_)⟩
          · exact ⟨_, rfl, yes (by unfold inP; rw [c1]; exact h)⟩
          · exact no (by unfold inP; rw [c1]; exact Bool.eq_false_iff.mpr h)
      · have c : l < g := by
          by_cases q : l < g
          · exact q
          · refine absurd ?_ h
            rw [decide_eq_false (show ¬ (tx l).cps.toList < (tx g).cps.toList from q)]
            rfl
        exact no (by unfold inP; rw [le_dec, decide_eq_true c]; rfl)
    · rintro H2 ⟨vs, hL, rv, S⟩
      rw [lx, List.take_length] at rv
      refine ⟨Nat.zero_le _, fun q nq => ?_⟩
      have qL : L ≠ q := ne_of_none hL nq
      refine ne_nil_prs (SqL.of (Eq.trans (upd_ne qL) hL)) (rv.stp (Stp.new nq _) Lsts.nil) (fun p m => ok p (List.mem_filter.mp m).1) upd_same ?_
      rw [any_filter]
      exact k _ (S.new' nq)
def spInT (K : PySem.W.Frag) : Sp := fun vs H Q _ => ∃ (a : Addr) (xs : List V) (ps : List Pr) (w : Txt), vs = [.ref a, Tx w] ∧ SqT K H a xs ∧ RpL K H xs (ps.map prD) ∧ (∀ p ∈ ps, PrS p) ∧ ps.length ≤ 1000 ∧ ∀ H', Stp [] H H' → Q (.bl (inS ps w)) H'
theorem cl__law_inT {f : Addr} {fd : FuncData} (D : Df K mg "_law_in" s__law_in ["pairs", "word"] f fd) (T : Nm mg) : Cl P w K mg base 1 "_law_in" s__law_in ["pairs", "word"] (spInT K) := by
  refine D.cl sc__law_in (fun vs H Q E h => ?_) (fun cdv A outer s H vs Q E hr h => ?_)
  · obtain ⟨a, xs, ps, l, rfl, _⟩ := h
    rfl
  · obtain ⟨a, xs, ps, l, rfl, hs, rl, ok, few, k⟩ := h
    refine ⟨_, (pss_one (ps_ret (pe_cmpR (op_neD hr.units) (pe_lc (own := [("pair", 2)]) rfl sc__law_in.nd (pi_tup (pv 0)) (blkOk_by (own := [("pair", 2)]) (N := N__law_in) (sc := defScope s__law_in) (by decide +kernel)) (fun _ _ _ _ _ => (pg_name (i := 2) sc__law_in.nd rfl (by first | exact Or.inl rfl | exact Or.inr rfl))) (fun _ _ _ _ _ => (pts_one (PW.pt (pw_and (pt_cmpR op_le_str (pe_ix (ix_tupK rfl) (pv 2) pe_int (fun _ _ => rfl)) (pv 1) (by first | exact nomark _ | rfl)) (pw_and1 (PW.pt (pw_or (pt_cmpR op_isN (pe_ix (ix_tupK rfl) (pv 2) pe_int (fun _ _ => rfl)) pe_non (by first | exact nomark _ | rfl)) (pw_or1 (pt_cmpR op_lt_str (pv 1) (pe_ix (ix_tupK rfl) (pv 2) pe_int (fun _ _ => rfl)) (by first | exact nomark _ | rfl)))))))))) (fun _ _ _ _ _ => (pv 2))) (pe_lst pa_nil) (by first | exact nomark _ | rfl)))), ?_⟩
    have lx : xs.length = ps.length := by rw [rl.len, List.length_map]
    refine ⟨_, rfl, a, rfl, ⟨_, hs⟩, fun L nL => ?_⟩
    refine lc_tup (a := a) (xs := xs) (fun i H2 => ∃ vs, H2 L = some (.lst vs) ∧ RpL K H2 vs (((ps.take i).filter (inP l)).map prD) ∧ Stp [] H H2)
      ⟨[], upd_same, .nil, Stp.new nL _⟩ (fun i H2 _ ⟨_, _, _, S⟩ => sqt_stp S Lsts.nil hs) ?_ ?_
    · rintro i x H2 hi ⟨vs, hL, rv, S⟩
      obtain ⟨p, hp, t, rfl, ht⟩ := prs_get rl hi
      obtain ⟨g, e⟩ := p
      have o1 := ok _ (List.mem_of_getElem? hp)
      have ht2 : SqT K H2 t [Tx g, oV e] := sqt_stp S Lsts.nil ht
      have lv : vs.length < sizeLine := by
        have h1 := rv.len
        rw [List.length_map] at h1
        have h2 := List.length_filter_le (inP l) (ps.take i)
        rw [List.length_take] at h2
        exact Nat.lt_of_le_of_lt (show vs.length ≤ 1000 by omega) (by decide)
      have tk : (ps.take (i + 1)).filter (inP l) = (ps.take i).filter (inP l) ++ (if inP l (g, e) = true then [(g, e)] else []) := by
        rw [List.take_add_one, hp, List.filter_append]
        congr 1
        show List.filter (inP l) [(g, e)] = _
        rw [List.filter_cons]
        rfl
      have yes : inP l (g, e) = true → ∃ acc, H2 L = some (.lst acc) ∧ acc.length < sizeLine ∧ ∃ vs, (upd H2 L (.lst (acc ++ [.ref t]))) L = some (.lst vs) ∧ RpL K (upd H2 L (.lst (acc ++ [.ref t]))) vs (((ps.take (i + 1)).filter (inP l)).map prD) ∧ Stp [] H (upd H2 L (.lst (acc ++ [.ref t]))) := fun c => by
        refine ⟨vs, hL, lv, _, upd_same, ?_, S.mut nL⟩
        rw [tk, if_pos c]
        have s4 : Stp [L] H2 (upd H2 L (.lst (vs ++ [.ref t]))) := Stp.put (by simp)
        exact prs_one (rv.stp s4 (.one hL)) (pr_rp (sqt_stp s4 (.one hL) ht2) o1.1.2 fun e' q => (o1.2 e' q).2)
      have no : inP l (g, e) = false → ∃ vs, H2 L = some (.lst vs) ∧ RpL K H2 vs (((ps.take (i + 1)).filter (inP l)).map prD) ∧ Stp [] H H2 := fun c => by
        refine ⟨vs, hL, ?_, S⟩
        rw [tk, if_neg (by rw [c]; simp), List.append_nil]
        exact rv
      refine ⟨rfl, _, rfl, t, _, 0, Tx g, rfl, rfl, ht2, at0, _, rfl, tx g, tx l, rfl, rfl, _, rfl, ite2 (fun h => ?_) (fun h => ?_)⟩
      · have c : ¬ l < g := fun q => by
          rw [decide_eq_true (show (tx l).cps.toList < (tx g).cps.toList from q)] at h
          exact absurd h (by simp)
        have c1 : decide (g ≤ l) = true := by rw [le_dec, decide_eq_false c]; rfl
        refine ⟨_, rfl, t, _, 1, oV e, rfl, rfl, ht2, at1, rfl, _, rfl, ?_⟩
        cases e with
        | none => exact ⟨_, rfl, yes (by unfold inP; rw [c1]; rfl)⟩
        | some e =>
          refine ⟨_, rfl, _, rfl, t, _, 1, Tx e, rfl, rfl, ht2, at1, tx l, tx e, rfl, rfl, _, rfl, ite2 (fun h => ?_) (fun h => ?_)⟩
          · exact ⟨_, rfl, yes (by unfold inP; rw [c1]; exact h)⟩
          · exact no (by unfold inP; rw [c1]; exact Bool.eq_false_iff.mpr h)
      · have c : l < g := by
          by_cases q : l < g
          · exact q
          · refine absurd ?_ h
            rw [decide_eq_false (show ¬ (tx l).cps.toList < (tx g).cps.toList from q)]
            rfl
        exact no (by unfold inP; rw [le_dec, decide_eq_true c]; rfl)
    · rintro H2 ⟨vs, hL, rv, S⟩
      rw [lx, List.take_length] at rv
      refine ⟨Nat.zero_le _, fun q nq => ?_⟩
      have qL : L ≠ q := ne_of_none hL nq
      refine ne_nil_prs (SqL.of (Eq.trans (upd_ne qL) hL)) (rv.stp (Stp.new nq _) Lsts.nil) (fun p m => ok p (List.mem_filter.mp m).1) upd_same ?_
      rw [any_filter]
      exact k _ (S.new' nq)
abbrev s__law_points : Stmt := topS 17
abbrev N__law_points : List Str := ["pairs", "pair"]
theorem sc__law_points : FnScope ["pairs", "pair"] ["pairs"] (defScope s__law_points) := ⟨rfl, rfl, rfl, by decide +kernel, rfl, by decide +kernel, by decide +kernel⟩

abbrev s__law_past : Stmt := topS 13
abbrev N__law_past : List Str := ["word"]
theorem sc__law_past : FnScope ["word"] ["word"] (defScope s__law_past) := ⟨rfl, rfl, rfl, by decide +kernel, rfl, by decide +kernel, by decide +kernel⟩

/-! ### _law_points, _law_past -/
/-- the points of some ranges -/
def PtsOf (ps : List Pr) (zs : List Txt) : Prop := ∀ z, z ∈ zs ↔ z = [] ∨ (∃ p ∈ ps, p.1 = z) ∨ ∃ p ∈ ps, p.2 = some z
def spPoints (K : PySem.W.Frag) : Sp := fun vs H Q _ => ∃ (a : Addr) (xs : List V) (ps : List Pr), vs = [.ref a] ∧ H a = some (.lst xs) ∧ RpL K H xs (ps.map prD) ∧ (∀ p ∈ ps, PrS p) ∧ ps.length ≤ 200 ∧
  ∀ (zs : List Txt) b H', Stp [] H H' → H' b = some (.lst (zs.map Tx)) → zs.Pairwise (· < ·) → (∀ z ∈ zs, Short z) → zs.length ≤ 401 → PtsOf ps zs → Q (.ref b) H'
theorem cl__law_points {f : Addr} {fd : FuncData} (D : Df K mg "_law_points" s__law_points ["pairs"] f fd) (T : Nm mg) : Cl P w K mg base 1 "_law_points" s__law_points ["pairs"] (spPoints K) := by
  refine D.cl sc__law_points (fun vs H Q E h => ?_) (fun cdv A outer s H vs Q E hr h => ?_)
  · obtain ⟨a, xs, ps, rfl, _⟩ := h
    rfl
  · obtain ⟨a, xs, ps, rfl, hs, rl, ok, few, k⟩ := h
    refine ⟨_, (pss_one (ps_ret (pe_sortset hr.hd (by rfl) T.n_sorted (by rfl) T.n_set (pe_op op_cat (pe_op op_cat (pe_lst (pa_cons pe_str pa_nil)) (pe_lc (own := [("pair", 1)]) rfl sc__law_points.nd (pi_list (pv 0)) (blkOk_by (own := [("pair", 1)]) (N := N__law_points) (sc := defScope s__law_points) (by decide +kernel)) (fun _ _ _ _ _ => (pg_name (i := 1) sc__law_points.nd rfl (by first | exact Or.inl rfl | exact Or.inr rfl))) (fun _ _ _ _ _ => pts_nil) (fun _ _ _ _ _ => (pe_ix (ix_tupK rfl) (pv 1) pe_int (fun _ _ => rfl))))) (pe_lc (own := [("pair", 1)]) rfl sc__law_points.nd (pi_list (pv 0)) (blkOk_by (own := [("pair", 1)]) (N := N__law_points) (sc := defScope s__law_points) (by decide +kernel)) (fun _ _ _ _ _ => (pg_name (i := 1) sc__law_points.nd rfl (by first | exact Or.inl rfl | exact Or.inr rfl))) (fun _ _ _ _ _ => (pts_one (pt_cmpR op_notN (pe_ix (ix_tupK rfl) (pv 1) pe_int (fun _ _ => rfl)) pe_non (by first | exact nomark _ | rfl)))) (fun _ _ _ _ _ => (pe_ix (ix_tupK rfl) (pv 1) pe_int (fun _ _ => rfl)))))))), ?_⟩
    have lx : xs.length = ps.length := by rw [rl.len, List.length_map]
    refine ⟨(by show 1 ≤ sizeLine; decide), fun L1 n1 => ?_⟩
    have S1 : Stp [] H (upd H L1 (.lst [.str ""])) := Stp.new n1 _
    have h1 := S1.kp _ _ (fun m => nomatch m) hs
    refine ⟨_, rfl, a, rfl, ⟨_, SqL.of h1⟩, fun L2 n2 => ?_⟩
    have n12 : L1 ≠ L2 := ne_of_none upd_same n2
    obtain ⟨H1, e1⟩ : ∃ H1, H1 = upd H L1 (.lst [.str ""]) := ⟨_, rfl⟩
    rw [← e1] at n2 h1 S1 ⊢
    have hL1 : H1 L1 = some (.lst [.str ""]) := by rw [e1]; exact upd_same
    refine lc_list (a := a) (xs := xs) (fun i H2 => H2 L2 = some (.lst (((ps.take i).map Prod.fst).map Tx)) ∧ Stp [] H1 H2)
      ⟨upd_same, Stp.new n2 _⟩ (fun i H2 _ ⟨_, S⟩ => SqL.of (S.kp _ _ (fun m => nomatch m) h1)) ?_ ?_
    · rintro i x H2 hi ⟨hL, S⟩
      obtain ⟨p, hp, t, rfl, ht⟩ := prs_get rl hi
      refine ⟨rfl, _, rfl, t, _, 0, Tx p.1, rfl, rfl, sqt_stp (S1.trans S) Lsts.nil ht, at0, _, hL, ?_, ?_, S.mut n2⟩
      · rw [List.length_map, List.length_map, List.length_take]
        exact Nat.lt_of_le_of_lt (show min i ps.length ≤ 1000 by omega) (by decide)
      · rw [upd_same, List.take_add_one, hp, List.map_append, List.map_append]
        rfl
    · rintro H2 ⟨hL, S⟩
      rw [lx, List.take_length] at hL
      have hL12 : H2 L1 = some (.lst [.str ""]) := S.kp _ _ (fun m => nomatch m) hL1
      have lf : ((ps.map Prod.fst).map Tx).length = ps.length := by rw [List.length_map, List.length_map]
      refine ⟨L1, L2, _, _, rfl, rfl, hL12, hL, ?_, fun L3 n3 => ?_⟩
      · rw [lf]
        exact Nat.le_trans (show [V.str ""].length + ps.length ≤ 1000 by simp; omega) (by decide)
      obtain ⟨H3, e3⟩ : ∃ H3, H3 = upd H2 L3 (.lst ([.str ""] ++ (ps.map Prod.fst).map Tx)) := ⟨_, rfl⟩
      rw [← e3]
      have hL3 : H3 L3 = some (.lst ([.str ""] ++ (ps.map Prod.fst).map Tx)) := by rw [e3]; exact upd_same
      have S3 : Stp [] H H3 := by
        rw [e3]
        exact (S1.trans S).new' n3
      have h3 := S3.kp _ _ (fun m => nomatch m) hs
      refine ⟨_, rfl, a, rfl, ⟨_, SqL.of h3⟩, fun L4 n4 => ?_⟩
      refine lc_list (a := a) (xs := xs) (fun i H4 => H4 L4 = some (.lst (((ps.take i).filterMap Prod.snd).map Tx)) ∧ Stp [] H3 H4)
        ⟨upd_same, Stp.new n4 _⟩ (fun i H4 _ ⟨_, S4⟩ => SqL.of (S4.kp _ _ (fun m => nomatch m) h3)) ?_ ?_
      · rintro i x H4 hi ⟨hL4, S4⟩
        obtain ⟨⟨g, e⟩, hp, t, rfl, ht⟩ := prs_get rl hi
        have ht2 : SqT K H4 t [Tx g, oV e] := sqt_stp (S3.trans S4) Lsts.nil ht
        refine ⟨rfl, _, rfl, t, _, 1, oV e, rfl, rfl, ht2, at1, rfl, _, rfl, ?_⟩
        have tk : (ps.take (i + 1)).filterMap Prod.snd = (ps.take i).filterMap Prod.snd ++ e.toList := by
          rw [List.take_add_one, hp, List.filterMap_append]
          cases e <;> rfl
        cases e with
        | none =>
          refine ite2 (fun h => absurd h (by simp [oV])) (fun _ => ⟨?_, S4⟩)
          rw [tk, Option.toList_none, List.append_nil]
          exact hL4
        | some e =>
          refine ite2 (fun _ => ?_) (fun h => absurd (show _ = true from rfl) h)
          refine ⟨_, rfl, t, _, 1, Tx e, rfl, rfl, ht2, at1, _, hL4, ?_, ?_, S4.mut n4⟩
          · rw [List.length_map]
            have := List.length_filterMap_le Prod.snd (ps.take i)
            rw [List.length_take] at this
            exact Nat.lt_of_le_of_lt (show _ ≤ 1000 by omega) (by decide)
          · rw [upd_same, tk, List.map_append]
            rfl
      · rintro H4 ⟨hL4, S4⟩
        rw [lx, List.take_length] at hL4
        have le := List.length_filterMap_le Prod.snd ps
        have hL34 : H4 L3 = _ := S4.kp _ _ (fun m => nomatch m) hL3
        refine ⟨L3, L4, _, _, rfl, rfl, hL34, hL4, ?_, fun L5 n5 => ?_⟩
        · rw [List.length_append, lf, List.length_map]
          exact Nat.le_trans (show [V.str ""].length + ps.length + _ ≤ 1000 by simp; omega) (by decide)
        have el : ([.str ""] ++ (ps.map Prod.fst).map Tx) ++ (ps.filterMap Prod.snd).map Tx = (([] : Txt) :: (ps.map Prod.fst ++ ps.filterMap Prod.snd)).map Tx := by
          rw [List.map_cons, List.map_append, nil_lit]
          rfl
        rw [el]
        have lenl : (([] : Txt) :: (ps.map Prod.fst ++ ps.filterMap Prod.snd)).length ≤ 401 := by
          rw [List.length_cons, List.length_append, List.length_map]
          omega
        refine ⟨L5, _, rfl, SqL.of upd_same, by omega, fun zs b pw mem len nb => ?_⟩
        have po : PtsOf ps zs := fun z => by
          rw [mem z, List.mem_cons, List.mem_append, List.mem_map, List.mem_filterMap]
        refine k zs b _ ((S3.trans S4).new' n5 |>.new' nb) upd_same pw (fun z m => ?_) (by omega) po
        rcases (po z).mp m with rfl | ⟨p, mp, rfl⟩ | ⟨p, mp, e⟩
        · exact short_nil
        · exact (ok p mp).1
        · exact (ok p mp).2 z e
abbrev s__law_pieces : Stmt := topS 18
abbrev N__law_pieces : List Str := ["points", "marks", "found", "k", "end"]
theorem sc__law_pieces : FnScope ["points", "marks", "found", "k", "end"] ["points", "marks"] (defScope s__law_pieces) := ⟨rfl, rfl, rfl, by decide +kernel, rfl, by decide +kernel, by decide +kernel⟩

/-! ### _law_pieces -/
structure LastOk (zs : List Txt) (i : Nat) (ds : List Pr) : Prop where
  no : ∀ d, ds.getLast? = some d → d.2 = none → i = zs.length
  yes : ∀ d, ds.getLast? = some d → ∀ e, d.2 = some e → ∃ j, j ≤ i ∧ zs[j]? = some e
theorem LastOk.skip {zs : List Txt} {i : Nat} {ds : List Pr} (h : LastOk zs i ds) (l : i < zs.length) : LastOk zs (i + 1) ds :=
  ⟨fun d e n => by have := h.no d e n; omega, fun d e x q => by obtain ⟨j, a, b⟩ := h.yes d e x q; exact ⟨j, by omega, b⟩⟩
theorem LastOk.next {zs : List Txt} {i : Nat} {ds : List Pr} {z : Txt} (hi : i < zs.length) : LastOk zs (i + 1) (ds ++ [(z, zs[i + 1]?)]) :=
  ⟨fun d e n => by
    rw [List.getLast?_append, List.getLast?_singleton] at e
    cases e
    have n' : zs[i + 1]? = none := n
    have := List.getElem?_eq_none_iff.mp n'
    omega, fun d e x q => by
    rw [List.getLast?_append, List.getLast?_singleton] at e
    cases e
    exact ⟨i + 1, Nat.le_refl _, q⟩⟩
theorem asc {zs : List Txt} (pw : zs.Pairwise (· < ·)) {i j : Nat} {a b : Txt} (h : i < j) (ha : zs[i]? = some a) (hb : zs[j]? = some b) : a < b := by
  obtain ⟨i1, g1⟩ := List.getElem?_eq_some_iff.mp ha
  obtain ⟨i2, g2⟩ := List.getElem?_eq_some_iff.mp hb
  have := List.pairwise_iff_getElem.mp pw i j i1 i2 h
  rwa [g1, g2] at this
theorem grow_new {zs : List Txt} {ds : List Pr} {i : Nat} {z : Txt} (pw : zs.Pairwise (· < ·)) (sh : ∀ z ∈ zs, Short z) (ok : SpOk ds) (la : LastOk zs i ds) (hz : zs[i]? = some z) (ne : ∀ d, ds.getLast? = some d → d.2 ≠ some z) : SpOk (ds ++ [(z, zs[i + 1]?)]) := by
  have hi := (List.getElem?_eq_some_iff.mp hz).1
  refine ⟨fun p m => ?_, List.pairwise_append.mpr ⟨ok.gap, List.pairwise_singleton _ _, fun p mp q mq => ?_⟩⟩
  · rcases List.mem_append.mp m with m | m
    · exact ok.ok p m
    · rw [List.mem_singleton.mp m]
      exact ⟨sh z (List.mem_of_getElem? hz), fun e q => ⟨sh e (List.mem_of_getElem? q), asc pw (Nat.lt_succ_self i) hz q⟩⟩
  · rw [List.mem_singleton.mp mq]
    rcases List.eq_nil_or_concat ds with rfl | ⟨d0, d, rfl⟩
    · cases mp
    rw [List.concat_eq_append] at *
    have gl : (d0 ++ [d]).getLast? = some d := by rw [List.getLast?_append, List.getLast?_singleton]; rfl
    obtain ⟨e, e1, e2⟩ : Gap d (z, zs[i + 1]?) := by
      cases q : d.2 with
      | none =>
        have := la.no d gl q
        omega
      | some e =>
        obtain ⟨j, j1, j2⟩ := la.yes d gl e q
        refine ⟨e, q, ?_⟩
        rcases Nat.lt_or_eq_of_le j1 with j1 | rfl
        · exact asc pw j1 j2 hz
        · rw [hz] at j2
          cases j2
          exact absurd q (ne d gl)
    rcases List.mem_append.mp mp with mp | mp
    · obtain ⟨e', f1, f2⟩ := (List.pairwise_append.mp ok.gap).2.2 p mp d List.mem_cons_self
      exact ⟨e', f1, List.lt_trans f2 (List.lt_trans ((ok.ok d (by simp)).2 e e1).2 e2)⟩
    · rw [List.mem_singleton.mp mp]
      exact ⟨e, e1, e2⟩
theorem grow_old {zs : List Txt} {d0 : List Pr} {d : Pr} {i : Nat} {z : Txt} (pw : zs.Pairwise (· < ·)) (sh : ∀ z ∈ zs, Short z) (ok : SpOk (d0 ++ [d])) (hz : zs[i]? = some z) (e : d.2 = some z) : SpOk (d0 ++ [(d.1, zs[i + 1]?)]) := by
  have od := ok.ok d (by simp)
  refine ⟨fun p m => ?_, List.pairwise_append.mpr ⟨(List.pairwise_append.mp ok.gap).1, List.pairwise_singleton _ _, fun p mp q mq => ?_⟩⟩
  · rcases List.mem_append.mp m with m | m
    · exact ok.ok p (List.mem_append_left _ m)
    · rw [List.mem_singleton.mp m]
      exact ⟨od.1, fun e' q => ⟨sh e' (List.mem_of_getElem? q), List.lt_trans (od.2 z e).2 (asc pw (Nat.lt_succ_self i) hz q)⟩⟩
  · rw [List.mem_singleton.mp mq]
    obtain ⟨e', f1, f2⟩ := (List.pairwise_append.mp ok.gap).2.2 p mp d List.mem_cons_self
    exact ⟨e', f1, f2⟩
/-- what the pieces have: behind each point just what is marked there -/
structure Mem (zs : List Txt) (bs : List Bool) (i : Nat) (ds : List Pr) : Prop where
  yes : ∀ j z b w, j < i → zs[j]? = some z → bs[j]? = some b → z ≤ w → (∀ z', zs[j + 1]? = some z' → w < z') → inS ds w = b
  out : ∀ z w, zs[i]? = some z → z ≤ w → inS ds w = false
theorem Mem.nil {zs : List Txt} {bs : List Bool} : Mem zs bs 0 [] := ⟨fun _ _ _ _ h => absurd h (Nat.not_lt_zero _), fun _ _ _ _ => rfl⟩
theorem Mem.skip {zs : List Txt} {bs : List Bool} {i : Nat} {ds : List Pr} (pw : zs.Pairwise (· < ·)) (m : Mem zs bs i ds) {z : Txt} (hz : zs[i]? = some z) (hb : bs[i]? = some false) : Mem zs bs (i + 1) ds := by
  refine ⟨fun j z' b w hj h1 h2 h3 h4 => ?_, fun z' w h1 h2 => ?_⟩
  · rcases Nat.lt_or_eq_of_le (Nat.lt_succ_iff.mp hj) with q | rfl
    · exact m.yes j z' b w q h1 h2 h3 h4
    · rw [hb] at h2
      cases h2
      exact m.out z' w h1 h3
  · exact m.out z w hz (lt_le' (lt_le (asc pw (Nat.lt_succ_self i) hz h1) h2))
theorem Mem.grow {zs : List Txt} {bs : List Bool} {i : Nat} {ds ds' : List Pr} (pw : zs.Pairwise (· < ·)) (m : Mem zs bs i ds) {z : Txt} (hz : zs[i]? = some z) (hb : bs[i]? = some true)
    (lo : ∀ w, w < z → inS ds' w = inS ds w) (hi : ∀ w, z ≤ w → (inS ds' w = true ↔ ∀ z', zs[i + 1]? = some z' → w < z')) : Mem zs bs (i + 1) ds' := by
  refine ⟨fun j z' b w hj h1 h2 h3 h4 => ?_, fun z' w h1 h2 => ?_⟩
  · rcases Nat.lt_or_eq_of_le (Nat.lt_succ_iff.mp hj) with q | rfl
    · have lt : w < z := by
        have hl : j + 1 < zs.length := by have := (List.getElem?_eq_some_iff.mp hz).1; omega
        have e := List.getElem?_eq_getElem hl
        have a := h4 _ e
        rcases Nat.lt_or_eq_of_le q with c | c
        · exact List.lt_trans a (asc pw c e hz)
        · have c : j + 1 = i := c
          subst c
          rw [hz] at e
          cases e
          exact a
      rw [lo w lt]
      exact m.yes j z' b w q h1 h2 h3 h4
    · rw [hb] at h2
      cases h2
      rw [hz] at h1
      cases h1
      exact (hi w h3).mpr h4
  · rw [Bool.eq_false_iff]
    intro c
    exact List.lt_irrefl _ (lt_le ((hi w (lt_le' (lt_le (asc pw (Nat.lt_succ_self i) hz h1) h2))).mp c z' h1) h2)
theorem Mem.new {zs : List Txt} {bs : List Bool} {i : Nat} {ds : List Pr} (pw : zs.Pairwise (· < ·)) (m : Mem zs bs i ds) {z : Txt} (hz : zs[i]? = some z) (hb : bs[i]? = some true) : Mem zs bs (i + 1) (ds ++ [(z, zs[i + 1]?)]) := by
  refine m.grow pw hz hb (fun w l => ?_) (fun w l => ?_)
  · rw [inS_app, inS_cons, inP_low l]
    show (inS ds w || (false || false)) = _
    simp
  · rw [inS_app, inS_cons, m.out z w hz l, Bool.false_or]
    show (inP w (z, zs[i + 1]?) || false) = true ↔ _
    rw [Bool.or_false, inP_iff]
    exact ⟨fun h => h.2, fun h => ⟨l, h⟩⟩
theorem Mem.old {zs : List Txt} {bs : List Bool} {i : Nat} {d0 : List Pr} {d : Pr} (pw : zs.Pairwise (· < ·)) (m : Mem zs bs i (d0 ++ [d])) {z : Txt} (hz : zs[i]? = some z) (hb : bs[i]? = some true) (e : d.2 = some z) (lt : d.1 < z) : Mem zs bs (i + 1) (d0 ++ [(d.1, zs[i + 1]?)]) := by
  refine m.grow pw hz hb (fun w l => ?_) (fun w l => ?_)
  · rw [inS_app, inS_app]
    congr 1
    rw [inS_cons, inS_cons]
    congr 1
    rw [Bool.eq_iff_iff, inP_iff, inP_iff]
    constructor
    · exact fun h => ⟨h.1, fun e' he => by rw [e] at he; cases he; exact l⟩
    · exact fun h => ⟨h.1, fun e' he => List.lt_trans l (asc pw (Nat.lt_succ_self i) hz he)⟩
  · have o := m.out z w hz l
    rw [inS_app, Bool.or_eq_false_iff] at o
    rw [inS_app, o.1, Bool.false_or, inS_cons]
    show (inP w (d.1, zs[i + 1]?) || false) = true ↔ _
    rw [Bool.or_false, inP_iff]
    exact ⟨fun h => h.2, fun h => ⟨lt_le' (lt_le lt l), h⟩⟩
theorem rpl_set {K : PySem.W.Frag} {H : Hp} : ∀ {vs : List V} {ds : List Dt} {j : Nat} {v : V} {d : Dt}, RpL K H vs ds → Rp K H v d → RpL K H (vs.set j v) (ds.set j d)
  | _, [], _, _, _, .nil, _ => .nil
  | _, _ :: _, 0, _, _, .cons _ r, h => .cons h r
  | _, _ :: _, j + 1, _, _, .cons a r, h => .cons a (rpl_set (j := j) r h)
def spPieces (K : PySem.W.Frag) : Sp := fun vs H Q _ => ∃ (p m : Addr) (zs : List Txt) (bs : List Bool), vs = [.ref p, .ref m] ∧ H p = some (.lst (zs.map Tx)) ∧ H m = some (.lst (bs.map V.bl)) ∧ bs.length = zs.length ∧ zs.Pairwise (· < ·) ∧ (∀ z ∈ zs, Short z) ∧ zs.length ≤ 401 ∧
  ∀ b ps H', Stp [] H H' → Spn K H' b ps → ps.length ≤ 401 → Mem zs bs zs.length ps → Q (.ref b) H'
theorem cl__law_pieces {f : Addr} {fd : FuncData} (D : Df K mg "_law_pieces" s__law_pieces ["points", "marks"] f fd) (T : Nm mg) : Cl P w K mg base 1 "_law_pieces" s__law_pieces ["points", "marks"] (spPieces K) := by
  refine D.cl sc__law_pieces (fun vs H Q E h => ?_) (fun cdv A outer s H vs Q E hr h => ?_)
  · obtain ⟨p, m, zs, bs, rfl, _⟩ := h
    rfl
  · obtain ⟨p, m, zs, bs, rfl, hp, hm, lb, pw, sh, few, k⟩ := h
    refine ⟨_, (pss_cons (ps_set (i := 2) sc__law_pieces.nd rfl (by first | exact Or.inl rfl | exact Or.inr rfl) (pe_lst pa_nil))
      (pss_cons (ps_for PassesOwn.never rfl (pi_range1 (by rfl) T.n_range (pa_cons (pe_callB call_len_seq (by rfl) T.n_len (by decide +kernel) (pa_cons (pv 0) pa_nil)) pa_nil)) (pg_name (i := 3) sc__law_pieces.nd rfl (by first | exact Or.inl rfl | exact Or.inr rfl)) (pss_one (ps_if (pt_val (pe_ix ix_list (pv 1) (pv 3) (fun _ _ => rfl))) (pss_cons (ps_set (i := 4) sc__law_pieces.nd rfl (by first | exact Or.inl rfl | exact Or.inr rfl) (pe_ifExp (pt_cmpR op_lt (pe_op op_add (pv 3) pe_int) (pe_callB call_len_seq (by rfl) T.n_len (by decide +kernel) (pa_cons (pv 0) pa_nil)) (by first | exact nomark _ | rfl)) (pe_ix ix_list (pv 0) (pe_op op_add (pv 3) pe_int) (fun _ _ => rfl)) pe_non))
      (pss_one (ps_if (PW.pt (pw_and (pt_cmpR (op_neD hr.units) (pv 2) (pe_lst pa_nil) (by first | exact nomark _ | rfl)) (pw_and1 (pt_cmpR op_eq (pe_ix ix_tup (pe_ix ix_list (pv 2) (pe_op op_sub (pe_callB call_len_seq (by rfl) T.n_len (by decide +kernel) (pa_cons (pv 2) pa_nil)) pe_int) (fun _ _ => rfl)) pe_int (fun _ _ => rfl)) (pe_ix ix_list (pv 0) (pv 3) (fun _ _ => rfl)) (by first | exact nomark _ | rfl))))) (pss_one (ps_asg (pe_tup (pa_cons (pe_ix ix_tup (pe_ix ix_list (pv 2) (pe_op op_sub (pe_callB call_len_seq (by rfl) T.n_len (by decide +kernel) (pa_cons (pv 2) pa_nil)) pe_int) (fun _ _ => rfl)) pe_int (fun _ _ => rfl)) (pa_cons (pv 4) pa_nil))) (pg_sub (pv 2) (pe_op op_sub (pe_callB call_len_seq (by rfl) T.n_len (by decide +kernel) (pa_cons (pv 2) pa_nil)) pe_int) set_list))) (pss_one (ps_expr (pe_bm PySem.F.plainAttrs_list PySem.F.slot_list_append PySem.F.type_list_append mt_append (pv 2) (pa_cons (pe_tup (pa_cons (pe_ix ix_list (pv 0) (pv 3) (fun _ _ => rfl)) (pa_cons (pv 4) pa_nil))) pa_nil))))))) pss_nil)))
      (pss_one (ps_ret (pe_callTy call_tuple_of (by rfl) T.n_tuple (by decide +kernel) (pa_cons (pv 2) pa_nil)))))), ?_⟩
    refine ⟨Nat.zero_le _, fun F nF => ?_⟩
    have S0 : Stp [] H (upd H F (.lst [])) := Stp.new nF _
    refine ⟨_, rfl, p, _, rfl, .inl (SqL.of (S0.kp _ _ (fun m => nomatch m) hp)), _, rfl, ?_⟩
    rw [List.length_map]
    refine ⟨by omega, by omega, for_range (lo := 0) (n := zs.length) (fun i σ H2 => ∃ (ds : List Pr) (vs : List V) (x3 x4 : Option V), σ = [some (.ref p), some (.ref m), some (.ref F), x3, x4] ∧ H2 F = some (.lst vs) ∧ RpL K H2 vs (ds.map prD) ∧ SpOk ds ∧ ds.length ≤ i ∧ LastOk zs i ds ∧ Mem zs bs i ds ∧ Stp [] H H2)
      ⟨[], [], _, _, rfl, upd_same, .nil, .nil, Nat.zero_le _, ⟨fun d e => (by cases e), fun d e => (by cases e)⟩, Mem.nil, S0⟩ ?_ ?_⟩
    · rintro i σ H2 hi ⟨ds, vs, x3, x4, rfl, hF, rd, ok, ld, la, me, S⟩
      have hp2 : H2 p = some (.lst (zs.map Tx)) := S.kp _ _ (fun m => nomatch m) hp
      have hm2 : H2 m = some (.lst (bs.map V.bl)) := S.kp _ _ (fun m => nomatch m) hm
      obtain ⟨b, hb⟩ : ∃ b, bs[i]? = some b := ⟨bs[i]'(by omega), List.getElem?_eq_getElem _⟩
      obtain ⟨z, hz⟩ : ∃ z, zs[i]? = some z := ⟨zs[i]'(by omega), List.getElem?_eq_getElem _⟩
      have z0 : (0 : Int) + (i : Int) = (i : Int) := Int.zero_add _
      have ab : atI (bs.map V.bl) (0 + (i : Int)) = some (.bl b) := by
        rw [z0]
        exact atI_nat (by rw [List.getElem?_map, hb]; rfl)
      have az : atI (zs.map Tx) (0 + (i : Int)) = some (Tx z) := by
        rw [z0]
        exact atI_nat (by rw [List.getElem?_map, hz]; rfl)
      refine ⟨_, rfl, _, rfl, m, _, _, .bl b, rfl, rfl, SqL.of hm2, ab, b, rfl, ite2 (fun h => ?_) (fun h => ?_)⟩
      · have hbt : bs[i]? = some true := by rw [hb, h]
        refine ⟨_, rfl, _, _, rfl, rfl, _, rfl, p, _, rfl, .inl (SqL.of hp2), _, _, rfl, rfl, _, rfl, ite2 (fun h1 => ?_) (fun h1 => ?_)⟩
        · have h1 : (0 + (i : Int)) + 1 < (zs.length : Int) := by
            have := of_decide_eq_true h1
            rwa [List.length_map] at this
          obtain ⟨en, hen⟩ : ∃ en, en = zs[i + 1]? := ⟨_, rfl⟩
          have ae : atI (zs.map Tx) (0 + (i : Int) + 1) = some (oV en) := by
            rw [z0]
            have hl : i + 1 < zs.length := by omega
            have e2 : zs[i + 1]? = some zs[i + 1] := List.getElem?_eq_getElem hl
            rw [hen, e2]
            exact atI_nat (j := i + 1) (by rw [List.getElem?_map, e2]; rfl)
          refine ⟨_, rfl, _, rfl, _, _, rfl, rfl, p, _, _, oV en, rfl, rfl, SqL.of hp2, ae, ?_⟩
          refine ⟨_, rfl, Nat.zero_le _, fun q nq => ?_⟩
          have qF : F ≠ q := ne_of_none hF nq
          have S3 : Stp [] H2 (upd H2 q (.lst [])) := Stp.new nq _
          refine ne_nil_prs (SqL.of (Eq.trans (upd_ne qF) hF)) (rd.stp S3 Lsts.nil) (fun p m => (ok.ok p m).s) upd_same ?_
          have hF3 : (upd H2 q (.lst [])) F = some (.lst vs) := Eq.trans (upd_ne qF) hF
          have hp3 : (upd H2 q (.lst [])) p = some (.lst (zs.map Tx)) := S3.kp _ _ (fun m => nomatch m) hp2
          have rd3 := rd.stp S3 Lsts.nil
          have SS := S.trans S3
          have len2 : (2 : Nat) ≤ sizeLine := by decide
          have lv : vs.length < sizeLine := by
            rw [rd.len, List.length_map]
            exact Nat.lt_of_le_of_lt (show ds.length ≤ 1000 by omega) (by decide)
          refine ⟨_, rfl, ?_⟩
          rcases List.eq_nil_or_concat ds with rfl | ⟨d0, d, rfl⟩
          · refine ite2 (fun h => absurd h (by simp)) (fun _ => ?_)
            refine ite2 (fun h => (nomatch h)) (fun _ => ?_)
            refine ⟨_, rfl, .inl ⟨rfl, _, SqL.of hF3⟩, _, rfl, _, rfl, p, _, _, Tx z, rfl, rfl, SqL.of hp3, az, _, rfl, len2, fun t2 nt2 => ?_⟩
            have nF2 : F ≠ t2 := ne_of_none hF3 nt2
            refine ⟨F, _, _, rfl, rfl, Eq.trans (upd_ne nF2) hF3, lv, ?_⟩
            refine ⟨[] ++ [(z, zs[i + 1]?)], vs ++ [.ref t2], _, _, rfl, upd_same, ?_, grow_new pw sh ok la hz (fun d e => by cases e), by first | (simp; done) | (simp at ld ⊢; omega), LastOk.next hi, Mem.new pw me hz hbt, (SS.new' nt2).mut nF⟩
            have s4 : Stp [F] (upd (upd H2 q (.lst [])) t2 (.tup [Tx z, oV en])) (upd (upd (upd H2 q (.lst [])) t2 (.tup [Tx z, oV en])) F (.lst (vs ++ [.ref t2]))) := Stp.put (by simp)
            refine prs_one ((rd3.stp (Stp.new nt2 _) Lsts.nil).stp s4 (.one (Eq.trans (upd_ne nF2) hF3))) (pr_rp (p := (z, zs[i + 1]?)) (SqT.of ?_) (sh z (List.mem_of_getElem? hz)).2 fun e q => (sh e (List.mem_of_getElem? q)).2)
            rw [upd_ne nF2.symm, upd_same, hen]
          · rw [List.concat_eq_append] at *
            have gl : (d0 ++ [d]).getLast? = some d := by rw [List.getLast?_append, List.getLast?_singleton]; rfl
            have lvs : vs.length = d0.length + 1 := by rw [rd.len, List.length_map, List.length_append]; rfl
            obtain ⟨v, hv0⟩ : ∃ v, vs[d0.length]? = some v := ⟨vs[d0.length]'(by omega), List.getElem?_eq_getElem _⟩
            obtain ⟨d', hd', t, rfl, ht⟩ := prs_get rd3 hv0
            obtain rfl : d = d' := by
              rw [List.getElem?_append_right (Nat.le_refl _), Nat.sub_self] at hd'
              exact Option.some.inj hd'
            have ix : ((vs.length : Nat) : Int) - 1 = ((d0.length : Nat) : Int) := by omega
            have al : atI vs (((vs.length : Nat) : Int) - 1) = some (.ref t) := by
              rw [ix]
              exact atI_nat hv0
            refine ite2 (fun _ => ?_) (fun h => absurd (by simp) h)
            refine ⟨_, rfl, _, rfl, F, _, rfl, .inl (SqL.of hF3), _, _, rfl, rfl, F, _, _, .ref t, rfl, rfl, SqL.of hF3, al, t, _, 1, oV d.2, rfl, rfl, ht, at1, _, rfl, _, rfl, p, _, _, Tx z, rfl, rfl, SqL.of hp3, az, ?_, _, rfl, ite2 (fun h => ?_) (fun h => ?_)⟩
            · cases d.2 <;> rfl
            · have h2 : d.2 = some z := by
                have := of_decide_eq_true h
                cases q : d.2 with
                | none =>
                  rw [q] at this
                  cases this
                | some e =>
                  rw [q] at this
                  exact congrArg some (tx_inj (V.str.inj this))
              refine ⟨_, rfl, _, rfl, F, _, rfl, .inl (SqL.of hF3), _, _, rfl, rfl, F, _, _, .ref t, rfl, rfl, SqL.of hF3, al, t, _, 0, Tx d.1, rfl, rfl, ht, at0, _, rfl, len2, fun t2 nt2 => ?_⟩
              have nF2 : F ≠ t2 := ne_of_none hF3 nt2
              have hF4 : (upd (upd H2 q (.lst [])) t2 (.tup [Tx d.1, oV en])) F = some (.lst vs) := Eq.trans (upd_ne nF2) hF3
              have ixn : ixN vs.length (((vs.length : Nat) : Int) - 1) = some d0.length := by
                rw [ix]
                unfold ixN
                rw [if_pos (by omega), lvs]
                simp
                omega
              refine ⟨_, rfl, _, rfl, F, _, rfl, .inl (SqL.of hF4), _, _, rfl, rfl, F, _, _, d0.length, rfl, rfl, hF4, ixn, ?_⟩
              refine ⟨d0 ++ [(d.1, zs[i + 1]?)], vs.set d0.length (.ref t2), _, _, rfl, upd_same, ?_, grow_old pw sh ok hz h2, by simp at ld ⊢; omega, LastOk.next hi, Mem.old pw me hz hbt h2 ((ok.ok d (by simp)).2 z h2).2, (SS.new' nt2).mut nF⟩
              have s4 : Stp [F] (upd (upd H2 q (.lst [])) t2 (.tup [Tx d.1, oV en])) (upd (upd (upd H2 q (.lst [])) t2 (.tup [Tx d.1, oV en])) F (.lst (vs.set d0.length (.ref t2)))) := Stp.put (by simp)
              have od := ok.ok d (by simp)
              have e5 : ((d0 ++ [(d.1, zs[i + 1]?)]).map prD) = (((d0 ++ [d]).map prD).set d0.length (prD (d.1, zs[i + 1]?))) := by
                rw [List.map_append, List.map_append, List.set_append_right _ _ (by simp)]
                simp
              rw [e5]
              refine rpl_set ((rd3.stp (Stp.new nt2 _) Lsts.nil).stp s4 (.one hF4)) (pr_rp (p := (d.1, zs[i + 1]?)) (SqT.of ?_) od.1.2 fun e q => (sh e (List.mem_of_getElem? q)).2)
              rw [upd_ne nF2.symm, upd_same, hen]
            · refine ⟨_, rfl, .inl ⟨rfl, _, SqL.of hF3⟩, _, rfl, _, rfl, p, _, _, Tx z, rfl, rfl, SqL.of hp3, az, _, rfl, len2, fun t2 nt2 => ?_⟩
              have nF2 : F ≠ t2 := ne_of_none hF3 nt2
              refine ⟨F, _, _, rfl, rfl, Eq.trans (upd_ne nF2) hF3, lv, ?_⟩
              refine ⟨(d0 ++ [d]) ++ [(z, zs[i + 1]?)], vs ++ [.ref t2], _, _, rfl, upd_same, ?_, grow_new pw sh ok la hz (fun d1 e q => by
                rw [gl] at e
                cases e
                exact h (decide_eq_true (by rw [q]; rfl))), by rw [List.length_append]; simp; simp at ld; omega, LastOk.next hi, Mem.new pw me hz hbt, (SS.new' nt2).mut nF⟩
              have s4 : Stp [F] (upd (upd H2 q (.lst [])) t2 (.tup [Tx z, oV en])) (upd (upd (upd H2 q (.lst [])) t2 (.tup [Tx z, oV en])) F (.lst (vs ++ [.ref t2]))) := Stp.put (by simp)
              refine prs_one ((rd3.stp (Stp.new nt2 _) Lsts.nil).stp s4 (.one (Eq.trans (upd_ne nF2) hF3))) (pr_rp (p := (z, zs[i + 1]?)) (SqT.of ?_) (sh z (List.mem_of_getElem? hz)).2 fun e q => (sh e (List.mem_of_getElem? q)).2)
              rw [upd_ne nF2.symm, upd_same, hen]
        · have h1 : ¬ (0 + (i : Int)) + 1 < (zs.length : Int) := fun q => h1 (decide_eq_true (by rw [List.length_map]; exact q))
          obtain ⟨en, hen⟩ : ∃ en, en = zs[i + 1]? := ⟨_, rfl⟩
          have hv : V.non = oV en := by
            rw [hen, List.getElem?_eq_none_iff.mpr (by omega)]
            rfl
          rw [hv]
          refine ⟨_, rfl, Nat.zero_le _, fun q nq => ?_⟩
          have qF : F ≠ q := ne_of_none hF nq
          have S3 : Stp [] H2 (upd H2 q (.lst [])) := Stp.new nq _
          refine ne_nil_prs (SqL.of (Eq.trans (upd_ne qF) hF)) (rd.stp S3 Lsts.nil) (fun p m => (ok.ok p m).s) upd_same ?_
          have hF3 : (upd H2 q (.lst [])) F = some (.lst vs) := Eq.trans (upd_ne qF) hF
          have hp3 : (upd H2 q (.lst [])) p = some (.lst (zs.map Tx)) := S3.kp _ _ (fun m => nomatch m) hp2
          have rd3 := rd.stp S3 Lsts.nil
          have SS := S.trans S3
          have len2 : (2 : Nat) ≤ sizeLine := by decide
          have lv : vs.length < sizeLine := by
            rw [rd.len, List.length_map]
            exact Nat.lt_of_le_of_lt (show ds.length ≤ 1000 by omega) (by decide)
          refine ⟨_, rfl, ?_⟩
          rcases List.eq_nil_or_concat ds with rfl | ⟨d0, d, rfl⟩
          · refine ite2 (fun h => absurd h (by simp)) (fun _ => ?_)
            refine ite2 (fun h => (nomatch h)) (fun _ => ?_)
            refine ⟨_, rfl, .inl ⟨rfl, _, SqL.of hF3⟩, _, rfl, _, rfl, p, _, _, Tx z, rfl, rfl, SqL.of hp3, az, _, rfl, len2, fun t2 nt2 => ?_⟩
            have nF2 : F ≠ t2 := ne_of_none hF3 nt2
            refine ⟨F, _, _, rfl, rfl, Eq.trans (upd_ne nF2) hF3, lv, ?_⟩
            refine ⟨[] ++ [(z, zs[i + 1]?)], vs ++ [.ref t2], _, _, rfl, upd_same, ?_, grow_new pw sh ok la hz (fun d e => by cases e), by first | (simp; done) | (simp at ld ⊢; omega), LastOk.next hi, Mem.new pw me hz hbt, (SS.new' nt2).mut nF⟩
            have s4 : Stp [F] (upd (upd H2 q (.lst [])) t2 (.tup [Tx z, oV en])) (upd (upd (upd H2 q (.lst [])) t2 (.tup [Tx z, oV en])) F (.lst (vs ++ [.ref t2]))) := Stp.put (by simp)
            refine prs_one ((rd3.stp (Stp.new nt2 _) Lsts.nil).stp s4 (.one (Eq.trans (upd_ne nF2) hF3))) (pr_rp (p := (z, zs[i + 1]?)) (SqT.of ?_) (sh z (List.mem_of_getElem? hz)).2 fun e q => (sh e (List.mem_of_getElem? q)).2)
            rw [upd_ne nF2.symm, upd_same, hen]
          · rw [List.concat_eq_append] at *
            have gl : (d0 ++ [d]).getLast? = some d := by rw [List.getLast?_append, List.getLast?_singleton]; rfl
            have lvs : vs.length = d0.length + 1 := by rw [rd.len, List.length_map, List.length_append]; rfl
            obtain ⟨v, hv0⟩ : ∃ v, vs[d0.length]? = some v := ⟨vs[d0.length]'(by omega), List.getElem?_eq_getElem _⟩
            obtain ⟨d', hd', t, rfl, ht⟩ := prs_get rd3 hv0
            obtain rfl : d = d' := by
              rw [List.getElem?_append_right (Nat.le_refl _), Nat.sub_self] at hd'
              exact Option.some.inj hd'
            have ix : ((vs.length : Nat) : Int) - 1 = ((d0.length : Nat) : Int) := by omega
            have al : atI vs (((vs.length : Nat) : Int) - 1) = some (.ref t) := by
              rw [ix]
              exact atI_nat hv0
            refine ite2 (fun _ => ?_) (fun h => absurd (by simp) h)
            refine ⟨_, rfl, _, rfl, F, _, rfl, .inl (SqL.of hF3), _, _, rfl, rfl, F, _, _, .ref t, rfl, rfl, SqL.of hF3, al, t, _, 1, oV d.2, rfl, rfl, ht, at1, _, rfl, _, rfl, p, _, _, Tx z, rfl, rfl, SqL.of hp3, az, ?_, _, rfl, ite2 (fun h => ?_) (fun h => ?_)⟩
            · cases d.2 <;> rfl
            · have h2 : d.2 = some z := by
                have := of_decide_eq_true h
                cases q : d.2 with
                | none =>
                  rw [q] at this
                  cases this
                | some e =>
                  rw [q] at this
                  exact congrArg some (tx_inj (V.str.inj this))
              refine ⟨_, rfl, _, rfl, F, _, rfl, .inl (SqL.of hF3), _, _, rfl, rfl, F, _, _, .ref t, rfl, rfl, SqL.of hF3, al, t, _, 0, Tx d.1, rfl, rfl, ht, at0, _, rfl, len2, fun t2 nt2 => ?_⟩
              have nF2 : F ≠ t2 := ne_of_none hF3 nt2
              have hF4 : (upd (upd H2 q (.lst [])) t2 (.tup [Tx d.1, oV en])) F = some (.lst vs) := Eq.trans (upd_ne nF2) hF3
              have ixn : ixN vs.length (((vs.length : Nat) : Int) - 1) = some d0.length := by
                rw [ix]
                unfold ixN
                rw [if_pos (by omega), lvs]
                simp
                omega
              refine ⟨_, rfl, _, rfl, F, _, rfl, .inl (SqL.of hF4), _, _, rfl, rfl, F, _, _, d0.length, rfl, rfl, hF4, ixn, ?_⟩
              refine ⟨d0 ++ [(d.1, zs[i + 1]?)], vs.set d0.length (.ref t2), _, _, rfl, upd_same, ?_, grow_old pw sh ok hz h2, by simp at ld ⊢; omega, LastOk.next hi, Mem.old pw me hz hbt h2 ((ok.ok d (by simp)).2 z h2).2, (SS.new' nt2).mut nF⟩
              have s4 : Stp [F] (upd (upd H2 q (.lst [])) t2 (.tup [Tx d.1, oV en])) (upd (upd (upd H2 q (.lst [])) t2 (.tup [Tx d.1, oV en])) F (.lst (vs.set d0.length (.ref t2)))) := Stp.put (by simp)
              have od := ok.ok d (by simp)
              have e5 : ((d0 ++ [(d.1, zs[i + 1]?)]).map prD) = (((d0 ++ [d]).map prD).set d0.length (prD (d.1, zs[i + 1]?))) := by
                rw [List.map_append, List.map_append, List.set_append_right _ _ (by simp)]
                simp
              rw [e5]
              refine rpl_set ((rd3.stp (Stp.new nt2 _) Lsts.nil).stp s4 (.one hF4)) (pr_rp (p := (d.1, zs[i + 1]?)) (SqT.of ?_) od.1.2 fun e q => (sh e (List.mem_of_getElem? q)).2)
              rw [upd_ne nF2.symm, upd_same, hen]
            · refine ⟨_, rfl, .inl ⟨rfl, _, SqL.of hF3⟩, _, rfl, _, rfl, p, _, _, Tx z, rfl, rfl, SqL.of hp3, az, _, rfl, len2, fun t2 nt2 => ?_⟩
              have nF2 : F ≠ t2 := ne_of_none hF3 nt2
              refine ⟨F, _, _, rfl, rfl, Eq.trans (upd_ne nF2) hF3, lv, ?_⟩
              refine ⟨(d0 ++ [d]) ++ [(z, zs[i + 1]?)], vs ++ [.ref t2], _, _, rfl, upd_same, ?_, grow_new pw sh ok la hz (fun d1 e q => by
                rw [gl] at e
                cases e
                exact h (decide_eq_true (by rw [q]; rfl))), by rw [List.length_append]; simp; simp at ld; omega, LastOk.next hi, Mem.new pw me hz hbt, (SS.new' nt2).mut nF⟩
              have s4 : Stp [F] (upd (upd H2 q (.lst [])) t2 (.tup [Tx z, oV en])) (upd (upd (upd H2 q (.lst [])) t2 (.tup [Tx z, oV en])) F (.lst (vs ++ [.ref t2]))) := Stp.put (by simp)
              refine prs_one ((rd3.stp (Stp.new nt2 _) Lsts.nil).stp s4 (.one (Eq.trans (upd_ne nF2) hF3))) (pr_rp (p := (z, zs[i + 1]?)) (SqT.of ?_) (sh z (List.mem_of_getElem? hz)).2 fun e q => (sh e (List.mem_of_getElem? q)).2)
              rw [upd_ne nF2.symm, upd_same, hen]
      · exact ⟨ds, vs, _, _, rfl, hF, rd, ok, by omega, la.skip hi, me.skip pw hz (by rw [hb, Bool.eq_false_iff.mpr h]), S⟩
    · rintro σ H2 ⟨ds, vs, x3, x4, rfl, hF, rd, ok, ld, la, me, S⟩
      refine ⟨_, rfl, F, _, rfl, .inl ⟨SqL.of hF, fun b nb => ?_⟩⟩
      exact k b ds _ (S.new' nb) ⟨⟨vs, SqT.of upd_same, rd.stp (Stp.new nb _) Lsts.nil⟩, ok, by omega⟩ (by omega) me
abbrev s__law_due : Stmt := topS 19
abbrev N__law_due : List Str := ["pairs", "points", "word"]
theorem sc__law_due : FnScope ["pairs", "points", "word"] ["pairs"] (defScope s__law_due) := ⟨rfl, rfl, rfl, by decide +kernel, rfl, by decide +kernel, by decide +kernel⟩


/-! ### _law_due, _law_past -/

theorem cell_at : ∀ (zs : List Txt) (w : Txt), (∃ z, zs.head? = some z ∧ z ≤ w) → ∃ j z, zs[j]? = some z ∧ z ≤ w ∧ ∀ z', zs[j + 1]? = some z' → w < z'
  | [], _, ⟨z, e, _⟩ => by cases e
  | [z], w, ⟨z0, e, l⟩ => by
    cases e
    exact ⟨0, z, rfl, l, fun z' q => by cases q⟩
  | z :: z2 :: zs, w, ⟨z0, e, l⟩ => by
    cases e
    by_cases c : w < z2
    · exact ⟨0, z, rfl, l, fun z' q => by cases q; exact c⟩
    · obtain ⟨j, x, h1, h2, h3⟩ := cell_at (z2 :: zs) w ⟨z2, rfl, le_of_nlt c⟩
      exact ⟨j + 1, x, h1, h2, h3⟩
theorem pts_cell {ps : List Pr} {zs : List Txt} (pw : zs.Pairwise (· < ·)) (po : PtsOf ps zs) (w : Txt) : ∃ j z, zs[j]? = some z ∧ z ≤ w ∧ ∀ z', zs[j + 1]? = some z' → w < z' := by
  refine cell_at zs w ?_
  have m : ([] : Txt) ∈ zs := (po []).mpr (.inl rfl)
  cases zs with
  | nil => cases m
  | cons z zs =>
    refine ⟨z, rfl, ?_⟩
    rcases List.mem_cons.mp m with rfl | m
    · exact nil_le _
    · exact absurd ((List.pairwise_cons.mp pw).1 [] m) (by intro h; cases h)
theorem pts_gap {zs : List Txt} (pw : zs.Pairwise (· < ·)) {j : Nat} {z w x : Txt} (hz : zs[j]? = some z) (nx : ∀ z', zs[j + 1]? = some z' → w < z') (m : x ∈ zs) (l : x ≤ w) : x ≤ z := by
  obtain ⟨i, hi, e⟩ := List.mem_iff_getElem.mp m
  have e' : zs[i]? = some x := by rw [List.getElem?_eq_getElem hi, e]
  rcases Nat.lt_trichotomy i j with c | c | c
  · exact lt_le' (asc pw c e' hz)
  · subst c
    rw [hz] at e'
    cases e'
    exact le_self _
  · have hl : j + 1 < zs.length := by omega
    have a := nx _ (List.getElem?_eq_getElem hl)
    rcases Nat.lt_or_eq_of_le (Nat.succ_le_of_lt c) with q | q
    · exact absurd (lt_le (List.lt_trans a (asc pw q (List.getElem?_eq_getElem hl) e')) l) (List.lt_irrefl _)
    · have q : j + 1 = i := q
      subst q
      rw [List.getElem?_eq_getElem hl] at e'
      cases e'
      exact absurd (lt_le a l) (List.lt_irrefl _)
theorem in_cell {ps : List Pr} {zs : List Txt} (pw : zs.Pairwise (· < ·)) (sub : ∀ z, (∃ p ∈ ps, p.1 = z) ∨ (∃ p ∈ ps, p.2 = some z) → z ∈ zs) {j : Nat} {z w : Txt} (hz : zs[j]? = some z) (l : z ≤ w) (nx : ∀ z', zs[j + 1]? = some z' → w < z') : inS ps w = inS ps z := by
  have one : ∀ p ∈ ps, inP w p = inP z p := fun p m => by
    rw [Bool.eq_iff_iff, inP_iff, inP_iff]
    constructor
    · exact fun h => ⟨pts_gap pw hz nx (sub _ (.inl ⟨p, m, rfl⟩)) h.1, fun e he => le_lt l (h.2 e he)⟩
    · refine fun h => ⟨List.le_trans h.1 l, fun e he => ?_⟩
      by_cases c : w < e
      · exact c
      · exact absurd (lt_le (h.2 e he) (pts_gap pw hz nx (sub _ (.inr ⟨p, m, he⟩)) (le_of_nlt c))) (List.lt_irrefl _)
  unfold inS
  rw [Bool.eq_iff_iff, List.any_eq_true, List.any_eq_true]
  constructor
  · rintro ⟨p, m, h⟩
    exact ⟨p, m, by rw [← one p m]; exact h⟩
  · rintro ⟨p, m, h⟩
    exact ⟨p, m, by rw [one p m]; exact h⟩
theorem due_mem {ps ds : List Pr} {zs : List Txt} {bs : List Bool} {f : Bool → Bool} (pw : zs.Pairwise (· < ·)) (po : PtsOf ps zs) (hb : ∀ (j : Nat) z, zs[j]? = some z → bs[j]? = some (f (inS ps z))) (me : Mem zs bs zs.length ds) (w : Txt) : inS ds w = f (inS ps w) := by
  obtain ⟨j, z, h1, h2, h3⟩ := pts_cell pw po w
  rw [me.yes j z _ w (List.getElem?_eq_some_iff.mp h1).1 h1 (hb j z h1) h2 h3, in_cell pw (fun x h => (po x).mpr (.inr h)) h1 h2 h3]
def spDue (K : PySem.W.Frag) : Sp := fun vs H Q _ => ∃ (a : Addr) (xs : List V) (ps : List Pr), vs = [.ref a] ∧ H a = some (.lst xs) ∧ RpL K H xs (ps.map prD) ∧ (∀ p ∈ ps, PrS p) ∧ ps.length ≤ 200 ∧
  ∀ b ps' H', Stp [] H H' → Spn K H' b ps' → (∀ w, inS ps' w = inS ps w) → Q (.ref b) H'
theorem cl__law_due {f : Addr} {fd : FuncData} (D : Df K mg "_law_due" s__law_due ["pairs"] f fd) (T : Nm mg) (c__law_points : Cl P w K mg base 1 "_law_points" s__law_points ["pairs"] (spPoints K))
    (c__law_in : Cl P w K mg base 1 "_law_in" s__law_in ["pairs", "word"] (spInL K)) (c__law_pieces : Cl P w K mg base 1 "_law_pieces" s__law_pieces ["points", "marks"] (spPieces K)) : Cl P w K mg base 2 "_law_due" s__law_due ["pairs"] (spDue K) := by
  refine D.cl sc__law_due (fun vs H Q E h => ?_) (fun cdv A outer s H vs Q E hr h => ?_)
  · obtain ⟨a, xs, ps, rfl, _⟩ := h
    rfl
  · obtain ⟨a, xs, ps, rfl, hs, rl, ok, few, k⟩ := h
    refine ⟨_, (pss_cons (ps_set (i := 1) sc__law_due.nd rfl (by first | exact Or.inl rfl | exact Or.inr rfl) (pe_cl c__law_points hr (by omega) (pa_cons (pv 0) pa_nil)))
      (pss_one (ps_ret (pe_cl c__law_pieces hr (by omega) (pa_cons (pv 1) (pa_cons (pe_lc (own := [("word", 2)]) rfl sc__law_due.nd (pi_list (pv 1)) (blkOk_by (own := [("word", 2)]) (N := N__law_due) (sc := defScope s__law_due) (by decide +kernel)) (fun _ _ _ _ _ => (pg_name (i := 2) sc__law_due.nd rfl (by first | exact Or.inl rfl | exact Or.inr rfl))) (fun _ _ _ _ _ => pts_nil) (fun _ _ _ _ _ => (pe_cl c__law_in hr (by omega) (pa_cons (pv 0) (pa_cons (pv 2) pa_nil))))) pa_nil)))))), ?_⟩
    refine ⟨_, rfl, a, xs, ps, rfl, hs, rl, ok, few, fun zs b H1 S1 hb pw sh l41 po => ?_⟩
    have hs1 := S1.kp _ _ (fun m => nomatch m) hs
    have rl1 := rl.stp S1 Lsts.nil
    refine ⟨_, rfl, _, rfl, b, rfl, ⟨_, SqL.of hb⟩, fun L nL => ?_⟩
    refine lc_list (a := b) (xs := zs.map Tx) (fun i H2 => ∃ bs : List Bool, bs.length = i ∧ (∀ j z, j < i → zs[j]? = some z → bs[j]? = some (inS ps z)) ∧ H2 L = some (.lst (bs.map V.bl)) ∧ Stp [] H1 H2)
      ⟨[], rfl, fun _ _ h => absurd h (Nat.not_lt_zero _), upd_same, Stp.new nL _⟩ (fun i H2 _ ⟨bs, _, _, _, S⟩ => SqL.of (S.kp _ _ (fun m => nomatch m) hb)) ?_ ?_
    · rintro i x H2 hi ⟨bs, hl, hb', hL, S⟩
      obtain ⟨z, rfl⟩ : ∃ z, x = Tx z := by
        rw [List.getElem?_map] at hi
        cases e : zs[i]? with
        | none =>
          rw [e] at hi
          cases hi
        | some u =>
          rw [e] at hi
          exact ⟨u, (Option.some.inj hi).symm⟩
      refine ⟨rfl, _, rfl, _, rfl, a, xs, ps, z, rfl, S.kp _ _ (fun m => nomatch m) hs1, rl1.stp S Lsts.nil, ok, by omega, fun H3 S3 => ?_⟩
      refine ⟨bs.map V.bl, S3.kp _ _ (fun m => nomatch m) hL, ?_, bs ++ [inS ps z], by simp [hl], fun j z' hj hz' => ?_, ?_, (S.trans S3).mut nL⟩
      · have h1 := (List.getElem?_eq_some_iff.mp hi).1
        rw [List.length_map] at h1 ⊢
        rw [hl]
        exact Nat.lt_of_lt_of_le (show i < 100000 by omega) (by decide)
      · rcases Nat.lt_or_eq_of_le (Nat.lt_succ_iff.mp hj) with q | rfl
        · rw [List.getElem?_append_left (by omega)]
          exact hb' j z' q hz'
        · rw [List.getElem?_append_right (by omega), hl, Nat.sub_self]
          rw [List.getElem?_map, hz'] at hi
          cases hi
          rfl
      · rw [List.map_append]
        exact upd_same
    · rintro H2 ⟨bs, hl, hb', hL, S⟩
      rw [List.length_map] at hl
      refine ⟨b, L, zs, bs, rfl, S.kp _ _ (fun m => nomatch m) hb, hL, hl, pw, sh, l41, fun c ps' H3 S3 sp l me => k c ps' H3 ((S1.trans S).trans S3) sp fun w => ?_⟩
      exact due_mem (f := fun b => b) pw po (fun j z hz => hb' j z (by rw [List.length_map]; exact (List.getElem?_eq_some_iff.mp hz).1) hz) me w
/-- without its last c's -/
def spPast : Sp := fun vs H Q _ => ∃ l : Txt, vs = [Tx l] ∧ Short l ∧ ∀ o : Option Txt, (∀ e, o = some e → Short e ∧ l < e) → Q (oV o) H
theorem Short.init {l : Txt} (h : Short l) : Short l.dropLast := ⟨h.1.init, by rw [List.length_dropLast]; have := h.2; omega⟩
theorem lt_pre : ∀ (m t x : Txt) (a b : Nat), a < b → m ++ a :: t < m ++ b :: x
  | [], _, _, _, _, h => List.cons_lt_cons_iff.mpr (.inl h)
  | c :: m, t, x, a, b, h => List.cons_lt_cons_iff.mpr (.inr ⟨rfl, lt_pre m t x a b h⟩)
theorem lt_snoc : ∀ (a : Txt) (c : Nat), a < a ++ [c]
  | [], c => List.nil_lt_cons _ _
  | a :: as, c => List.cons_lt_cons_iff.mpr (.inr ⟨rfl, lt_snoc as c⟩)
theorem lt_apps : ∀ (a : Txt) (t : Txt), t ≠ [] → a < a ++ t
  | [], [], h => absurd rfl h
  | [], c :: t, _ => List.nil_lt_cons _ _
  | a :: as, t, h => List.cons_lt_cons_iff.mpr (.inr ⟨rfl, lt_apps as t h⟩)
theorem cl__law_past {f : Addr} {fd : FuncData} (D : Df K mg "_law_past" s__law_past ["word"] f fd) (T : Nm mg) : Cl P w K mg base 1 "_law_past" s__law_past ["word"] spPast := by
  refine D.cl sc__law_past (fun vs H Q E h => ?_) (fun cdv A outer s H vs Q E hr h => ?_)
  · obtain ⟨l, rfl, _⟩ := h
    rfl
  · obtain ⟨l, rfl, sl, k⟩ := h
    refine ⟨_, (pss_cons (ps_while PassesOwn.never (pt_cmpR op_eq (pe_slice sl_str (pv 0) (po_some (pe_un un_neg pe_int)) po_none) pe_str (by first | exact nomark _ | rfl)) (pss_one (ps_set (i := 0) sc__law_past.nd rfl (by first | exact Or.inl rfl | exact Or.inr rfl) (pe_slice sl_str (pv 0) po_none (po_some (pe_un un_neg pe_int))))))
      (pss_cons (ps_if (pt_cmpR op_eq (pv 0) pe_str (by first | exact nomark _ | rfl)) (pss_one (ps_ret pe_non)) pss_nil)
      (pss_one (ps_ret (pe_op op_add_str (pe_slice sl_str (pv 0) po_none (po_some (pe_un un_neg pe_int))) (pe_ifExp (pt_cmpR op_eq (pe_slice sl_str (pv 0) (po_some (pe_un un_neg pe_int)) po_none) pe_str (by first | exact nomark _ | rfl)) pe_str pe_str)))))), ?_⟩
    refine while_by (fun σ H1 => ∃ m t : Txt, σ = [some (Tx m)] ∧ Short m ∧ l = m ++ t ∧ H1 = H) (fun σ _ => match σ with | [some (.str x)] => x.length | _ => 0) ⟨l, [], rfl, sl, (List.append_nil l).symm, rfl⟩ ?_ ?_
    · rintro σ H1 ⟨m, t, rfl, sm, lmt, rfl⟩
      refine ⟨_, rfl, 1, rfl, -1, rfl, tx m, rfl, szt (by have := sm.2; omega), ?_⟩
      rw [show cutS (tx m) (some (-1)) none = _ from tx_last m]
      refine ⟨rfl, _, rfl, ite2 (fun h => ?_) (fun h => ?_)⟩
      · have hd : tx (m.drop (m.length - 1)) = "c" := V.str.inj (of_decide_eq_true h)
        have pos : 0 < m.length := by
          rcases Nat.eq_zero_or_pos m.length with q | q
          · rw [List.length_eq_zero_iff.mp q] at hd
            exact absurd hd (by decide +kernel)
          · exact q
        refine ⟨_, rfl, 1, rfl, -1, rfl, tx m, rfl, szt (by have := sm.2; omega), ?_⟩
        rw [show cutS (tx m) none (some (-1)) = _ from tx_init m]
        obtain ⟨c, dl⟩ : ∃ c, m = m.dropLast ++ [c] := ⟨_, (List.dropLast_concat_getLast (List.ne_nil_of_length_pos pos)).symm⟩
        have lmt2 : l = m.dropLast ++ c :: t := by
          rw [lmt]
          conv => lhs; rw [dl]
          simp
        refine ⟨⟨m.dropLast, c :: t, rfl, sm.init, lmt2, rfl⟩, ?_⟩
        show (tx m.dropLast).length < (tx m).length
        rw [tx_len, tx_len, List.length_dropLast]
        omega
      · refine ⟨_, rfl, rfl, _, rfl, ite2 (fun h1 => ?_) (fun h1 => ?_)⟩
        · exact k none fun e q => (by cases q)
        · have ne : m ≠ [] := fun e => h1 (by rw [e]; exact decide_eq_true (congrArg V.str nil_lit.symm))
          have dl : m = m.dropLast ++ [m.getLast ne] := (List.dropLast_concat_getLast _).symm
          have lastd : m.drop (m.length - 1) = [m.getLast ne] := by
            have pos := List.length_pos_iff.mpr ne
            conv => lhs; rw [dl]
            rw [List.length_append, List.length_singleton, Nat.add_sub_cancel, List.drop_left]
          have fin : ∀ c : Nat, c = 98 ∨ c = 99 → m.getLast ne < c → (tx m.dropLast).length + (tx [c]).length ≤ sizeLine ∧ Q (.str (tx m.dropLast ++ tx [c])) H1 := fun c hc lt => by
            have hc' : c = 97 ∨ c = 98 ∨ c = 99 := .inr hc
            refine ⟨?_, ?_⟩
            · rw [tx_len, tx_len, List.length_dropLast]
              have := sm.2
              exact sz (by simp; omega)
            · rw [tx_app]
              refine k (some (m.dropLast ++ [c])) fun e q => ?_
              cases q
              have pos := List.length_pos_iff.mpr ne
              have := sm.2
              refine ⟨⟨sm.1.init.app (Abc.one hc'), by rw [List.length_append, List.length_dropLast, List.length_singleton]; omega⟩, ?_⟩
              have lmt2 : l = m.dropLast ++ m.getLast ne :: t := by
                rw [lmt]
                conv => lhs; rw [dl]
                simp
              rw [lmt2]
              exact lt_pre _ _ _ _ _ lt
          have gl : m.getLast ne = 97 ∨ m.getLast ne = 98 ∨ m.getLast ne = 99 := sm.1 _ (List.getLast_mem ne)
          refine ⟨_, rfl, 1, rfl, -1, rfl, tx m, rfl, szt (by have := sm.2; omega), ?_⟩
          rw [show cutS (tx m) none (some (-1)) = _ from tx_init m]
          refine ⟨_, rfl, 1, rfl, -1, rfl, tx m, rfl, szt (by have := sm.2; omega), ?_⟩
          rw [show cutS (tx m) (some (-1)) none = _ from tx_last m]
          refine ⟨rfl, _, rfl, ite2 (fun h2 => ?_) (fun h2 => ?_)⟩
          · have h2 : tx (m.drop (m.length - 1)) = "a" := V.str.inj (of_decide_eq_true h2)
            rw [lastd, show ("a" : Str) = tx [97] by decide +kernel] at h2
            have := List.cons.inj (tx_inj h2)
            obtain ⟨f1, f2⟩ := fin 98 (.inl rfl) (by omega)
            exact ⟨tx m.dropLast, tx [98], rfl, congrArg V.str (by decide +kernel), f1, f2⟩
          · have nc : m.getLast ne ≠ 99 := fun e => h (by rw [lastd, e]; exact decide_eq_true (congrArg V.str (by decide +kernel)))
            obtain ⟨f1, f2⟩ := fin 99 (.inr rfl) (by omega)
            exact ⟨tx m.dropLast, tx [99], rfl, congrArg V.str (by decide +kernel), f1, f2⟩
    · rintro σ H Q Q' h ⟨v, e1, i, e2, j, e3, x, e4, z, s1, b, e5, q⟩
      exact ⟨v, e1, i, e2, j, e3, x, e4, z, s1, b, e5, h _ _ q⟩
abbrev s__law_pair : Stmt := topS 15
abbrev N__law_pair : List Str := ["bag", "pool", "first", "way", "end"]
theorem sc__law_pair : FnScope ["bag", "pool", "first", "way", "end"] ["bag", "pool"] (defScope s__law_pair) := ⟨rfl, rfl, rfl, by decide +kernel, rfl, by decide +kernel, by decide +kernel⟩

/-! ### _law_pair -/
theorem lt_of_le_ne {a b : Txt} (h : a ≤ b) (n : a ≠ b) : a < b := by
  by_cases c : a < b
  · exact c
  · exact absurd (List.le_antisymm h (le_of_nlt c)) n
theorem seq_end {t u : TS} {D : Ends} {σ : L2.St} {H : Hp} (I : L2.St → Hp → Prop) (fin : ∀ σ' H', I σ' H' → u D σ' H') (h : (∀ σ' H', I σ' H' → u D σ' H') → t { D with nx := u D } σ H) : tSeq t u D σ H := h fin
def Mid (b p : Addr) (way : Int) (n : Nat) (H0 : Hp) (σ : L2.St) (H : Hp) : Prop := ∃ (g : Txt) (e : Option Txt), σ = [some (.ref b), some (.ref p), some (Tx g), some (.int way), some (oV e)] ∧ Short g ∧ (∀ e', e = some e' → Short e' ∧ g < e') ∧ Stp [b] H0 H ∧ Bag H b n
def spPair (K : PySem.W.Frag) : Sp := fun vs H Q _ => ∃ (b p : Addr) (n : Nat) (ls : List (List Nat)), vs = [.ref b, .ref p] ∧ Bag H b n ∧ n + 200 < 2 ^ 30 ∧ Pool H p ls ∧ ls.length < 2 ^ 19 ∧ b ≠ p ∧
  ∀ t pr ls' H', Rp K H' (.ref t) (prD pr) → PrOk pr → Stp [b, p] H H' → Bag H' b (n + 60) → Pool H' p ls' → ls'.length ≤ ls.length + 2 → Q (.ref t) H'
theorem cl__law_pair {f : Addr} {fd : FuncData} (D : Df K mg "_law_pair" s__law_pair ["bag", "pool"] f fd) (T : Nm mg) (c__law_draw : Cl P w K mg base 1 "_law_draw" s__law_draw ["bag", "upto"] spDraw)
    (c__law_some : Cl P w K mg base 3 "_law_some" s__law_some ["bag", "pool"] spSome) (c__law_past : Cl P w K mg base 1 "_law_past" s__law_past ["word"] spPast) : Cl P w K mg base 4 "_law_pair" s__law_pair ["bag", "pool"] (spPair K) := by
  refine D.cl sc__law_pair (fun vs H Q E h => ?_) (fun cdv A outer s H vs Q E hr h => ?_)
  · obtain ⟨b, p, n, ls, rfl, _⟩ := h
    rfl
  · obtain ⟨b, p, n, ls, rfl, B, hn, pl, hls, ne, k⟩ := h
    refine ⟨_, (pss_cons (ps_set (i := 2) sc__law_pair.nd rfl (by first | exact Or.inl rfl | exact Or.inr rfl) (pe_cl c__law_some hr (by omega) (pa_cons (pv 0) (pa_cons (pv 1) pa_nil))))
      (pss_cons (ps_par (i := 3) (j := 4) rfl sc__law_pair.nd rfl rfl (by decide) rfl rfl (pa_cons (pe_cl c__law_draw hr (by omega) (pa_cons (pv 0) (pa_cons pe_int pa_nil))) (pa_cons pe_non pa_nil)) (by rfl))
      (pss_cons (ps_if (pt_cmpR op_eq (pv 3) pe_int (by first | exact nomark _ | rfl)) (pss_cons (ps_set (i := 2) sc__law_pair.nd rfl (by first | exact Or.inl rfl | exact Or.inr rfl) (pe_slice sl_str (pv 2) po_none (po_some pe_int)))
      (pss_one (ps_set (i := 4) sc__law_pair.nd rfl (by first | exact Or.inl rfl | exact Or.inr rfl) (pe_op op_add_str (pv 2) (pe_op Pg.op_mul_str pe_str (pe_op op_add pe_int (pe_cl c__law_draw hr (by omega) (pa_cons (pv 0) (pa_cons (pe_op op_sub pe_int (pe_callB call_len_str (by rfl) T.n_len (by decide +kernel) (pa_cons (pv 2) pa_nil))) pa_nil))))))))) pss_nil)
      (pss_cons (ps_if (pt_cmpR op_eq (pv 3) pe_int (by first | exact nomark _ | rfl)) (pss_one (ps_set (i := 4) sc__law_pair.nd rfl (by first | exact Or.inl rfl | exact Or.inr rfl) (pe_cl c__law_past hr (by omega) (pa_cons (pv 2) pa_nil)))) pss_nil)
      (pss_cons (ps_if (pt_cmpR op_gt (pv 3) pe_int (by first | exact nomark _ | rfl)) (pss_cons (ps_set (i := 4) sc__law_pair.nd rfl (by first | exact Or.inl rfl | exact Or.inr rfl) (pe_cl c__law_some hr (by omega) (pa_cons (pv 0) (pa_cons (pv 1) pa_nil))))
      (pss_cons (ps_if (pt_cmpR op_lt_str (pv 4) (pv 2) (by first | exact nomark _ | rfl)) (pss_one (ps_par (i := 2) (j := 4) rfl sc__law_pair.nd rfl rfl (by decide) rfl rfl (pa_cons (pv 4) (pa_cons (pv 2) pa_nil)) (by rfl))) pss_nil)
      (pss_one (ps_if (pt_cmpR op_eq (pv 4) (pv 2) (by first | exact nomark _ | rfl)) (pss_cons (ps_set (i := 2) sc__law_pair.nd rfl (by first | exact Or.inl rfl | exact Or.inr rfl) (pe_slice sl_str (pv 2) po_none (po_some pe_int)))
      (pss_one (ps_set (i := 4) sc__law_pair.nd rfl (by first | exact Or.inl rfl | exact Or.inr rfl) (pe_op op_add_str (pv 2) pe_str)))) pss_nil)))) pss_nil)
      (pss_cons (ps_expr (pe_bm PySem.F.plainAttrs_list PySem.F.slot_list_append PySem.F.type_list_append mt_append (pv 1) (pa_cons (pv 2) pa_nil)))
      (pss_cons (ps_if (pt_cmpR op_notN (pv 4) pe_non (by first | exact nomark _ | rfl)) (pss_one (ps_expr (pe_bm PySem.F.plainAttrs_list PySem.F.slot_list_append PySem.F.type_list_append mt_append (pv 1) (pa_cons (pv 4) pa_nil)))) pss_nil)
      (pss_one (ps_ret (pe_tup (pa_cons (pv 2) (pa_cons (pv 4) pa_nil)))))))))))), ?_⟩
    have one : b ∈ [b] := List.mem_singleton.mpr rfl
    have npb : p ∉ [b] := fun m => ne (List.mem_singleton.mp m).symm
    have plS : ∀ {H1}, Stp [b] H H1 → Pool H1 p ls := fun S => ⟨S.kp _ _ npb pl.1, pl.2⟩
    refine ⟨_, rfl, _, rfl, b, p, n, ls, rfl, B, by omega, pl, by omega, ne, fun g H1 ag lg S1 B1 => ?_⟩
    refine ⟨_, rfl, b, 6, n + 20, rfl, B1, by omega, by decide, by decide, fun way H2 w0 w1 o2 B2 => ?_⟩
    have S2 : Stp [b] H H2 := S1.trans (o2.stp one)
    refine ⟨_, _, rfl, ?_⟩
    dsimp only
    refine seq_end (Mid b p way (n + 22) H) ?_ (fun fin => ?_)
    rotate_left
    · refine ⟨_, rfl, rfl, _, rfl, ite2 (fun h => ?_) (fun h => ?_)⟩
      · refine ⟨_, rfl, 11, rfl, tx g, rfl, szt (by omega), ?_⟩
        rw [show cutS (tx g) none (some 11) = _ from tx_upto g 11]
        have lt : (g.take 11).length ≤ 11 := by rw [List.length_take]; omega
        obtain ⟨g', eg⟩ : ∃ g', g' = g.take 11 := ⟨_, rfl⟩
        rw [← eg] at lt ⊢
        have ag' : Abc g' := by rw [eg]; exact ag.take _
        refine ⟨_, rfl, _, rfl, _, rfl, tx g', rfl, szt (by omega), _, _, rfl, rfl, b, _, n + 21, rfl, B2, by omega, ?_, ?_, fun d H3 d0 d1 o3 B3 => ?_⟩
        · rw [tx_len]
          omega
        · rw [tx_len]
          omega
        rw [tx_len] at d1
        refine ⟨_, _, rfl, rfl, tx [97], 1 + d, congrArg V.str a_lit, rfl, mulOk 97 (by omega) (by omega), ?_⟩
        refine ⟨tx g', tx (List.replicate (1 + d).toNat 97), rfl, congrArg V.str (tx_mul _ _), (by rw [tx_len, tx_len, List.length_replicate]; exact sz (by omega)), ?_⟩
        rw [tx_app]
        refine fin _ _ ⟨g', some (g' ++ List.replicate (1 + d).toNat 97), rfl, ⟨ag', by omega⟩, fun e q => ?_, S2.trans (o3.stp one), B3⟩
        cases q
        exact ⟨⟨ag'.app (Abc.rep _ (.inl rfl)), by rw [List.length_append, List.length_replicate]; omega⟩, lt_apps _ _ (by intro q; have := congrArg List.length q; rw [List.length_replicate] at this; simp at this; omega)⟩
      · exact fin _ _ ⟨g, none, rfl, ⟨ag, lg⟩, fun e q => (by cases q), S2, B2.mono (by omega)⟩
    rintro σ H3 ⟨g3, e3, rfl, s3, se3, S3, B3⟩
    refine seq_end (Mid b p way (n + 22) H) ?_ (fun fin => ?_)
    rotate_left
    · refine ⟨_, rfl, rfl, _, rfl, ite2 (fun h => ?_) (fun h => ?_)⟩
      · exact ⟨_, rfl, g3, rfl, s3, fun o ho => fin _ _ ⟨g3, o, rfl, s3, ho, S3, B3⟩⟩
      · exact fin _ _ ⟨g3, e3, rfl, s3, se3, S3, B3⟩
    rintro σ H4 ⟨g4, e4, rfl, s4, se4, S4, B4⟩
    refine seq_end (Mid b p way (n + 50) H) ?_ (fun fin => ?_)
    rotate_left
    · refine ⟨_, rfl, _, _, rfl, rfl, _, rfl, ite2 (fun h => ?_) (fun h => ?_)⟩
      · refine ⟨_, rfl, _, rfl, b, p, n + 22, ls, rfl, B4, by omega, plS S4, by omega, ne, fun g5 H5 a5 l5 S5 B5 => ?_⟩
        have S45 := S4.trans S5
        dsimp only [gName]
        refine seq_end (fun σ H' => ∃ x y : Txt, σ = [some (.ref b), some (.ref p), some (Tx x), some (.int way), some (Tx y)] ∧ Short x ∧ Short y ∧ x ≤ y ∧ H' = H5) ?_ (fun fin2 => ?_)
        rotate_left
        · refine ⟨_, rfl, _, rfl, tx g5, tx g4, rfl, rfl, _, rfl, ite2 (fun h => ?_) (fun h => ?_)⟩
          · exact ⟨_, rfl, _, rfl, _, _, rfl, fin2 _ _ ⟨g5, g4, rfl, ⟨a5, l5⟩, s4, lt_le' (of_decide_eq_true h), rfl⟩⟩
          · exact fin2 _ _ ⟨g4, g5, rfl, s4, ⟨a5, l5⟩, le_of_nlt fun q => h (decide_eq_true q), rfl⟩
        rintro σ H' ⟨x, y, rfl, sx, sy, xy, rfl⟩
        refine ⟨_, rfl, _, rfl, rfl, _, rfl, ite2 (fun h => ?_) (fun h => ?_)⟩
        · refine ⟨_, rfl, 11, rfl, tx x, rfl, szt (by have := sx.2; omega), ?_⟩
          rw [show cutS (tx x) none (some 11) = _ from tx_upto x 11]
          have lt : (x.take 11).length ≤ 11 := by rw [List.length_take]; omega
          obtain ⟨g', eg⟩ : ∃ g', g' = x.take 11 := ⟨_, rfl⟩
          rw [← eg] at lt ⊢
          have ag' : Abc g' := by rw [eg]; exact sx.1.take _
          refine ⟨_, rfl, tx g', tx [97], rfl, congrArg V.str a_lit, (by rw [tx_len, tx_len]; exact sz (by simp; omega)), ?_⟩
          rw [tx_app]
          refine fin _ _ ⟨g', some (g' ++ [97]), rfl, ⟨ag', by omega⟩, fun e q => ?_, S45, B5.mono (by omega)⟩
          cases q
          exact ⟨⟨ag'.app (Abc.one (.inl rfl)), by rw [List.length_append, List.length_singleton]; omega⟩, lt_snoc _ _⟩
        · exact fin _ _ ⟨x, some y, rfl, sx, fun e q => by cases q; exact ⟨sy, lt_of_le_ne xy fun e => h (by rw [e]; exact decide_eq_true rfl)⟩, S45, B5.mono (by omega)⟩
      · exact fin _ _ ⟨g4, e4, rfl, s4, se4, S4, B4.mono (by omega)⟩
    rintro σ H5 ⟨g5, e5, rfl, s5, se5, S5, B5⟩
    have pl5 := plS S5
    have mp : p ∈ [b, p] := by simp
    have sub : ∀ x ∈ ([b] : List Addr), x ∈ [b, p] := fun x m => by rw [List.mem_singleton.mp m]; simp
    have big : ls.length + 1 < sizeLine := Nat.lt_of_le_of_lt (show ls.length + 1 ≤ 2 ^ 19 by omega) (by decide)
    refine ⟨_, rfl, .inl ⟨rfl, _, SqL.of pl5.1⟩, _, rfl, p, _, _, rfl, rfl, pl5.1, by rw [List.length_map]; omega, ?_⟩
    have e1 : ls.map Tx ++ [Tx g5] = (ls ++ [g5]).map Tx := by rw [List.map_append]; rfl
    rw [e1]
    have P1 : Pool (upd H5 p (.lst ((ls ++ [g5]).map Tx))) p (ls ++ [g5]) := ⟨upd_same, fun l m => by
      rcases List.mem_append.mp m with m | m
      · exact pl.2 l m
      · rw [List.mem_singleton.mp m]
        exact s5⟩
    have B6 := B5.upd (o := .lst ((ls ++ [g5]).map Tx)) ne
    have S6 : Stp [b, p] H (upd H5 p (.lst ((ls ++ [g5]).map Tx))) := (S5.sub sub).put' mp
    have len2 : (2 : Nat) ≤ sizeLine := by decide
    refine ⟨_, rfl, rfl, _, rfl, ?_⟩
    cases e5 with
    | none =>
      refine ite2 (fun h => absurd h (by simp [oV])) (fun _ => ?_)
      refine ⟨_, rfl, _, rfl, len2, fun t nt => ?_⟩
      have pt : p ≠ t := ne_of_none P1.1 nt
      exact k t (g5, none) (ls ++ [g5]) _ (pr_rp (p := (g5, none)) (SqT.of upd_same) s5.2 fun e q => by cases q) ⟨s5, fun e q => by cases q⟩ (S6.new' nt) ((B6.upd (B6.ne nt)).mono (by omega)) ⟨by rw [upd_ne pt]; exact P1.1, P1.2⟩ (by simp)
    | some e =>
      refine ite2 (fun _ => ?_) (fun h => absurd (show _ = true from rfl) h)
      obtain ⟨se, slt⟩ := se5 e rfl
      refine ⟨_, rfl, .inl ⟨rfl, _, SqL.of P1.1⟩, _, rfl, p, _, _, rfl, rfl, P1.1, by rw [List.length_map, List.length_append]; exact big, ?_⟩
      have e2 : (ls ++ [g5]).map Tx ++ [Tx e] = (ls ++ [g5, e]).map Tx := by simp
      have e2' : (ls ++ [g5]).map Tx ++ [oV (some e)] = (ls ++ [g5, e]).map Tx := e2
      rw [e2']
      refine ⟨_, rfl, _, rfl, len2, fun t nt => ?_⟩
      have P2 : Pool (upd (upd H5 p (.lst ((ls ++ [g5]).map Tx))) p (.lst ((ls ++ [g5, e]).map Tx))) p (ls ++ [g5, e]) := ⟨upd_same, fun l m => by
        rcases List.mem_append.mp m with m | m
        · exact pl.2 l m
        · simp at m
          rcases m with rfl | rfl
          · exact s5
          · exact se⟩
      have pt : p ≠ t := ne_of_none P2.1 nt
      have B7 := B6.upd (o := .lst ((ls ++ [g5, e]).map Tx)) ne
      exact k t (g5, some e) (ls ++ [g5, e]) _ (pr_rp (p := (g5, some e)) (SqT.of upd_same) s5.2 fun e' q => by cases q; exact se.2) ⟨s5, fun e' q => by cases q; exact ⟨se, slt⟩⟩ ((S6.put' mp).new' nt) ((B7.upd (B7.ne nt)).mono (by omega)) ⟨by rw [upd_ne pt]; exact P2.1, P2.2⟩ (by simp)
abbrev s__law_span : Stmt := topS 20
abbrev N__law_span : List Str := ["bag", "pool", "upto", "k"]
theorem sc__law_span : FnScope ["bag", "pool", "upto", "k"] ["bag", "pool", "upto"] (defScope s__law_span) := ⟨rfl, rfl, rfl, by decide +kernel, rfl, by decide +kernel, by decide +kernel⟩

/-! ### _law_span -/
def spSpan (K : PySem.W.Frag) : Sp := fun vs H Q _ => ∃ (b p : Addr) (n : Nat) (up : Int), vs = [.ref b, .ref p, .int up] ∧ 0 ≤ up ∧ up ≤ 20 ∧ Bag H b n ∧ n + 2000 < 2 ^ 30 ∧ Pool H p [] ∧ b ≠ p ∧
  ∀ c ps ls' H', Spn K H' c ps → ps.length ≤ 20 → Stp [b, p] H H' → Bag H' b (n + 1300) → Pool H' p ls' → ls'.length ≤ 40 → Q (.ref c) H'
theorem cl__law_span {f : Addr} {fd : FuncData} (D : Df K mg "_law_span" s__law_span ["bag", "pool", "upto"] f fd) (T : Nm mg) (c__law_draw : Cl P w K mg base 1 "_law_draw" s__law_draw ["bag", "upto"] spDraw)
    (c__law_pair : Cl P w K mg base 4 "_law_pair" s__law_pair ["bag", "pool"] (spPair K)) (c__law_due : Cl P w K mg base 2 "_law_due" s__law_due ["pairs"] (spDue K)) : Cl P w K mg base 5 "_law_span" s__law_span ["bag", "pool", "upto"] (spSpan K) := by
  refine D.cl sc__law_span (fun vs H Q E h => ?_) (fun cdv A outer s H vs Q E hr h => ?_)
  · obtain ⟨b, p, n, up, rfl, _⟩ := h
    rfl
  · obtain ⟨b, p, n, up, rfl, u0, u1, B, hn, pl, ne, k⟩ := h
    refine ⟨_, (pss_one (ps_ret (pe_cl c__law_due hr (by omega) (pa_cons (pe_lc (own := [("k", 3)]) rfl sc__law_span.nd (pi_range1 (by rfl) T.n_range (pa_cons (pe_cl c__law_draw hr (by omega) (pa_cons (pv 0) (pa_cons (pe_op op_add (pv 2) pe_int) pa_nil))) pa_nil)) (blkOk_by (own := [("k", 3)]) (N := N__law_span) (sc := defScope s__law_span) (by decide +kernel)) (fun _ _ _ _ _ => (pg_name (i := 3) sc__law_span.nd rfl (by first | exact Or.inl rfl | exact Or.inr rfl))) (fun _ _ _ _ _ => pts_nil) (fun _ _ _ _ _ => (pe_cl c__law_pair hr (by omega) (pa_cons (pv 0) (pa_cons (pv 1) pa_nil))))) pa_nil)))), ?_⟩
    have sub : ∀ x ∈ ([b] : List Addr), x ∈ [b, p] := fun x m => by rw [List.mem_singleton.mp m]; simp
    have npb : p ∉ [b] := fun m => ne (List.mem_singleton.mp m).symm
    refine ⟨_, rfl, _, rfl, _, _, rfl, rfl, b, _, n, rfl, B, by omega, by omega, by omega, fun z H1 z0 z1 o1 B1 => ?_⟩
    have S1 : Stp [b] H H1 := o1.stp (List.mem_singleton.mpr rfl)
    have p1 : H1 p = some (.lst []) := S1.kp _ _ npb pl.1
    refine ⟨z, rfl, by omega, by omega, fun L nL => ?_⟩
    have nLb : L ≠ b := (B1.ne nL).symm
    have nLp : L ≠ p := (ne_of_none p1 nL).symm
    have nLm : L ∉ [b, p] := fun m => by
      simp at m
      rcases m with m | m
      · exact nLb m
      · exact nLp m
    refine lc_range (lo := 0) (n := z.toNat) (fun i H4 => ∃ (ps : List Pr) (vs : List V) (ls : List (List Nat)), ps.length = i ∧ H4 L = some (.lst vs) ∧ RpL K H4 vs (ps.map prD) ∧ (∀ q ∈ ps, PrS q) ∧ Stp [b, p] H1 H4 ∧ Bag H4 b (n + 1 + 60 * i) ∧ Pool H4 p ls ∧ ls.length ≤ 2 * i)
      ⟨[], [], [], rfl, upd_same, .nil, fun q m => (nomatch m), Stp.new nL _, B1.upd nLb.symm, ⟨by rw [upd_ne nLp.symm]; exact p1, fun l m => nomatch m⟩, by simp⟩ ?_ ?_
    · rintro i H4 hi ⟨ps, vs, ls, hl, hL, rl, ok, S4, B4, P4, l4⟩
      refine ⟨rfl, _, rfl, _, rfl, b, p, _, ls, rfl, B4, by omega, P4, by omega, ne, fun t pr ls' H5 rt pk S5 B5 P5 l5 => ?_⟩
      have hL5 : H5 L = some (.lst vs) := S5.kp _ _ nLm hL
      have L4 : Lsts H4 [b, p] := by
        obtain ⟨x, y, z, hb, _⟩ := B4
        exact .cons hb (.one P4.1)
      have s6 : Stp [L] H5 (upd H5 L (.lst (vs ++ [.ref t]))) := Stp.put (by simp)
      refine ⟨vs, hL5, ?_, ps ++ [pr], vs ++ [.ref t], ls', by simp [hl], upd_same, prs_one ((rl.stp S5 L4).stp s6 (.one hL5)) (rt.stp s6 (.one hL5)), fun q m => ?_, (S4.trans S5).mut nL, (B5.upd nLb.symm).mono (by omega), ⟨by rw [upd_ne nLp.symm]; exact P5.1, P5.2⟩, by omega⟩
      · rw [rl.len, List.length_map, hl]
        exact Nat.lt_of_le_of_lt (show i ≤ 1000 by omega) (by decide)
      · rcases List.mem_append.mp m with m | m
        · exact ok q m
        · rw [List.mem_singleton.mp m]
          exact pk.s
    · rintro H4 ⟨ps, vs, ls, hl, hL, rl, ok, S4, B4, P4, l4⟩
      refine ⟨L, vs, ps, rfl, hL, rl, ok, by omega, fun c ps' H5 S5 sp eq => ?_⟩
      refine k c ps' ls H5 sp (Nat.le_trans (norm_len sp.ok eq) (by omega)) ((S1.sub sub).trans (S4.trans (S5.sub fun x m => nomatch m))) ((B4.kp S5 (fun m => nomatch m)).mono (by omega)) ⟨S5.kp _ _ (fun m => nomatch m) P4.1, P4.2⟩ (by omega)
abbrev s_is_text : Stmt := topS 4
abbrev N_is_text : List Str := ["value"]
theorem sc_is_text : FnScope ["value"] ["value"] (defScope s_is_text) := ⟨rfl, rfl, rfl, by decide +kernel, rfl, by decide +kernel, by decide +kernel⟩

/-! ### what is a page -/
def abcB (l : List Nat) : Bool := l.all fun c => decide (c = 97 ∨ c = 98 ∨ c = 99)
theorem abcB_iff {l : List Nat} : abcB l = true ↔ Abc l := by
  unfold abcB
  rw [List.all_eq_true]
  exact ⟨fun h c m => of_decide_eq_true (h c m), fun h c m => decide_eq_true (h c m)⟩
def isTxt : D → Bool
  | .str l => abcB l
  | _ => false
def isVal : D → Bool
  | .non => true
  | d => isTxt d
def isPage : D → Bool
  | .lst ds => !ds.isEmpty && ds.all isVal
  | _ => false
def spTell (K : PySem.W.Frag) (t : D → Bool) : Sp := fun vs H Q _ => ∃ (S : List Addr) (v : V) (d : D), vs = [v] ∧ Rv K S H v d ∧ ∀ H' b, Stp [] H H' → b = t d → Q (.bl b) H'
theorem spTell.len {K : PySem.W.Frag} {t : D → Bool} {vs : List V} {H : Hp} {Q : VK} {E : XK} (h : spTell K t vs H Q E) : vs.length = 1 := by
  obtain ⟨S, v, d, rfl, _⟩ := h
  rfl
theorem cl_is_text {f : Addr} {fd : FuncData} (D : Df K mg "is_text" s_is_text ["value"] f fd) (T : Nm mg) : Cl P w K mg base 1 "is_text" s_is_text ["value"] (spTell K isTxt) := by
  refine D.cl sc_is_text (fun vs H Q E h => h.len) (fun cdv A outer s H vs Q E hr h => ?_)
  obtain ⟨S, v, d, rfl, r, k⟩ := h
  refine ⟨_, (pss_one (ps_ret (pe_and (pe_tyIs (T := "str") Mono.var (pv 0) T.n_type T.n_str (by decide +kernel)) (pe_one (pe_cmpR op_eq (pe_bm PySem.F.plainAttrs_str PySem.F.slot_str_strip PySem.F.type_str_strip mt_stripChars (pv 0) (pa_cons pe_str pa_nil)) pe_str (by first | exact nomark _ | rfl)))))), ?_⟩
  refine ⟨_, rfl, d.old, r.old, _, rfl, ?_⟩
  cases r with
  | str l hl =>
    refine ⟨_, rfl, rfl, tx l, ("abc" : Str), rfl, rfl, szt hl, rfl, ?_⟩
    refine k H _ (Stp.refl _ _) ?_
    rw [abc_lit, nil_lit, Bool.eq_iff_iff]
    show _ ↔ abcB l = true
    rw [abcB_iff]
    exact ⟨fun h => (strip_abc l).mp (V.str.inj (of_decide_eq_true h)), fun h => decide_eq_true (congrArg V.str ((strip_abc l).mpr h))⟩
  | _ => exact k H _ (Stp.refl _ _) rfl
theorem two {α : Type} {l : List α} (h : l.length = 2) : ∃ a b, l = [a, b] := by
  match l, h with
  | [a, b], _ => exact ⟨a, b, rfl⟩
theorem three {α : Type} {l : List α} (h : l.length = 3) : ∃ a b c, l = [a, b, c] := by
  match l, h with
  | [a, b, c], _ => exact ⟨a, b, c, rfl⟩
theorem RvL.two {K : PySem.W.Frag} {S : List Addr} {H : Hp} {vs : List V} {a b : D} (r : RvL K S H vs [a, b]) : ∃ u v, vs = [u, v] ∧ Rv K S H u a ∧ Rv K S H v b := by
  cases r with
  | cons h1 r => cases r with
    | cons h2 r => cases r; exact ⟨_, _, rfl, h1, h2⟩
theorem RvL.three {K : PySem.W.Frag} {S : List Addr} {H : Hp} {vs : List V} {a b c : D} (r : RvL K S H vs [a, b, c]) : ∃ u v w, vs = [u, v, w] ∧ Rv K S H u a ∧ Rv K S H v b ∧ Rv K S H w c := by
  cases r with
  | cons h1 r => cases r with
    | cons h2 r => cases r with
      | cons h3 r => cases r; exact ⟨_, _, _, rfl, h1, h2, h3⟩
theorem at2 {α : Type} {a b c : α} {l : List α} : atI (a :: b :: c :: l) 2 = some c := atI_nat (j := 2) rfl
/-! ### ranges and spans as values -/
def endD : Option Txt → D
  | none => .non
  | some e => .str e
def prV (p : Pr) : D := .tup [.str p.1, endD p.2]
def spanD (ps : List Pr) : D := .tup (ps.map prV)
theorem rp_rv {K : PySem.W.Frag} {S : List Addr} {H : Hp} {v : V} {p : Pr} (r : Rp K H v (prD p)) (h : p.1.length ≤ 12) (g : ∀ e, p.2 = some e → e.length ≤ 12) : Rv K S H v (prV p) := by
  obtain ⟨a, rfl, ha⟩ := rp_pr r
  refine .tup ha (by simp) (.cons (.str _ (by omega)) (.cons ?_ .nil))
  obtain ⟨f, e⟩ := p
  cases e with
  | none => exact .non
  | some e => exact .str _ (by have := g e rfl; omega)
theorem rps_rv {K : PySem.W.Frag} {S : List Addr} {H : Hp} : ∀ {ps : List Pr} {vs : List V}, RpL K H vs (ps.map prD) → (∀ p ∈ ps, PrS p) → RvL K S H vs (ps.map prV)
  | [], _, .nil, _ => .nil
  | p :: ps, _, .cons h r, ok => .cons (rp_rv h (ok p List.mem_cons_self).1.2 fun e q => ((ok p List.mem_cons_self).2 e q).2) (rps_rv r fun q m => ok q (List.mem_cons_of_mem _ m))
theorem Spn.rv {K : PySem.W.Frag} {S : List Addr} {H : Hp} {a : Addr} {ps : List Pr} (h : Spn K H a ps) : Rv K S H (.ref a) (spanD ps) := by
  obtain ⟨⟨vs, hs, rl⟩, ok, few⟩ := h
  exact .tup hs (by rw [rl.len, List.length_map]; omega) (rps_rv rl fun p m => (ok.ok p m).s)
abbrev s_is_range : Stmt := topS 5
abbrev N_is_range : List Str := ["value"]
theorem sc_is_range : FnScope ["value"] ["value"] (defScope s_is_range) := ⟨rfl, rfl, rfl, by decide +kernel, rfl, by decide +kernel, by decide +kernel⟩

abbrev s_reaches : Stmt := topS 7
abbrev N_reaches : List Str := ["end", "first"]
theorem sc_reaches : FnScope ["end", "first"] ["end", "first"] (defScope s_reaches) := ⟨rfl, rfl, rfl, by decide +kernel, rfl, by decide +kernel, by decide +kernel⟩

abbrev s_is_span : Stmt := topS 6
abbrev N_is_span : List Str := ["value", "part", "ahead"]
theorem sc_is_span : FnScope ["value", "part", "ahead"] ["value"] (defScope s_is_span) := ⟨rfl, rfl, rfl, by decide +kernel, rfl, by decide +kernel, by decide +kernel⟩

/-! ### what is a range, a span -/
def strD : D → List Nat
  | .str l => l
  | _ => []
def endOk (f : List Nat) : D → Bool
  | .non => true
  | .str e => abcB e && decide (f < e)
  | _ => false
def isRng : D → Bool
  | .tup [a, b] => isTxt a && endOk (strD a) b
  | _ => false
def gapD : D → D → Bool
  | .tup [_, .str e], .tup (.str f :: _) => decide (e < f)
  | _, _ => false
def adj : List D → Bool
  | a :: b :: r => gapD a b && adj (b :: r)
  | _ => true
def isSpn : D → Bool
  | .tup ds => ds.all isRng && adj ds
  | _ => false
theorem isTxt_str {d : D} (h : isTxt d = true) : ∃ l, d = .str l ∧ Abc l := by
  cases d with
  | str l => exact ⟨l, rfl, abcB_iff.mp h⟩
  | _ => cases h
/-- a range of any texts -/
def PrL (p : Pr) : Prop := Abc p.1 ∧ ∀ e, p.2 = some e → Abc e ∧ p.1 < e
theorem isRng_pr {d : D} (h : isRng d = true) : ∃ p : Pr, d = prV p ∧ PrL p := by
  cases d with
  | tup ds => match ds, h with
    | [a, b], h =>
      obtain ⟨h1, h2⟩ := Bool.and_eq_true_iff.mp (h : (isTxt a && endOk (strD a) b) = true)
      obtain ⟨f, rfl, af⟩ := isTxt_str h1
      cases b with
      | non => exact ⟨(f, none), rfl, af, fun e q => nomatch q⟩
      | str e =>
        obtain ⟨h3, h4⟩ := Bool.and_eq_true_iff.mp (h2 : (abcB e && decide (f < e)) = true)
        exact ⟨(f, some e), rfl, af, fun e' q => by cases q; exact ⟨abcB_iff.mp h3, of_decide_eq_true h4⟩⟩
      | _ => cases h2
  | _ => cases h
theorem pr_isRng {p : Pr} (h : PrL p) : isRng (prV p) = true := by
  obtain ⟨f, e⟩ := p
  obtain ⟨h1, h2⟩ := h
  show (abcB f && endOk f (endD e)) = true
  rw [abcB_iff.mpr h1]
  cases e with
  | none => rfl
  | some e =>
    obtain ⟨h3, h4⟩ := h2 e rfl
    show (abcB e && decide (f < e)) = true
    rw [abcB_iff.mpr h3, decide_eq_true (show f < e from h4)]
    rfl
theorem isRng_no {d : D} (h : ∀ a b, d ≠ .tup [a, b]) : isRng d = false := by
  cases d with
  | tup ds => match ds, h with
    | [], _ => rfl
    | [_], _ => rfl
    | [a, b], h => exact absurd rfl (h a b)
    | _ :: _ :: _ :: _, _ => rfl
  | _ => rfl
theorem cl_is_range {f : Addr} {fd : FuncData} (D : Df K mg "is_range" s_is_range ["value"] f fd) (T : Nm mg) (c_is_text : Cl P w K mg base 1 "is_text" s_is_text ["value"] (spTell K isTxt)) : Cl P w K mg base 2 "is_range" s_is_range ["value"] (spTell K isRng) := by
  refine D.cl sc_is_range (fun vs H Q E h => h.len) (fun cdv A outer s H vs Q E hr h => ?_)
  obtain ⟨S, v, d, rfl, r, k⟩ := h
  refine ⟨_, (pss_cons (ps_if (PW.pt (pw_or (pt_tyNot (T := "tuple") Mono.var (pv 0) T.n_type T.n_tuple (by decide +kernel)) (pw_or (pt_cmpR op_ne (pe_callB call_len_seq (by rfl) T.n_len (by decide +kernel) (pa_cons (pv 0) pa_nil)) pe_int (by first | exact nomark _ | rfl)) (pw_or1 (pt_not (pt_val (pe_cl c_is_text hr (by omega) (pa_cons (pe_ix ix_tup (pv 0) pe_int (fun _ _ => rfl)) pa_nil)))))))) (pss_one (ps_ret pe_bl)) pss_nil)
      (pss_one (ps_ret (pe_or (pe_cmpR op_isN (pe_ix ix_tup (pv 0) pe_int (fun _ _ => rfl)) pe_non (by first | exact nomark _ | rfl)) (pe_one (pe_and (pe_cl c_is_text hr (by omega) (pa_cons (pe_ix ix_tup (pv 0) pe_int (fun _ _ => rfl)) pa_nil)) (pe_one (pe_cmpR op_lt_str (pe_ix ix_tup (pv 0) pe_int (fun _ _ => rfl)) (pe_ix ix_tup (pv 0) pe_int (fun _ _ => rfl)) (by first | exact nomark _ | rfl))))))))), ?_⟩
  refine ⟨_, rfl, d.old, r.old, ite2 (fun h => ?_) (fun h => ?_)⟩
  · exact k H _ (Stp.refl _ _) (isRng_no fun a b e => by rw [e] at h; exact absurd h (by simp [Pv.D.old, Dt.ty])).symm
  · obtain ⟨ds, rfl⟩ : ∃ ds, d = .tup ds := Pv.D.tup_of (by
      have h2 := Bool.eq_false_iff.mpr h
      simpa [Pv.D.ty] using h2)
    cases r with
    | tup hs hl rl =>
      rename_i a vs
      refine ⟨_, rfl, a, _, rfl, .inr hs, rfl, _, rfl, ite2 (fun h3 => ?_) (fun h3 => ?_)⟩
      · exact k H _ (Stp.refl _ _) (isRng_no fun x y e => by
          cases e
          rw [rl.len] at h3
          exact absurd h3 (by simp)).symm
      · obtain ⟨x, y, rfl⟩ := two (l := ds) (by
          rw [rl.len] at h3
          have h2 := Bool.eq_false_iff.mpr h3
          simp at h2
          omega)
        obtain ⟨u1, u2, rfl, r1, r2⟩ := RvL.two rl
        have e0 : isRng (.tup [x, y]) = (isTxt x && endOk (strD x) y) := rfl
        refine ⟨_, rfl, a, _, 0, u1, rfl, rfl, hs, at0, S, u1, x, rfl, r1, fun H1 b1 S1 e1 => ?_⟩
        have hs1 := sqt_stp S1 Lsts.nil hs
        refine ⟨_, rfl, ite2 (fun h4 => ?_) (fun h4 => ?_)⟩
        · refine k H1 _ S1 ?_
          rw [e0, ← e1, show b1 = false by simpa using h4]
          rfl
        · have hb : isTxt x = true := by rw [← e1]; simpa using h4
          obtain ⟨g, rfl, ag⟩ := isTxt_str hb
          obtain rfl : u1 = Tx g := by cases r1; rfl
          refine ⟨_, rfl, a, _, 1, u2, rfl, rfl, hs1, at1, rfl, _, rfl, ?_⟩
          have e3 : isRng (.tup [.str g, y]) = endOk g y := by rw [e0, hb]; rfl
          refine ite2 (fun h5 => ?_) (fun h5 => ?_)
          · have e : u2 = .non := of_decide_eq_true h5
            subst e
            cases r2
            exact k H1 _ S1 (by rw [e3]; rfl)
          · have ny : y ≠ .non := fun e => by
              subst e
              cases r2
              exact h5 rfl
            refine ⟨_, rfl, a, _, 1, u2, rfl, rfl, hs1, at1, S, u2, y, rfl, r2.up S1, fun H2 b2 S2 e2 => ?_⟩
            have S12 := S1.trans S2
            refine ⟨_, rfl, ite2 (fun h6 => ?_) (fun h6 => ?_)⟩
            · have hy : isTxt y = true := by rw [← e2]; exact h6
              obtain ⟨e, rfl, ae⟩ := isTxt_str hy
              obtain rfl : u2 = Tx e := by cases r2; rfl
              have hs2 := sqt_stp S2 Lsts.nil hs1
              refine ⟨_, rfl, a, _, 0, Tx g, rfl, rfl, hs2, at0, _, rfl, a, _, 1, Tx e, rfl, rfl, hs2, at1, tx g, tx e, rfl, rfl, k H2 _ S12 ?_⟩
              rw [e3]
              show _ = (abcB e && decide (g < e))
              rw [show abcB e = true from hy, Bool.true_and]
            · refine k H2 _ S12 ?_
              rw [e3]
              have hy : isTxt y = false := by rw [← e2]; exact Bool.eq_false_iff.mpr h6
              cases y with
              | non => exact absurd rfl ny
              | str e =>
                show false = (abcB e && _)
                rw [show abcB e = false from hy]
                rfl
              | _ => rfl
def reachB : Option Txt → Txt → Bool
  | none, _ => true
  | some e, f => !decide (e < f)
def spReachesG : Sp := fun vs H Q _ => ∃ (e : Option Txt) (f : Txt), vs = [oV e, Tx f] ∧ ∀ b, b = reachB e f → Q (.bl b) H
theorem cl_reachesG {f : Addr} {fd : FuncData} (D : Df K mg "reaches" s_reaches ["end", "first"] f fd) (T : Nm mg) : Cl P w K mg base 1 "reaches" s_reaches ["end", "first"] spReachesG := by
  refine D.cl sc_reaches (fun vs H Q E h => ?_) (fun cdv A outer s H vs Q E hr h => ?_)
  · obtain ⟨e, f, rfl, _⟩ := h
    rfl
  · obtain ⟨e, f, rfl, k⟩ := h
    refine ⟨_, (pss_one (ps_ret (pe_or (pe_cmpR op_isN (pv 0) pe_non (by first | exact nomark _ | rfl)) (pe_one (pe_cmpR op_ge_str (pv 0) (pv 1) (by first | exact nomark _ | rfl)))))), ?_⟩
    cases e with
    | none => exact ⟨_, rfl, rfl, _, rfl, k _ rfl⟩
    | some e => exact ⟨_, rfl, rfl, _, rfl, _, rfl, _, rfl, tx e, tx f, rfl, rfl, k _ rfl⟩
theorem gapD_pr (p q : Pr) : gapD (prV p) (prV q) = !reachB p.2 q.1 := by
  obtain ⟨f, e⟩ := p
  obtain ⟨g, e2⟩ := q
  cases e with
  | none => rfl
  | some e =>
    show decide (e < g) = !(!decide (e < g))
    rw [Bool.not_not]
theorem all_rng : ∀ {ds : List D}, ds.all isRng = true → ∃ ps : List Pr, ds = ps.map prV ∧ ∀ p ∈ ps, PrL p
  | [], _ => ⟨[], rfl, fun _ m => nomatch m⟩
  | d :: ds, h => by
    rw [List.all_cons, Bool.and_eq_true] at h
    obtain ⟨p, rfl, hp⟩ := isRng_pr h.1
    obtain ⟨ps, rfl, hps⟩ := all_rng h.2
    exact ⟨p :: ps, rfl, fun q m => by
      rcases List.mem_cons.mp m with rfl | m
      · exact hp
      · exact hps q m⟩
/-- neighbours, each with the next -/
def gaps (ps : List Pr) : List Bool := (ps.zip (ps.drop 1)).map fun x => !reachB x.1.2 x.2.1
theorem adj_gaps : ∀ (ps : List Pr), adj (ps.map prV) = (gaps ps).all id
  | [] => rfl
  | [_] => rfl
  | p :: q :: ps => by
    show (gapD (prV p) (prV q) && adj ((q :: ps).map prV)) = _
    rw [adj_gaps (q :: ps), gapD_pr]
    rfl
theorem gaps_len (ps : List Pr) : (gaps ps).length = ps.length - 1 := by
  unfold gaps
  rw [List.length_map, List.length_zip, List.length_drop]
  omega
theorem gaps_at {ps : List Pr} {i : Nat} {p q : Pr} (hp : ps[i]? = some p) (hq : ps[i + 1]? = some q) : (gaps ps)[i]? = some (!reachB p.2 q.1) := by
  unfold gaps
  have e : (ps.zip (ps.drop 1))[i]? = some (p, q) := List.getElem?_zip_eq_some.mpr ⟨hp, by rw [List.getElem?_drop, Nat.add_comm]; exact hq⟩
  rw [List.getElem?_map, e]
  rfl
def SmallT : D → Prop
  | .tup ds => ds.length ≤ 5000
  | _ => True
def spTellS (K : PySem.W.Frag) : Sp := fun vs H Q _ => ∃ (S : List Addr) (v : V) (d : D), vs = [v] ∧ Rv K S H v d ∧ SmallT d ∧ ∀ H' b, Stp [] H H' → b = isSpn d → Q (.bl b) H'
theorem spTellS.len {K : PySem.W.Frag} {vs : List V} {H : Hp} {Q : VK} {E : XK} (h : spTellS K vs H Q E) : vs.length = 1 := by
  obtain ⟨S, v, d, rfl, _⟩ := h
  rfl
theorem prV_parts {K : PySem.W.Frag} {S : List Addr} {H : Hp} {v : V} {p : Pr} (r : Rv K S H v (prV p)) : ∃ t, v = .ref t ∧ SqT K H t [Tx p.1, oV p.2] := by
  obtain ⟨t, vs, rfl, ht, _, rl⟩ := Pv.Rv.tupE (r : Rv K S H v (.tup [.str p.1, endD p.2]))
  obtain ⟨u1, u2, rfl, r1, r2⟩ := RvL.two rl
  cases r1
  obtain ⟨f, e⟩ := p
  cases e with
  | none =>
    have r2' : Rv K S H u2 .non := r2
    cases r2'
    exact ⟨t, rfl, ht⟩
  | some e =>
    have r2' : Rv K S H u2 (.str e) := r2
    cases r2'
    exact ⟨t, rfl, ht⟩
theorem lc_zipT {K : PySem.W.Frag} {a b : Addr} {xs ys : List V} {g : TG} {tt : TT} {te : TE} {vs : List Nat} {σ : L2.St} {H1 : Hp} {D : Addr} {Qd : Hp → Prop} (Pv : Nat → Hp → Prop) (h0 : Pv 0 (upd H1 D (.lst []))) (hl : ∀ i H, Pv i H → SqT K H a xs ∧ SqT K H b ys) (le : ys.length ≤ xs.length)
    (hs : ∀ i x y T H, xs[i]? = some x → ys[i]? = some y → Pv i H → H T = none → g (.ref T) (wipe σ vs) (upd H T (.tup [x, y])) fun σ2 H2 => wipe σ2 vs = wipe σ vs ∧ tt σ2 H2 fun b H3 =>
      if b = true then te σ2 H3 fun y H4 => ∃ acc, H4 D = some (.lst acc) ∧ acc.length < sizeLine ∧ Pv (i + 1) (upd H4 D (.lst (acc ++ [y]))) else Pv (i + 1) H3) (hd : ∀ H, Pv ys.length H → Qd H) :
    ∃ W : Nat → Nat → Hp → Prop, (∃ m, W 0 m (upd H1 D (.lst []))) ∧ ∀ i m H, W i m H →
      ((RZ.ItzT K a b).stop i H ∧ Qd H) ∨ ((RZ.ItzT K a b).go i H ∧ ∃ Nx : Hp → Prop, (∀ H', Nx H' → ∃ m', m' < m ∧ W (i + 1) m' H') ∧ ∀ x H', (RZ.ItzT K a b).yld i H x H' → g x (wipe σ vs) H' fun σ2 H2 => wipe σ2 vs = wipe σ vs ∧ tt σ2 H2 fun b H3 =>
        if b = true then te σ2 H3 fun y H4 => ∃ acc, H4 D = some (.lst acc) ∧ acc.length < sizeLine ∧ Nx (upd H4 D (.lst (acc ++ [y]))) else Nx H3) := by
  refine ⟨fun i m H => m = ys.length - i ∧ i ≤ ys.length ∧ Pv i H, ⟨ys.length, by simp, Nat.zero_le _, h0⟩, ?_⟩
  rintro i m H ⟨rfl, hi, p⟩
  obtain ⟨qa, qb⟩ := hl i H p
  by_cases hlt : i < ys.length
  · refine .inr ⟨⟨xs, ys, xs[i], ys[i], qa, qb, by simp, by simp⟩, Pv (i + 1), fun H' p' => ⟨ys.length - (i + 1), by omega, rfl, hlt, p'⟩, fun v H' yy => ?_⟩
    obtain ⟨T, x, y, rfl, nT, rfl, hx, hy⟩ := yy
    exact hs i x y T H (hx xs qa) (hy ys qb) p nT
  · have e : i = ys.length := by omega
    subst e
    exact .inl ⟨⟨xs, ys, qa, qb, .inr (Nat.le_refl _)⟩, hd H p⟩
theorem cl_is_span {f : Addr} {fd : FuncData} (D : Df K mg "is_span" s_is_span ["value"] f fd) (T : Nm mg) (c_is_range : Cl P w K mg base 2 "is_range" s_is_range ["value"] (spTell K isRng)) (c_reaches : Cl P w K mg base 1 "reaches" s_reaches ["end", "first"] spReachesG) :
    Cl P w K mg base 3 "is_span" s_is_span ["value"] (spTellS K) := by
  refine D.cl sc_is_span (fun vs H Q E h => h.len) (fun cdv A outer s H vs Q E hr h => ?_)
  obtain ⟨S, v, d, rfl, r, sm, k⟩ := h
  refine ⟨_, (pss_cons (ps_if (PW.pt (pw_or (pt_tyNot (T := "tuple") Mono.var (pv 0) T.n_type T.n_tuple (by decide +kernel)) (pw_or1 (pt_not (pt_val (pe_callB (cr_all rfl) (by rfl) T.n_all (by decide +kernel) (pa_cons (pe_lc (own := [("part", 1)]) rfl sc_is_span.nd (pi_tup (pv 0)) (blkOk_by (own := [("part", 1)]) (N := N_is_span) (sc := defScope s_is_span) (by decide +kernel)) (fun _ _ _ _ _ => (pg_name (i := 1) sc_is_span.nd rfl (by first | exact Or.inl rfl | exact Or.inr rfl))) (fun _ _ _ _ _ => pts_nil) (fun _ _ _ _ _ => (pe_cl c_is_range hr (by omega) (pa_cons (pv 1) pa_nil)))) pa_nil))))))) (pss_one (ps_ret pe_bl)) pss_nil)
      (pss_one (ps_ret (pe_callB (cr_all rfl) (by rfl) T.n_all (by decide +kernel) (pa_cons (pe_lc (own := [("ahead", 2), ("part", 1)]) rfl sc_is_span.nd (RZ.pi_zipA (by rfl) T.n_zip (pa_cons (pv 0) (pa_cons (pe_slice sl_tupA (pv 0) (po_some pe_int) po_none) pa_nil))) (blkOk_by (own := [("ahead", 2), ("part", 1)]) (N := N_is_span) (sc := defScope s_is_span) (by decide +kernel)) (fun _ _ _ _ _ => (pg_tupK (n := 2) rfl rfl (pgs_cons (pg_name (i := 2) sc_is_span.nd rfl (by first | exact Or.inl rfl | exact Or.inr rfl)) (pgs_cons (pg_name (i := 1) sc_is_span.nd rfl (by first | exact Or.inl rfl | exact Or.inr rfl)) pgs_nil (by rfl)) (by rfl)) (by rfl) (by rfl))) (fun _ _ _ _ _ => pts_nil) (fun _ _ _ _ _ => (pe_not (pe_cl c_reaches hr (by omega) (pa_cons (pe_ix (ix_tupK rfl) (pv 2) pe_int (fun _ _ => rfl)) (pa_cons (pe_ix (ix_tupK rfl) (pv 1) pe_int (fun _ _ => rfl)) pa_nil)))))) pa_nil))))), ?_⟩
  have nn : ∀ {x : Addr}, x ∉ ([] : List Addr) := fun m => nomatch m
  refine ⟨_, rfl, d.old, r.old, ite2 (fun h => ?_) (fun h => ?_)⟩
  · refine k H _ (Stp.refl _ _) ?_
    cases d with
    | tup ds => exact absurd h (by simp [Pv.D.old, Dt.ty])
    | _ => rfl
  · obtain ⟨ds, rfl⟩ : ∃ ds, d = .tup ds := Pv.D.tup_of (by
      have h2 := Bool.eq_false_iff.mpr h
      simpa [Pv.D.ty] using h2)
    cases r with
    | tup hs hl rl =>
      rename_i a xs
      have sm : ds.length ≤ 5000 := sm
      refine ⟨_, rfl, a, rfl, ⟨_, hs⟩, fun L nL => ?_⟩
      refine lc_mapT (ds := (ds.map isRng).map Dt.bl) nL hs (by simp [rl.len]) (by rw [rl.len]; omega) (fun j x dd H3 hx hd S3 Q2 q => ?_) fun ws H3 S3 h3 r3 => ?_
      · obtain ⟨e', he, re⟩ := rl.get hx
        rw [List.getElem?_map, List.getElem?_map, he] at hd
        cases hd
        exact ⟨rfl, _, rfl, S, x, e', rfl, re.up S3, fun H4 b S4 eb => q _ _ S4 (by rw [eb]; exact .bl _)⟩
      obtain rfl := rpl_bls r3
      refine ⟨L, _, rfl, SqL.of h3, ?_⟩
      have e1 : (ds.map isRng).all id = ds.all isRng := by rw [List.all_map]; rfl
      rw [e1]
      have e0 : isSpn (.tup ds) = (ds.all isRng && adj ds) := rfl
      refine ⟨_, rfl, ite2 (fun h4 => ?_) (fun h4 => ?_)⟩
      · refine k H3 _ S3 ?_
        rw [e0, show ds.all isRng = false by simpa using h4]
        rfl
      · have hall : ds.all isRng = true := by simpa using h4
        obtain ⟨ps, rfl, okp⟩ := all_rng hall
        rw [List.length_map] at sm
        have lx : xs.length = ps.length := by rw [rl.len, List.length_map]
        have hs3 := sqt_stp S3 Lsts.nil hs
        refine ⟨_, rfl, _, rfl, 1, rfl, ?_⟩
        dsimp only
        refine nopart (slA_use hs3 fun p H5 S5 hp => ?_)
        have e2 : cutV xs (some (1 : Int)) none = xs.drop 1 := cut_from 1
        rw [e2] at hp
        have hs5 := sqt_stp S5 Lsts.nil hs3
        refine ⟨a, p, xs, _, rfl, .inr ⟨hs5, hp, fun L2 nL2 => ?_⟩⟩
        have S35 := S3.trans S5
        refine lc_zipT (a := a) (b := p) (xs := xs) (ys := xs.drop 1) (fun i H4 => H4 L2 = some (.lst (((gaps ps).take i).map V.bl)) ∧ Stp [] H5 H4)
          ⟨upd_same, Stp.new nL2 _⟩ (fun i H4 ⟨_, S4⟩ => ⟨sqt_stp S4 Lsts.nil hs5, sqt_stp S4 Lsts.nil hp⟩) (by rw [List.length_drop]; omega) ?_ ?_
        · rintro i x y t H4 hx hy ⟨hL, S4⟩ nt
          rw [List.getElem?_drop, Nat.add_comm] at hy
          obtain ⟨d1, hd1, rd1⟩ := rl.get hx
          obtain ⟨d2, hd2, rd2⟩ := rl.get hy
          rw [List.getElem?_map] at hd1 hd2
          obtain ⟨q1, hq1, rfl⟩ := Option.map_eq_some_iff.mp hd1
          obtain ⟨q2, hq2, rfl⟩ := Option.map_eq_some_iff.mp hd2
          have S6 : Stp [] H (upd H4 t (.tup [x, y])) := (S35.trans S4).new' nt
          obtain ⟨t1, rfl, ht1⟩ := prV_parts (rd1.up S6)
          obtain ⟨t2, rfl, ht2⟩ := prV_parts (rd2.up S6)
          have nL2t : L2 ≠ t := ne_of_none hL nt
          have hL6 : (upd H4 t (.tup [.ref t1, .ref t2])) L2 = some (.lst (((gaps ps).take i).map V.bl)) := by
            rw [upd_ne nL2t]
            exact hL
          refine ⟨t, _, rfl, SqT.of upd_same, rfl, _, _, rfl, _, _, rfl, rfl, ?_⟩
          refine ⟨rfl, _, rfl, t1, _, 1, oV q1.2, rfl, rfl, ht1, at1, _, rfl, t2, _, 0, Tx q2.1, rfl, rfl, ht2, at0, q1.2, q2.1, rfl, fun bb hb => ?_⟩
          refine ⟨_, rfl, _, hL6, ?_, ?_, (S4.new' nt).mut nL2⟩
          · rw [List.length_map, List.length_take]
            have := gaps_len ps
            exact Nat.lt_of_le_of_lt (show min i (gaps ps).length ≤ 5000 by omega) (by decide)
          · rw [upd_same, List.take_add_one, gaps_at hq1 hq2, List.map_append, hb]
            rfl
        · rintro H4 ⟨hL, S4⟩
          rw [List.length_drop, lx, ← gaps_len ps, List.take_length] at hL
          refine ⟨L2, _, rfl, SqL.of hL, k _ _ (S35.trans S4) ?_⟩
          rw [e0, hall, adj_gaps, Bool.true_and]
abbrev s__law_odd_pair : Stmt := topS 21
abbrev N__law_odd_pair : List Str := ["bag", "word", "odd"]
theorem sc__law_odd_pair : FnScope ["bag", "word", "odd"] ["bag", "word"] (defScope s__law_odd_pair) := ⟨rfl, rfl, rfl, by decide +kernel, rfl, by decide +kernel, by decide +kernel⟩

def oddp0 (C : Addr) (w : List Nat) (ps : List Pr) : List D := [.tup [.str w, .str w], .tup [.str (w ++ ("a" : Str).cps.toList), .str w], .lst [.str w, .non], .tup [.str w], .tup [.str w, .non, .non], .non, .str w, .int 0, .bl true, .tup []]
theorem oddp0_len {C : Addr} {w : List Nat} {ps : List Pr} : (oddp0 C w ps).length = 10 := rfl
def oddp1 (C : Addr) (w : List Nat) (ps : List Pr) : List D := [.tup [.non, .str w], .tup [.non, .non], .tup [.str w, .int 0], .tup [.str w, .bl true], .tup [.int 0, .str w], .tup [.str w, .str (w ++ ("d" : Str).cps.toList)], .tup [wd "d", .non]]
theorem oddp1_len {C : Addr} {w : List Nat} {ps : List Pr} : (oddp1 C w ps).length = 7 := rfl
def oddp2 (C : Addr) (w : List Nat) (ps : List Pr) : List D := [.tup [.str (("A" : Str).cps.toList ++ w), .non], .tup [.str w, .tup []], .tup [.tup [.str w, .non]], .tup [.str w, .lst [.str (w ++ ("a" : Str).cps.toList)]], .tup [.str w, .bl false], .tup [.int (-1), .non]]
theorem oddp2_len {C : Addr} {w : List Nat} {ps : List Pr} : (oddp2 C w ps).length = 6 := rfl
def oddp3 (C : Addr) (w : List Nat) (ps : List Pr) : List D := [.tup [.tup [.str w], .non], .tup [.str (w ++ (" " : Str).cps.toList), .non], .tup [wd "", wd ""], .tup [.str w, .str (w ++ ("a\n" : Str).cps.toList)], .obj C]
theorem oddp3_len {C : Addr} {w : List Nat} {ps : List Pr} : (oddp3 C w ps).length = 5 := rfl
def oddp4 (C : Addr) (w : List Nat) (ps : List Pr) : List D := [.tup [.str (("b" : Str).cps.toList ++ w), .str (("a" : Str).cps.toList ++ w)], .tup [.str (w ++ ("c" : Str).cps.toList), .str (w ++ ("b" : Str).cps.toList)], .tup [.str (w ++ ("ab" : Str).cps.toList), .str (w ++ ("aab" : Str).cps.toList)]]
theorem oddp4_len {C : Addr} {w : List Nat} {ps : List Pr} : (oddp4 C w ps).length = 3 := rfl
def oddp (C : Addr) (w : List Nat) (ps : List Pr) : List D := oddp0 C w ps ++ oddp1 C w ps ++ oddp2 C w ps ++ oddp3 C w ps ++ oddp4 C w ps
def spOddP (K : PySem.W.Frag) (C : Addr) : Sp := fun vs H Q _ => ∃ (b : Addr) (n : Nat) (w : List Nat), vs = [.ref b, Tx w] ∧ w.length ≤ 12 ∧ Bag H b n ∧ n + 10 < 2 ^ 30 ∧ ∀ v d H', d ∈ oddp C w [] → Stp [b] H H' → Bag H' b (n + 1) → Rv K [b] H' v d → Q v H'
theorem cl__law_odd_pair {f C : Addr} {fd : FuncData} (D : Df K mg "_law_odd_pair" s__law_odd_pair ["bag", "word"] f fd) (T : Nm mg) (TX : Nx K mg C) (c__law_draw : Cl P w K mg base 1 "_law_draw" s__law_draw ["bag", "upto"] spDraw) : Cl P w K mg base 2 "_law_odd_pair" s__law_odd_pair ["bag", "word"] (spOddP K C) := by
  refine D.cl sc__law_odd_pair (fun vs H Q E h => ?_) (fun cdv A outer s H vs Q E hr h => ?_)
  · obtain ⟨b, n, w, rfl, _⟩ := h
    rfl
  · obtain ⟨b, n, w, rfl, hw, B, hn, k⟩ := h
    refine ⟨_, (pss_cons (ps_set (i := 2) sc__law_odd_pair.nd rfl (by first | exact Or.inl rfl | exact Or.inr rfl) (pe_lst (pa_cons (pe_tup (pa_cons (pv 1) (pa_cons (pv 1) pa_nil))) (pa_cons (pe_tup (pa_cons (pe_op op_add_str (pv 1) pe_str) (pa_cons (pv 1) pa_nil))) (pa_cons (pe_lst (pa_cons (pv 1) (pa_cons pe_non pa_nil))) (pa_cons (pe_tup (pa_cons (pv 1) pa_nil)) (pa_cons (pe_tup (pa_cons (pv 1) (pa_cons pe_non (pa_cons pe_non pa_nil)))) (pa_cons pe_non (pa_cons (pv 1) (pa_cons pe_int (pa_cons pe_bl (pa_cons (pe_tup pa_nil) pa_nil))))))))))))
      (pss_cons (ps_set (i := 2) sc__law_odd_pair.nd rfl (by first | exact Or.inl rfl | exact Or.inr rfl) (pe_op op_cat (pv 2) (pe_lst (pa_cons (pe_tup (pa_cons pe_non (pa_cons (pv 1) pa_nil))) (pa_cons (pe_tup (pa_cons pe_non (pa_cons pe_non pa_nil))) (pa_cons (pe_tup (pa_cons (pv 1) (pa_cons pe_int pa_nil))) (pa_cons (pe_tup (pa_cons (pv 1) (pa_cons pe_bl pa_nil))) (pa_cons (pe_tup (pa_cons pe_int (pa_cons (pv 1) pa_nil))) (pa_cons (pe_tup (pa_cons (pv 1) (pa_cons (pe_op op_add_str (pv 1) pe_str) pa_nil))) (pa_cons (pe_tup (pa_cons pe_str (pa_cons pe_non pa_nil))) pa_nil))))))))))
      (pss_cons (ps_set (i := 2) sc__law_odd_pair.nd rfl (by first | exact Or.inl rfl | exact Or.inr rfl) (pe_op op_cat (pv 2) (pe_lst (pa_cons (pe_tup (pa_cons (pe_op op_add_str pe_str (pv 1)) (pa_cons pe_non pa_nil))) (pa_cons (pe_tup (pa_cons (pv 1) (pa_cons (pe_tup pa_nil) pa_nil))) (pa_cons (pe_tup (pa_cons (pe_tup (pa_cons (pv 1) (pa_cons pe_non pa_nil))) pa_nil)) (pa_cons (pe_tup (pa_cons (pv 1) (pa_cons (pe_lst (pa_cons (pe_op op_add_str (pv 1) pe_str) pa_nil)) pa_nil))) (pa_cons (pe_tup (pa_cons (pv 1) (pa_cons pe_bl pa_nil))) (pa_cons (pe_tup (pa_cons (pe_un un_neg pe_int) (pa_cons pe_non pa_nil))) pa_nil)))))))))
      (pss_cons (ps_set (i := 2) sc__law_odd_pair.nd rfl (by first | exact Or.inl rfl | exact Or.inr rfl) (pe_op op_cat (pv 2) (pe_lst (pa_cons (pe_tup (pa_cons (pe_tup (pa_cons (pv 1) pa_nil)) (pa_cons pe_non pa_nil))) (pa_cons (pe_tup (pa_cons (pe_op op_add_str (pv 1) pe_str) (pa_cons pe_non pa_nil))) (pa_cons (pe_tup (pa_cons pe_str (pa_cons pe_str pa_nil))) (pa_cons (pe_tup (pa_cons (pv 1) (pa_cons (pe_op op_add_str (pv 1) pe_str) pa_nil))) (pa_cons (pe_exc1 PySem.F.excBase_ValueError TX.x_InvalidSpan TX.g_InvalidSpan TX.k_InvalidSpan rfl (pv 1)) pa_nil))))))))
      (pss_cons (ps_set (i := 2) sc__law_odd_pair.nd rfl (by first | exact Or.inl rfl | exact Or.inr rfl) (pe_op op_cat (pv 2) (pe_lst (pa_cons (pe_tup (pa_cons (pe_op op_add_str pe_str (pv 1)) (pa_cons (pe_op op_add_str pe_str (pv 1)) pa_nil))) (pa_cons (pe_tup (pa_cons (pe_op op_add_str (pv 1) pe_str) (pa_cons (pe_op op_add_str (pv 1) pe_str) pa_nil))) (pa_cons (pe_tup (pa_cons (pe_op op_add_str (pv 1) pe_str) (pa_cons (pe_op op_add_str (pv 1) pe_str) pa_nil))) pa_nil))))))
      (pss_one (ps_ret (pe_ix ix_list (pv 2) (pe_cl c__law_draw hr (by omega) (pa_cons (pv 0) (pa_cons (pe_callB call_len_seq (by rfl) T.n_len (by decide +kernel) (pa_cons (pv 2) pa_nil)) pa_nil))) (fun _ _ => rfl))))))))), ?_⟩
    have rw : Rv K [b] H (Tx w) (.str w) := .str w (by omega)
    have rz := rw
    obtain ⟨ps, eps⟩ : ∃ ps : List Pr, ps = [] := ⟨_, rfl⟩
    rw [← eps] at k
    have ls0 := Pv.bag_ls B
    have rw_0 := rw
    have rz_0 := rz
    refine asg_name ?_
    refine' Pv.EvDA.newl (K := K) (S := [b]) (ds := oddp0 C w ps) ?e0 ?l0 ?k0
    case e0 => unfold oddp0; (repeat' first | exact Pv.EvDA.nil | apply Pv.EvDA.cons | exact Pv.EvD.bl | exact Pv.EvD.int | exact Pv.EvD.non | exact Pv.EvD.str | exact Pv.EvD.var (rw_0) | exact Pv.EvD.var (rz_0) | (refine Pv.EvD.cat ?_ ?_ (by first | exact Pv.catle hw (by decide +kernel) | exact Pv.catle' (by decide +kernel) hw)) | apply Pv.EvD.tup | apply Pv.EvD.lst ls0 | apply Pv.EvD.exc TX.ok | exact Pv.EvD.pow ⟨by decide, by decide, by decide⟩ | apply Pv.EvD.neg | (simp; done))
    case l0 => rw [oddp0_len]; decide
    case k0 =>
    intro L0 vs0 H0 E0 n0 h0 r0
    have ls1 := Pg.Lsts.stp ls0 E0
    have rw_1 := rw.up E0
    have rz_1 := rz.up E0
    refine asg_name ?_
    refine op_var rfl ?_
    refine' Pv.EvDA.newl (K := K) (S := [b]) (ds := oddp1 C w ps) ?e1 ?l1 ?k1
    case e1 => unfold oddp1; (repeat' first | exact Pv.EvDA.nil | apply Pv.EvDA.cons | exact Pv.EvD.bl | exact Pv.EvD.int | exact Pv.EvD.non | exact Pv.EvD.str | exact Pv.EvD.var (rw_1) | exact Pv.EvD.var (rz_1) | (refine Pv.EvD.cat ?_ ?_ (by first | exact Pv.catle hw (by decide +kernel) | exact Pv.catle' (by decide +kernel) hw)) | apply Pv.EvD.tup | apply Pv.EvD.lst ls1 | apply Pv.EvD.exc TX.ok | exact Pv.EvD.pow ⟨by decide, by decide, by decide⟩ | apply Pv.EvD.neg | (simp; done))
    case l1 => rw [oddp1_len]; decide
    case k1 =>
    intro M1 ws1 G1 T1 m1 g1 q1
    refine cat_use (T1.kp _ _ (fun m => nomatch m) h0) g1 (r0.up T1) q1 (by simp [oddp0_len, oddp1_len]) fun L1 n1 H1 vs1 F1 h1 r1 => ?_
    have E1 := (E0.trans T1).trans F1
    have ls2 := Pg.Lsts.stp ls0 E1
    have rw_2 := rw.up E1
    have rz_2 := rz.up E1
    refine asg_name ?_
    refine op_var rfl ?_
    refine' Pv.EvDA.newl (K := K) (S := [b]) (ds := oddp2 C w ps) ?e2 ?l2 ?k2
    case e2 => unfold oddp2; (repeat' first | exact Pv.EvDA.nil | apply Pv.EvDA.cons | exact Pv.EvD.bl | exact Pv.EvD.int | exact Pv.EvD.non | exact Pv.EvD.str | exact Pv.EvD.var (rw_2) | exact Pv.EvD.var (rz_2) | (refine Pv.EvD.cat ?_ ?_ (by first | exact Pv.catle hw (by decide +kernel) | exact Pv.catle' (by decide +kernel) hw)) | apply Pv.EvD.tup | apply Pv.EvD.lst ls2 | apply Pv.EvD.exc TX.ok | exact Pv.EvD.pow ⟨by decide, by decide, by decide⟩ | apply Pv.EvD.neg | (simp; done))
    case l2 => rw [oddp2_len]; decide
    case k2 =>
    intro M2 ws2 G2 T2 m2 g2 q2
    refine cat_use (T2.kp _ _ (fun m => nomatch m) h1) g2 (r1.up T2) q2 (by simp [oddp0_len, oddp1_len, oddp2_len]) fun L2 n2 H2 vs2 F2 h2 r2 => ?_
    have E2 := (E1.trans T2).trans F2
    have ls3 := Pg.Lsts.stp ls0 E2
    have rw_3 := rw.up E2
    have rz_3 := rz.up E2
    refine asg_name ?_
    refine op_var rfl ?_
    refine' Pv.EvDA.newl (K := K) (S := [b]) (ds := oddp3 C w ps) ?e3 ?l3 ?k3
    case e3 => unfold oddp3; (repeat' first | exact Pv.EvDA.nil | apply Pv.EvDA.cons | exact Pv.EvD.bl | exact Pv.EvD.int | exact Pv.EvD.non | exact Pv.EvD.str | exact Pv.EvD.var (rw_3) | exact Pv.EvD.var (rz_3) | (refine Pv.EvD.cat ?_ ?_ (by first | exact Pv.catle hw (by decide +kernel) | exact Pv.catle' (by decide +kernel) hw)) | apply Pv.EvD.tup | apply Pv.EvD.lst ls3 | apply Pv.EvD.exc TX.ok | exact Pv.EvD.pow ⟨by decide, by decide, by decide⟩ | apply Pv.EvD.neg | (simp; done))
    case l3 => rw [oddp3_len]; decide
    case k3 =>
    intro M3 ws3 G3 T3 m3 g3 q3
    refine cat_use (T3.kp _ _ (fun m => nomatch m) h2) g3 (r2.up T3) q3 (by simp [oddp0_len, oddp1_len, oddp2_len, oddp3_len]) fun L3 n3 H3 vs3 F3 h3 r3 => ?_
    have E3 := (E2.trans T3).trans F3
    have ls4 := Pg.Lsts.stp ls0 E3
    have rw_4 := rw.up E3
    have rz_4 := rz.up E3
    refine asg_name ?_
    refine op_var rfl ?_
    refine' Pv.EvDA.newl (K := K) (S := [b]) (ds := oddp4 C w ps) ?e4 ?l4 ?k4
    case e4 => unfold oddp4; (repeat' first | exact Pv.EvDA.nil | apply Pv.EvDA.cons | exact Pv.EvD.bl | exact Pv.EvD.int | exact Pv.EvD.non | exact Pv.EvD.str | exact Pv.EvD.var (rw_4) | exact Pv.EvD.var (rz_4) | (refine Pv.EvD.cat ?_ ?_ (by first | exact Pv.catle hw (by decide +kernel) | exact Pv.catle' (by decide +kernel) hw)) | apply Pv.EvD.tup | apply Pv.EvD.lst ls4 | apply Pv.EvD.exc TX.ok | exact Pv.EvD.pow ⟨by decide, by decide, by decide⟩ | apply Pv.EvD.neg | (simp; done))
    case l4 => rw [oddp4_len]; decide
    case k4 =>
    intro M4 ws4 G4 T4 m4 g4 q4
    refine cat_use (T4.kp _ _ (fun m => nomatch m) h3) g4 (r3.up T4) q4 (by simp [oddp0_len, oddp1_len, oddp2_len, oddp3_len, oddp4_len]) fun L4 n4 H4 vs4 F4 h4 r4 => ?_
    have E4 := (E3.trans T4).trans F4
    have B1 := B.kp E4 (fun m => nomatch m)
    refine ⟨_, rfl, _, rfl, _, rfl, L4, _, rfl, .inl (SqL.of h4), b, _, _, rfl, B1, by omega, ?_, ?_, fun d H1 d0 d1 o1 B2 => ?_⟩
    · rw [r4.len, show (oddp0 C w ps ++ oddp1 C w ps ++ oddp2 C w ps ++ oddp3 C w ps ++ oddp4 C w ps).length = 31 from rfl]; exact (by decide : (0 : Int) < ((31 : Nat) : Int))
    · rw [r4.len, show (oddp0 C w ps ++ oddp1 C w ps ++ oddp2 C w ps ++ oddp3 C w ps ++ oddp4 C w ps).length = 31 from rfl]; exact (by decide : ((31 : Nat) : Int) < 2 ^ 30)
    · rw [r4.len] at d1
      have S1 := o1.stp (List.mem_singleton.mpr rfl : b ∈ [b])
      have nLb : L4 ∉ [b] := fun m => by
        obtain ⟨x, y, z, hb, _⟩ := B1
        rw [List.mem_singleton.mp m, hb] at h4
        injection h4 with h
        injection h with h
        have := r4.len
        rw [← h, show (oddp0 C w ps ++ oddp1 C w ps ++ oddp2 C w ps ++ oddp3 C w ps ++ oddp4 C w ps).length = 31 from rfl] at this
        exact absurd this (by decide : ¬ 3 = 31)
      obtain ⟨v, e, me, re, ev⟩ := (r4.stp S1 (Pv.bag_ls B1)).pick d0 d1
      exact ⟨L4, _, d, v, rfl, rfl, SqL.of (S1.kp _ _ nLb h4), ev, k v e H1 me (E4.nil.trans S1) B2 re⟩

theorem MonoC.len {K : PySem.W.Frag} : MonoC (fun xs H Q => ∃ p ys, xs = [V.ref p] ∧ (SqL K H p ys ∨ SqT K H p ys) ∧ Q (.int (ys.length : Int)) H) := fun _ _ _ _ h ⟨p, ys, e1, e2, q⟩ => ⟨p, ys, e1, e2, h _ _ q⟩
theorem MonoR.isN : MonoR (fun x y H Q => y = .non ∧ Q (.bl (decide (x = .non))) H) := fun _ _ _ _ _ h ⟨e, q⟩ => ⟨e, h _ _ q⟩
theorem MonoR.neNil {K : PySem.W.Frag} : MonoR (rNeNil K) := fun _ _ _ _ _ h ⟨a, b, xs, e1, e2, n, s1, s2, q⟩ => ⟨a, b, xs, e1, e2, n, s1, s2, h _ _ q⟩
abbrev s__law_bent_span : Stmt := topS 22
abbrev N__law_bent_span : List Str := ["bag", "whole", "way", "ended", "at", "first", "k"]
theorem sc__law_bent_span : FnScope ["bag", "whole", "way", "ended", "at", "first", "k"] ["bag", "whole"] (defScope s__law_bent_span) := ⟨rfl, rfl, rfl, by decide +kernel, rfl, by decide +kernel, by decide +kernel⟩

/-! ### values that are no spans -/
theorem abcB_app (a b : List Nat) : abcB (a ++ b) = (abcB a && abcB b) := by unfold abcB; rw [List.all_append]
theorem oddp_no {C : Addr} {w : Txt} {d : D} (m : d ∈ oddp C w []) : isRng d = false := by
  have irr : ∀ x : Txt, decide (x < x) = false := fun x => decide_eq_false (List.lt_irrefl x)
  have asym : ∀ {x y : Txt}, x < y → decide (y < x) = false := fun h => decide_eq_false fun g => List.lt_irrefl _ (List.lt_trans h g)
  have la : ("a" : Str).cps.toList = [97] := by decide +kernel
  have lb : ("b" : Str).cps.toList = [98] := by decide +kernel
  have lc : ("c" : Str).cps.toList = [99] := by decide +kernel
  have l1 : isRng (.tup [.str w, .str w]) = false := by
    show (abcB w && (abcB w && decide (w < w))) = false
    rw [irr]; simp
  have l2 : isRng (.tup [.str (w ++ ("a" : Str).cps.toList), .str w]) = false := by
    show (_ && (_ && decide (w ++ _ < w))) = false
    rw [la, asym (lt_snoc w 97)]; simp
  have l3 : isRng (.tup [.str w, .str (w ++ ("d" : Str).cps.toList)]) = false := by
    show (_ && (abcB (w ++ _) && _)) = false
    rw [abcB_app, show abcB ("d" : Str).cps.toList = false by decide +kernel]; simp
  have l4 : isRng (.tup [wd "d", .non]) = false := by decide +kernel
  have l5 : isRng (.tup [.str (("A" : Str).cps.toList ++ w), .non]) = false := by
    show (abcB (("A" : Str).cps.toList ++ w) && endOk (("A" : Str).cps.toList ++ w) .non) = false
    rw [abcB_app, show abcB ("A" : Str).cps.toList = false by decide +kernel]; simp
  have l6 : isRng (.tup [.str (w ++ (" " : Str).cps.toList), .non]) = false := by
    show (abcB (w ++ (" " : Str).cps.toList) && endOk (w ++ (" " : Str).cps.toList) .non) = false
    rw [abcB_app, show abcB (" " : Str).cps.toList = false by decide +kernel]; simp
  have l7 : isRng (.tup [wd "", wd ""]) = false := by decide +kernel
  have l8 : isRng (.tup [.str w, .str (w ++ ("a\n" : Str).cps.toList)]) = false := by
    show (_ && (abcB (w ++ _) && _)) = false
    rw [abcB_app, show abcB ("a\n" : Str).cps.toList = false by decide +kernel]; simp
  have l9 : isRng (.tup [.str (("b" : Str).cps.toList ++ w), .str (("a" : Str).cps.toList ++ w)]) = false := by
    show (_ && (_ && decide (_ ++ w < _ ++ w))) = false
    rw [la, lb, asym (show [97] ++ w < [98] ++ w from List.cons_lt_cons_iff.mpr (.inl (by decide)))]; simp
  have l10 : isRng (.tup [.str (w ++ ("c" : Str).cps.toList), .str (w ++ ("b" : Str).cps.toList)]) = false := by
    show (_ && (_ && decide (w ++ _ < w ++ _))) = false
    rw [lb, lc, asym (lt_pre w [] [] 98 99 (by decide))]; simp
  have l11 : isRng (.tup [.str (w ++ ("ab" : Str).cps.toList), .str (w ++ ("aab" : Str).cps.toList)]) = false := by
    show (_ && (_ && decide (w ++ _ < w ++ _))) = false
    have e1 : w ++ ("ab" : Str).cps.toList = (w ++ [97]) ++ 98 :: [] := by rw [show ("ab" : Str).cps.toList = [97, 98] by decide +kernel]; simp
    have e2 : w ++ ("aab" : Str).cps.toList = (w ++ [97]) ++ 97 :: [98] := by rw [show ("aab" : Str).cps.toList = [97, 97, 98] by decide +kernel]; simp
    rw [e1, e2, asym (lt_pre (w ++ [97]) [98] [] 97 98 (by decide))]; simp
  have l12 : isRng (.tup [.str w, .lst [.str (w ++ ("a" : Str).cps.toList)]]) = false := by
    show (abcB w && false) = false
    simp
  have l13 : isRng (.tup [.str w, .int 0]) = false := by show (abcB w && false) = false; simp
  have l14 : ∀ b, isRng (.tup [.str w, .bl b]) = false := fun b => by show (abcB w && false) = false; simp
  have l15 : isRng (.tup [.str w, .tup []]) = false := by show (abcB w && false) = false; simp
  rcases List.mem_append.mp m with m | m
  · rcases List.mem_append.mp m with m | m
    · rcases List.mem_append.mp m with m | m
      · rcases List.mem_append.mp m with m | m
        · simp only [oddp0, List.mem_cons, List.not_mem_nil, or_false] at m
          rcases m with rfl | rfl | rfl | rfl | rfl | rfl | rfl | rfl | rfl | rfl <;> first | rfl | exact l1 | exact l2
        · simp only [oddp1, List.mem_cons, List.not_mem_nil, or_false] at m
          rcases m with rfl | rfl | rfl | rfl | rfl | rfl | rfl <;> first | exact l3 | exact l4 | exact l13 | exact l14 _ | rfl
      · simp only [oddp2, List.mem_cons, List.not_mem_nil, or_false] at m
        rcases m with rfl | rfl | rfl | rfl | rfl | rfl <;> first | exact l5 | exact l12 | exact l15 | exact l14 _ | rfl
    · simp only [oddp3, List.mem_cons, List.not_mem_nil, or_false] at m
      rcases m with rfl | rfl | rfl | rfl | rfl <;> first | exact l6 | exact l7 | exact l8 | rfl
  · simp only [oddp4, List.mem_cons, List.not_mem_nil, or_false] at m
    rcases m with rfl | rfl | rfl <;> first | exact l9 | exact l10 | exact l11
theorem adj_bad {a b : D} (h : gapD a b = false) : ∀ (l r : List D), adj (l ++ a :: b :: r) = false
  | [], r => by
    show (gapD a b && _) = false
    rw [h]; rfl
  | [x], r => by
    show (gapD x a && adj (a :: b :: r)) = false
    rw [show adj (a :: b :: r) = false from adj_bad h [] r, Bool.and_false]
  | x :: y :: l, r => by
    show (gapD x y && adj (y :: l ++ a :: b :: r)) = false
    rw [adj_bad h (y :: l) r, Bool.and_false]
theorem spn_bad {a b : D} {ds l r : List D} (h : gapD a b = false) (e : ds = l ++ a :: b :: r) : isSpn (.tup ds) = false := by
  show (ds.all isRng && adj ds) = false
  rw [e, adj_bad h, Bool.and_false]
theorem spn_odd {a : D} {ds l r : List D} (h : isRng a = false) (e : ds = l ++ a :: r) : isSpn (.tup ds) = false := by
  show (ds.all isRng && adj ds) = false
  rw [show ds.all isRng = false from List.all_eq_false.mpr ⟨a, by rw [e]; simp, by rw [h]; simp⟩]
  rfl
theorem spn_rng {ds : List D} {d : D} (m : d ∈ ds) (h : isRng d = false) : isSpn (.tup ds) = false := by
  show (ds.all isRng && adj ds) = false
  rw [show ds.all isRng = false from List.all_eq_false.mpr ⟨d, m, by rw [h]; simp⟩]
  rfl
theorem gap_self {p : Pr} (h : PrOk p) : gapD (prV p) (prV p) = false := by
  rw [gapD_pr]
  obtain ⟨f, e⟩ := p
  cases e with
  | none => rfl
  | some e =>
    have lt : f < e := (h.2 e rfl).2
    show (!(!decide (e < f))) = false
    rw [decide_eq_false fun g => List.lt_irrefl _ (List.lt_trans lt g)]
    rfl
theorem rev_bad : ∀ {ps : List Pr}, 1 < ps.length → SpOk ps → isSpn (.tup (ps.map prV).reverse) = false
  | p0 :: p1 :: rest, _, so => by
    refine spn_bad (l := (rest.map prV).reverse) (a := prV p1) (b := prV p0) (r := []) ?_ (by simp)
    rw [gapD_pr]
    obtain ⟨e', he', lt⟩ := (List.pairwise_cons.mp so.gap).1 p1 List.mem_cons_self
    have ok0 := so.ok p0 List.mem_cons_self
    have ok1 := so.ok p1 (List.mem_cons_of_mem _ List.mem_cons_self)
    have l0 := (ok0.2 e' he').2
    cases h2 : p1.2 with
    | none => rfl
    | some e2 =>
      have l1 := (ok1.2 e2 h2).2
      show (!(!decide (e2 < p0.1))) = false
      rw [decide_eq_false fun g => List.lt_irrefl _ (List.lt_trans l0 (List.lt_trans lt (List.lt_trans l1 g)))]
      rfl
theorem upT1 {K : PySem.W.Frag} {S : List Addr} {H : Hp} {ds : List D} {a : Addr} {xs : List V} {n : Nat} {Q : VK} (ha : SqT K H a xs) (ra : RvL K S H xs ds) (k : ∀ p zs H', Stp [] H H' → SqT K H' p zs → RvL K S H' zs (ds.take (n + 1)) → Q (.ref p) H') : rSlA K (.ref a) none (some ((n : Int) + 1)) H Q :=
  Pv.upT (n := n + 1) ha ra k
def spBent (K : PySem.W.Frag) : Sp := fun vs H Q _ => ∃ (b a : Addr) (n : Nat) (ps : List Pr), vs = [.ref b, .ref a] ∧ Spn K H a ps ∧ ps.length ≤ 20 ∧ Bag H b n ∧ n + 10 < 2 ^ 30 ∧
  ∀ v d H', isSpn d = false → SmallT d → Stp [b] H H' → Bag H' b (n + 2) → Rv K [b] H' v d → Q v H'
theorem cl__law_bent_span {f : Addr} {fd : FuncData} (Dh : Df K mg "_law_bent_span" s__law_bent_span ["bag", "whole"] f fd) (T : Nm mg) (c__law_draw : Cl P w K mg base 1 "_law_draw" s__law_draw ["bag", "upto"] spDraw) : Cl P w K mg base 2 "_law_bent_span" s__law_bent_span ["bag", "whole"] (spBent K) := by
  refine Dh.cl sc__law_bent_span (fun vs H Q E h => ?_) (fun cdv A outer s H vs Q E hr h => ?_)
  · obtain ⟨b, a, n, ps, rfl, _⟩ := h
    rfl
  · obtain ⟨b, a, n, ps, rfl, sp, few, B, hn, k⟩ := h
    refine ⟨_, (pss_cons (ps_set (i := 2) sc__law_bent_span.nd rfl (by first | exact Or.inl rfl | exact Or.inr rfl) (pe_cl c__law_draw hr (by omega) (pa_cons (pv 0) (pa_cons pe_int pa_nil))))
      (pss_cons (ps_setLc (i := 3) (own := [("k", 6)]) rfl sc__law_bent_span.nd rfl rfl (sw_true rfl rfl rfl (by decide +kernel)) (pi_range1 (by rfl) T.n_range (pa_cons (pe_callB call_len_seq (by rfl) T.n_len (by decide +kernel) (pa_cons (pv 1) pa_nil)) pa_nil)) (blkOk_by (own := [("k", 6)]) (N := N__law_bent_span) (sc := defScope s__law_bent_span) (by decide +kernel)) (fun _ _ _ _ _ => (pg_name (i := 6) sc__law_bent_span.nd rfl (by first | exact Or.inl rfl | exact Or.inr rfl))) (fun _ _ _ _ _ => (pts_one (pt_cmpR op_notN (pe_ix (ix_tupK rfl) (pe_ix (ix_tupK rfl) (pv 1) (pv 6) (fun _ _ => rfl)) pe_int (fun _ _ => rfl)) pe_non (by first | exact nomark _ | rfl)))) (fun _ _ _ _ _ => (pv 6)))
      (pss_cons (ps_set (i := 4) sc__law_bent_span.nd rfl (by first | exact Or.inl rfl | exact Or.inr rfl) (pe_cl c__law_draw hr (by omega) (pa_cons (pv 0) (pa_cons (pe_callB (call_max2 rfl) (by rfl) T.n_max (by decide +kernel) (pa_cons pe_int (pa_cons (pe_callB call_len_seq (by rfl) T.n_len (by decide +kernel) (pa_cons (pv 1) pa_nil)) pa_nil))) pa_nil))))
      (pss_cons (ps_if (PW.pt (pw_or (pt_cmpR (Pv.op_eqNilT hr.units) (pv 1) (pe_tup pa_nil) (by first | exact nomark _ | rfl)) (pw_or1 (pt_cmpR op_eq (pv 2) pe_int (by first | exact nomark _ | rfl))))) (pss_one (ps_ret (pe_callTy call_list_of (by rfl) T.n_list (by decide +kernel) (pa_cons (pv 1) pa_nil)))) pss_nil)
      (pss_cons (ps_if (pt_cmpR op_eq (pv 2) pe_int (by first | exact nomark _ | rfl)) (pss_one (ps_ret (pe_op op_catA (pe_slice sl_tupA (pv 1) po_none (po_some (pe_op op_add (pv 4) pe_int))) (pe_slice sl_tupA (pv 1) (po_some (pv 4)) po_none)))) pss_nil)
      (pss_cons (ps_if (PW.pt (pw_and (pt_cmpR op_eq (pv 2) pe_int (by first | exact nomark _ | rfl)) (pw_and1 (pt_cmpR op_gt (pe_callB call_len_seq (by rfl) T.n_len (by decide +kernel) (pa_cons (pv 1) pa_nil)) pe_int (by first | exact nomark _ | rfl))))) (pss_one (ps_ret (Pg.pe_revT (pv 1)))) pss_nil)
      (pss_cons (ps_if (PW.pt (pw_and (pt_cmpR op_eq (pv 2) pe_int (by first | exact nomark _ | rfl)) (pw_and1 (pt_cmpR (Pv.op_neNil hr.units) (pv 3) (pe_lst pa_nil) (by first | exact nomark _ | rfl))))) (pss_cons (ps_set (i := 4) sc__law_bent_span.nd rfl (by first | exact Or.inl rfl | exact Or.inr rfl) (pe_ix ix_list (pv 3) (pe_op op_mod (pe_callTy call_int1 (by rfl) T.n_int (by decide +kernel) (pa_cons (pv 4) pa_nil)) (pe_callB call_len_seq (by rfl) T.n_len (by decide +kernel) (pa_cons (pv 3) pa_nil))) (fun _ _ => rfl)))
      (pss_one (ps_ret (pe_op op_catA (pe_op op_catA (pe_slice sl_tupA (pv 1) po_none (po_some (pv 4))) (pe_tup (pa_cons (pe_tup (pa_cons (pe_ix ix_tup (pe_ix ix_tup (pv 1) (pv 4) (fun _ _ => rfl)) pe_int (fun _ _ => rfl)) (pa_cons (pe_ix ix_tup (pe_ix ix_tup (pv 1) (pv 4) (fun _ _ => rfl)) pe_int (fun _ _ => rfl)) pa_nil))) pa_nil))) (pe_slice sl_tupA (pv 1) (po_some (pe_op op_add (pv 4) pe_int)) po_none))))) pss_nil)
      (pss_cons (ps_if (PW.pt (pw_and (pt_cmpR op_gt (pv 2) pe_int (by first | exact nomark _ | rfl)) (pw_and1 (pt_cmpR op_gt (pe_callB call_len_seq (by rfl) T.n_len (by decide +kernel) (pa_cons (pv 1) pa_nil)) pe_int (by first | exact nomark _ | rfl))))) (pss_cons (ps_set (i := 4) sc__law_bent_span.nd rfl (by first | exact Or.inl rfl | exact Or.inr rfl) (pe_callB (call_min2 rfl) (by rfl) T.n_min (by decide +kernel) (pa_cons (pe_callTy call_int1 (by rfl) T.n_int (by decide +kernel) (pa_cons (pv 4) pa_nil)) (pa_cons (pe_op op_sub (pe_callB call_len_seq (by rfl) T.n_len (by decide +kernel) (pa_cons (pv 1) pa_nil)) pe_int) pa_nil))))
      (pss_one (ps_ret (pe_op op_catA (pe_op op_catA (pe_slice sl_tupA (pv 1) po_none (po_some (pv 4))) (pe_tup (pa_cons (pe_tup (pa_cons (pe_ix ix_tup (pe_ix ix_tup (pv 1) (pv 4) (fun _ _ => rfl)) pe_int (fun _ _ => rfl)) (pa_cons (pe_op op_add_str (pe_ix ix_tup (pe_ix ix_tup (pv 1) (pe_op op_add (pv 4) pe_int) (fun _ _ => rfl)) pe_int (fun _ _ => rfl)) pe_str) pa_nil))) pa_nil))) (pe_slice sl_tupA (pv 1) (po_some (pe_op op_add (pv 4) pe_int)) po_none))))) pss_nil)
      (pss_cons (ps_set (i := 5) sc__law_bent_span.nd rfl (by first | exact Or.inl rfl | exact Or.inr rfl) (pe_ix ix_tup (pe_ix ix_tup (pv 1) (pv 4) (fun _ _ => rfl)) pe_int (fun _ _ => rfl)))
      (pss_one (ps_ret (pe_op op_catA (pe_op op_catA (pe_slice sl_tupA (pv 1) po_none (po_some (pv 4))) (pe_tup (pa_cons (pe_tup (pa_cons (pv 5) (pa_cons (pe_op op_add_str (pv 5) pe_str) pa_nil))) (pa_cons (pe_tup (pa_cons (pe_op op_add_str (pv 5) pe_str) (pa_cons (pe_ix ix_tup (pe_ix ix_tup (pv 1) (pv 4) (fun _ _ => rfl)) pe_int (fun _ _ => rfl)) pa_nil))) pa_nil)))) (pe_slice sl_tupA (pv 1) (po_some (pe_op op_add (pv 4) pe_int)) po_none))))))))))))), ?_⟩
    have nn : ∀ {x : Addr}, x ∉ ([] : List Addr) := fun m => nomatch m
    have one : b ∈ [b] := List.mem_singleton.mpr rfl
    have ok := sp.ok.ok
    refine ⟨_, rfl, b, 6, n, rfl, B, by omega, by decide, by decide, fun way H1 w0 w1 o1 B1 => ?_⟩
    have S1 : Stp [b] H H1 := o1.stp one
    have sp1 := sp.stp S1 (Pv.bag_ls B)
    obtain ⟨⟨xs, hs1, rl1⟩, _, _⟩ := id sp1
    have lx : xs.length = ps.length := by rw [rl1.len, List.length_map]
    have at_ : ∀ {H' : Hp} {i : Nat} {p : Pr}, Stp [] H1 H' → ps[i]? = some p → ∃ t, xs[i]? = some (.ref t) ∧ SqT K H' t [Tx p.1, oV p.2] := fun {H' i p} S' hp => by
      have hi : i < xs.length := by rw [lx]; exact (List.getElem?_eq_some_iff.mp hp).1
      obtain ⟨q, hq, t, et, ht⟩ := prs_get rl1 (List.getElem?_eq_getElem hi)
      rw [hp] at hq
      cases hq
      exact ⟨t, by rw [List.getElem?_eq_getElem hi, et], sqt_stp S' Lsts.nil ht⟩
    -- ended
    refine ⟨_, rfl, a, _, rfl, .inr hs1, _, rfl, by omega, by omega, fun L nL => ?_⟩
    refine lc_range (lo := 0) (n := xs.length) (fun i H' => ∃ is : List Nat, H' L = some (.lst (is.map fun (j : Nat) => V.int (j : Int))) ∧ is.length ≤ i ∧ (∀ j ∈ is, ∃ f e, ps[j]? = some (f, some e)) ∧ Stp [] H1 H')
      ⟨[], upd_same, Nat.le_refl _, fun _ m => (nomatch m), Stp.new nL _⟩ ?_ ?_
    · rintro i H' hi ⟨is, hL, il, isok, S'⟩
      have hi' : i < ps.length := by rw [← lx]; exact hi
      have hp : ps[i]? = some ps[i] := List.getElem?_eq_getElem hi'
      generalize ps[i] = p at hp
      obtain ⟨t, hx, ht⟩ := at_ S' hp
      have hxi : atI xs ((0 : Int) + (i : Int)) = some (.ref t) := by rw [Int.zero_add]; exact atI_nat hx
      refine ⟨rfl, _, rfl, _, rfl, a, _, _, .ref t, rfl, rfl, sqt_stp S' Lsts.nil hs1, hxi, t, _, 1, oV p.2, rfl, rfl, ht, at1, rfl, _, rfl, ?_⟩
      obtain ⟨f1, e1⟩ := p
      cases e1 with
      | none => exact ite2 (fun h => absurd h (by simp [oV])) (fun _ => ⟨is, hL, by omega, isok, S'⟩)
      | some e1 =>
        refine ite2 (fun _ => ?_) (fun h => absurd (by simp [oV]) h)
        refine ⟨_, rfl, _, hL, by rw [List.length_map]; exact Nat.lt_of_le_of_lt (show is.length ≤ 100 by omega) (by decide), is ++ [i], ?_, by simp; omega, fun j m => ?_, S'.mut nL⟩
        · rw [upd_same, List.map_append, Int.zero_add]
          rfl
        · rcases List.mem_append.mp m with m | m
          · exact isok j m
          · rw [List.mem_singleton.mp m]; exact ⟨f1, e1, hp⟩
    rintro H2 ⟨is, hL2, il, isok, S2⟩
    have S12 := S1.trans S2.nil
    have B2 := B1.kp S2 nn
    have hs2 := sqt_stp S2 Lsts.nil hs1
    have Lb : L ≠ b := fun e => by
      obtain ⟨z1, z2, z3, hb, _⟩ := B1
      rw [← e, nL] at hb
      cases hb
    -- at
    refine ⟨_, rfl, _, rfl, a, _, rfl, .inr hs2, _, _, rfl, ?_⟩
    obtain ⟨mm, emm, m1, m2⟩ : ∃ mm : Int, mm = (if (xs.length : Int) > 1 then (xs.length : Int) else 1) ∧ (1 ≤ mm ∧ mm ≤ 100) ∧ (0 < ps.length → mm = ps.length) := ⟨_, rfl, by rw [lx]; split <;> omega, by rw [lx]; intro; split <;> omega⟩
    rw [← emm]
    refine ⟨b, mm, _, rfl, B2, by omega, by omega, by omega, fun e H3 e0 e1 o3 B3 => ?_⟩
    obtain ⟨e, rfl⟩ := Int.eq_ofNat_of_zero_le e0
    have S3 : Stp [b] H H3 := S12.trans (o3.stp one)
    have hs3 := sqt_stp (o3.stp one) (Pv.bag_ls B2) hs2
    have hL3 := o3.at hL2 Lb
    have sp3 := sp.stp S3 (Pv.bag_ls B)
    have rv3 : RvL K [b] H3 xs (ps.map prV) := by
      obtain ⟨⟨xs', hs', rl'⟩, _, _⟩ := id sp3
      have := (sp1.stp (S2.nil.trans (o3.stp one)) (Pv.bag_ls B1)).ex
      exact rps_rv ((rl1.stp S2 Lsts.nil).stp (o3.stp one) (Pv.bag_ls B2)) fun p m => (ok p m).s
    have at3 : ∀ {i : Nat} {p : Pr}, ps[i]? = some p → ∃ t, xs[i]? = some (.ref t) ∧ SqT K H3 t [Tx p.1, oV p.2] := fun {i p} hp => by
      obtain ⟨t, h1, h2⟩ := at_ (Stp.refl _ _) hp
      exact ⟨t, h1, sqt_stp (o3.stp one) (Pv.bag_ls B2) (sqt_stp S2 Lsts.nil h2)⟩
    have small : ∀ {ds : List D}, ds.length ≤ 200 → SmallT (.tup ds) := fun h => by show _ ≤ 5000; omega
    have fin : ∀ {v : V} {d : D} {H' : Hp}, Stp [] H3 H' → isSpn d = false → SmallT d → Rv K [b] H' v d → Q v H' := fun S' h1 h2 r => k _ _ _ h1 h2 (S3.trans S'.nil) (B3.kp S' nn) r
    have asL : ∀ H', Stp [] H3 H' → tRet (tCB (fun xs H Q => ∃ p ys, xs = [.ref p] ∧ (SqL K H p ys ∨ SqT K H p ys) ∧ ∀ l, H l = none → Q (.ref l) (upd H l (.lst ys))) (tCons (tVar 1) tNil)) { nx := fun _ H' => Q .non H', rt := Q } [some (.ref b), some (.ref a), some (.int way), some (.ref L), some (.int (e : Int)), none, none] H' := fun H' S' =>
      ⟨_, rfl, a, _, rfl, .inr (sqt_stp S' Lsts.nil hs3), fun l nl => fin (d := .lst (ps.map prV)) (S'.new' nl) rfl trivial (Rv.newL (Pv.bag_ls (B3.kp S' nn)) nl (rv3.up S') (by rw [List.length_map]; omega))⟩
    refine ⟨_, rfl, Nat.zero_le _, fun q nq => ?_⟩
    have S4 : Stp [] H3 (upd H3 q (.tup [])) := Stp.new nq _
    refine ⟨a, q, _, rfl, rfl, sqt_stp S4 Lsts.nil hs3, SqT.of upd_same, _, rfl, ite2 (fun h => asL _ S4) (fun h => ?_)⟩
    generalize upd H3 q (.tup []) = H4 at *
    have pos : 0 < ps.length := by
      rw [← lx]
      cases xs with
      | nil => exact absurd rfl h
      | cons _ _ => simp
    have hmm := m2 pos
    have he : e < ps.length := by omega
    refine ⟨_, rfl, rfl, _, rfl, ite2 (fun h => asL _ S4) (fun h => ?_)⟩
    have hs4 := sqt_stp S4 Lsts.nil hs3
    have rv4 := rv3.up S4
    have lm : (ps.map prV).length ≤ 20 := by rw [List.length_map]; exact few
    obtain ⟨p, hp⟩ : ∃ p, ps[e]? = some p := ⟨ps[e], List.getElem?_eq_getElem he⟩
    have okp := ok p (List.mem_of_getElem? hp)
    have hpv : (ps.map prV)[e]? = some (prV p) := by rw [List.getElem?_map, hp]; rfl
    have cut : ps.map prV = (ps.map prV).take e ++ prV p :: (ps.map prV).drop (e + 1) := by
      conv => lhs; rw [← List.take_append_drop e (ps.map prV)]
      rw [List.drop_eq_getElem_cons (by rw [List.length_map]; exact he)]
      congr 2
      exact Option.some.inj ((List.getElem?_eq_getElem (by rw [List.length_map]; exact he)).symm.trans hpv)
    -- one twice
    refine ⟨_, rfl, rfl, _, rfl, ite2 (fun h => ?_) (fun h => ?_)⟩
    · refine ⟨_, rfl, _, rfl, _, _, rfl, rfl, _, rfl, upT1 hs4 rv4 fun q1 z1 H5 S5 h5 r5 => ?_⟩
      refine ⟨_, rfl, _, rfl, _, rfl, nopart (Pv.fromT (sqt_stp S5 Lsts.nil hs4) (rv4.up S5) fun q2 z2 H6 S6 h6 r6 => ?_)⟩
      refine Pv.catT (sqt_stp S6 Lsts.nil h5) h6 (r5.up S6) r6 (by simp; omega) fun q3 z3 H7 S7 h7 r7 => ?_
      refine fin (((S4.trans S5).trans S6).trans S7) (spn_bad (l := (ps.map prV).take e) (a := prV p) (b := prV p) (r := (ps.map prV).drop (e + 1)) (gap_self okp) ?_) (small (by simp; omega)) (.tup h7 (by rw [r7.len]; simp; omega) r7)
      have e1 : (ps.map prV).take (e + 1) = (ps.map prV).take e ++ [prV p] := by rw [List.take_add_one, hpv]; rfl
      have e2 : (ps.map prV).drop e = prV p :: (ps.map prV).drop (e + 1) := by
        have := congrArg (List.drop e) cut
        rw [List.drop_left' (by rw [List.length_take]; simp; omega)] at this
        exact this
      rw [e1, e2]
      simp
    -- turned about
    dsimp only [tNext, tSeq, tIfS]
    refine MonoT.cut (t := tAnd _ _) (MonoT.and (MonoT.test (Mono.op' MonoR.eq Mono.var Mono.c)) (MonoT.test (Mono.op' MonoR.i0 (Mono.cb MonoC.len (MonoA.cons Mono.var MonoA.nil)) Mono.c))) (fun t H9 => H9 = H4 ∧ (t = true → 1 < ps.length)) ?_ ?_
    · refine ⟨_, rfl, rfl, _, rfl, ite2 (fun h => ?_) (fun h => ?_)⟩
      · refine ⟨_, rfl, a, _, rfl, .inr hs4, _, _, rfl, rfl, _, rfl, rfl, fun q => ?_⟩
        have := of_decide_eq_true q
        rw [lx] at this
        omega
      · exact ⟨rfl, fun e => nomatch e⟩
    rintro t H9 ⟨e9, ht⟩
    rw [e9]
    refine ite2 (fun h => ?_) (fun h => ?_)
    · have h1 := ht h
      refine ⟨_, rfl, a, _, rfl, hs4, fun q1 nq1 => ?_⟩
      refine fin (S4.new' nq1) ?_ (small (by rw [List.length_reverse]; omega)) (Rv.newT nq1 rv4.rev (by rw [List.length_reverse]; omega))
      exact rev_bad h1 sp.ok
    -- its ends exchanged
    have hL4 := S4.kp _ _ nn hL3
    try dsimp only [tNext, tSeq, tIfS]
    refine MonoT.cut (t := tAnd _ _) (MonoT.and (MonoT.test (Mono.op' MonoR.eq Mono.var Mono.c)) (MonoT.test (Mono.op' MonoR.neNil Mono.var (Mono.lst MonoA.nil)))) (fun t H9 => Stp [] H4 H9 ∧ (t = true → is ≠ [])) ?_ ?_
    · refine ⟨_, rfl, rfl, _, rfl, ite2 (fun h => ?_) (fun h => ?_)⟩
      · refine ⟨_, rfl, Nat.zero_le _, fun q nq => ?_⟩
        refine ⟨L, q, _, rfl, rfl, ne_of_none hL4 nq, SqL.of ((Stp.new nq _ : Stp [] _ _).kp _ _ nn hL4), SqL.of upd_same, _, rfl, Stp.new nq _, fun z e => ?_⟩
        rw [e] at z
        exact absurd z (by decide)
      · exact ⟨Stp.refl _ _, fun e => nomatch e⟩
    rintro t5 H5 ⟨S5, ht5⟩
    have hs5 := sqt_stp S5 Lsts.nil hs4
    have rv5 := rv4.up S5
    have S45 := S4.trans S5
    have at5 : ∀ {H' : Hp} {i : Nat} {p : Pr}, Stp [] H5 H' → ps[i]? = some p → ∃ t, xs[i]? = some (.ref t) ∧ SqT K H' t [Tx p.1, oV p.2] := fun {H' i p} S' hp => by
      obtain ⟨t, h1, h2⟩ := at3 hp
      exact ⟨t, h1, sqt_stp (S45.trans S') Lsts.nil h2⟩
    refine ite2 (fun h => ?_) (fun h => ?_)
    · have hne := ht5 h
      have hL5 := S5.kp _ _ nn hL4
      have ipos : 0 < is.length := List.length_pos_iff.mpr hne
      have em : 0 ≤ (e : Int) % (is.length : Int) := Int.emod_nonneg _ (by omega)
      have em2 : (e : Int) % (is.length : Int) < (is.length : Int) := Int.emod_lt_of_pos _ (by omega)
      obtain ⟨j, ej⟩ := Int.eq_ofNat_of_zero_le em
      have hj : j < is.length := by omega
      refine ⟨_, rfl, _, rfl, .inl ⟨_, rfl, _, rfl, L, _, rfl, .inl (SqL.of hL5), _, _, rfl, rfl, by rw [List.length_map]; omega, L, _, _, .int (is[j] : Int), rfl, rfl, SqL.of hL5, ?_, ?_⟩⟩
      · rw [List.length_map, ej]
        exact atI_nat (by rw [List.getElem?_map, List.getElem?_eq_getElem hj]; rfl)
      obtain ⟨f1, e1, hpj⟩ := isok is[j] (List.getElem_mem hj)
      generalize is[j] = i at *
      have okj := ok _ (List.mem_of_getElem? hpj)
      have hil : i < ps.length := (List.getElem?_eq_some_iff.mp hpj).1
      refine ⟨_, rfl, _, rfl, _, rfl, Pv.upT hs5 rv5 fun q1 z1 H6 S6 h6 r6 => ?_⟩
      obtain ⟨t, hx, ht⟩ := at5 S6 hpj
      have hs6 := sqt_stp S6 Lsts.nil hs5
      have ht' : SqT K H6 t [Tx f1, Tx e1] := ht
      refine ⟨_, rfl, _, rfl, a, _, _, .ref t, rfl, rfl, hs6, atI_nat hx, t, _, 1, Tx e1, rfl, rfl, ht', at1, ?_⟩
      refine ⟨_, rfl, _, rfl, a, _, _, .ref t, rfl, rfl, hs6, atI_nat hx, t, _, 0, Tx f1, rfl, rfl, ht', at0, ?_⟩
      refine ⟨(by show 2 ≤ sizeLine; decide), fun q2 nq2 => ⟨(by show 1 ≤ sizeLine; decide), fun q3 nq3 => ?_⟩⟩
      have l1 := (okj.2 e1 rfl).1.2
      have l2 := okj.1.2
      have S7 : Stp [] H6 (upd H6 q2 (.tup [Tx e1, Tx f1])) := Stp.new nq2 _
      have r2 : Rv K [b] (upd H6 q2 (.tup [Tx e1, Tx f1])) (.ref q2) (prV (e1, some f1)) := Rv.newT nq2 (.cons (.str _ (by omega)) (.cons (.str _ (show f1.length ≤ 100000 by have : f1.length ≤ 12 := l2; omega)) .nil)) (by simp)
      generalize upd H6 q2 (.tup [Tx e1, Tx f1]) = H7 at *
      have S8 : Stp [] H7 (upd H7 q3 (.tup [.ref q2])) := Stp.new nq3 _
      have h8 : SqT K (upd H7 q3 (.tup [.ref q2])) q3 [.ref q2] := SqT.of upd_same
      have S68 := S7.trans S8
      have r8 : RvL K [b] (upd H7 q3 (.tup [.ref q2])) [.ref q2] [prV (e1, some f1)] := .cons (r2.up S8) .nil
      generalize upd H7 q3 (.tup [.ref q2]) = H8 at *
      refine Pv.catT (sqt_stp S68 Lsts.nil h6) h8 (r6.up S68) r8 (by simp; omega) fun q4 z4 H9 S9 h9 r9 => ?_
      have S59 := (S6.trans S68).trans S9
      refine ⟨_, rfl, _, rfl, _, _, rfl, rfl, _, rfl, nopart (Pv.fromT1 (sqt_stp S59 Lsts.nil hs5) (rv5.up S59) fun q5 z5 HA SA hA rA => ?_)⟩
      refine Pv.catT (sqt_stp SA Lsts.nil h9) hA (r9.up SA) rA (by simp; omega) fun q6 z6 HB SB hB rB => ?_
      refine fin (((S45.trans S59).trans SA).trans SB) (spn_odd (a := prV (e1, some f1)) (l := (ps.map prV).take i) (r := (ps.map prV).drop (i + 1)) ?_ (by simp)) (small (by simp; omega)) (.tup hB (by rw [rB.len]; simp; omega) rB)
      show (abcB e1 && (abcB f1 && decide (e1 < f1))) = false
      rw [decide_eq_false fun g => List.lt_irrefl _ (List.lt_trans (okj.2 e1 rfl).2 g)]
      simp
    -- into the next one
    try dsimp only [tNext, tSeq, tIfS]
    refine MonoT.cut (t := tAnd _ _) (MonoT.and (MonoT.test (Mono.op' MonoR.i0 Mono.var Mono.c)) (MonoT.test (Mono.op' MonoR.i0 (Mono.cb MonoC.len (MonoA.cons Mono.var MonoA.nil)) Mono.c))) (fun t H9 => H9 = H5 ∧ (t = true → 1 < ps.length)) ?_ ?_
    · refine ⟨_, rfl, _, _, rfl, rfl, _, rfl, ite2 (fun h => ?_) (fun h => ?_)⟩
      · refine ⟨_, rfl, a, _, rfl, .inr hs5, _, _, rfl, rfl, _, rfl, rfl, fun q => ?_⟩
        have := of_decide_eq_true q
        rw [lx] at this
        omega
      · exact ⟨rfl, fun e => nomatch e⟩
    rintro t6 H9 ⟨e9, ht6⟩
    rw [e9]
    refine ite2 (fun h => ?_) (fun h => ?_)
    · have h1 := ht6 h
      refine ⟨_, rfl, .inl ⟨_, rfl, _, rfl, a, _, rfl, .inr hs5, _, _, rfl, rfl, _, _, rfl, ?_⟩⟩
      obtain ⟨j, ej, hj1⟩ : ∃ j : Nat, (if (xs.length : Int) - 2 < (e : Int) then (xs.length : Int) - 2 else (e : Int)) = (j : Int) ∧ j + 1 < ps.length := by
        rw [lx]
        split
        · exact ⟨ps.length - 2, by omega, by omega⟩
        · exact ⟨e, rfl, by omega⟩
      rw [ej]
      obtain ⟨p1, hp1⟩ : ∃ p, ps[j]? = some p := ⟨ps[j], List.getElem?_eq_getElem (by omega)⟩
      obtain ⟨p2, hp2⟩ : ∃ p, ps[j + 1]? = some p := ⟨ps[j + 1], List.getElem?_eq_getElem hj1⟩
      have l1 := (ok _ (List.mem_of_getElem? hp1)).1.2
      have l2 := (ok _ (List.mem_of_getElem? hp2)).1.2
      refine ⟨_, rfl, _, rfl, _, rfl, Pv.upT hs5 rv5 fun q1 z1 H6 S6 h6 r6 => ?_⟩
      obtain ⟨t, hx, ht⟩ := at5 S6 hp1
      obtain ⟨t2, hx2, ht2⟩ := at5 S6 hp2
      have hs6 := sqt_stp S6 Lsts.nil hs5
      refine ⟨_, rfl, _, rfl, a, _, _, .ref t, rfl, rfl, hs6, atI_nat hx, t, _, 0, Tx p1.1, rfl, rfl, ht, at0, ?_⟩
      refine ⟨_, rfl, _, rfl, _, _, rfl, rfl, a, _, _, .ref t2, rfl, rfl, hs6, atI_nat (j := j + 1) hx2, t2, _, 0, Tx p2.1, rfl, rfl, ht2, at0, tx p2.1, tx [97], rfl, congrArg V.str a_lit, (by rw [tx_len, tx_len]; exact sz (by simp; omega)), ?_⟩
      rw [tx_app]
      refine ⟨(by show 2 ≤ sizeLine; decide), fun q2 nq2 => ⟨(by show 1 ≤ sizeLine; decide), fun q3 nq3 => ?_⟩⟩
      have S7 : Stp [] H6 (upd H6 q2 (.tup [Tx p1.1, Tx (p2.1 ++ [97])])) := Stp.new nq2 _
      have r2 : Rv K [b] (upd H6 q2 (.tup [Tx p1.1, Tx (p2.1 ++ [97])])) (.ref q2) (prV (p1.1, some (p2.1 ++ [97]))) := Rv.newT nq2 (.cons (.str _ (by omega)) (.cons (.str _ (by rw [List.length_append]; simp; omega)) .nil)) (by simp)
      generalize upd H6 q2 (.tup [Tx p1.1, Tx (p2.1 ++ [97])]) = H7 at *
      have S8 : Stp [] H7 (upd H7 q3 (.tup [.ref q2])) := Stp.new nq3 _
      have h8 : SqT K (upd H7 q3 (.tup [.ref q2])) q3 [.ref q2] := SqT.of upd_same
      have S68 := S7.trans S8
      have r8 : RvL K [b] (upd H7 q3 (.tup [.ref q2])) [.ref q2] [prV (p1.1, some (p2.1 ++ [97]))] := .cons (r2.up S8) .nil
      generalize upd H7 q3 (.tup [.ref q2]) = H8 at *
      refine Pv.catT (sqt_stp S68 Lsts.nil h6) h8 (r6.up S68) r8 (by simp; omega) fun q4 z4 H9 S9 h9 r9 => ?_
      have S59 := (S6.trans S68).trans S9
      refine ⟨_, rfl, _, rfl, _, _, rfl, rfl, _, rfl, nopart (Pv.fromT1 (sqt_stp S59 Lsts.nil hs5) (rv5.up S59) fun q5 z5 HA SA hA rA => ?_)⟩
      refine Pv.catT (sqt_stp SA Lsts.nil h9) hA (r9.up SA) rA (by simp; omega) fun q6 z6 HB SB hB rB => ?_
      have e2 : (ps.map prV).drop (j + 1) = prV p2 :: (ps.map prV).drop (j + 2) := by
        rw [List.drop_eq_getElem_cons (by rw [List.length_map]; exact hj1)]
        congr 1
        have : (ps.map prV)[j + 1]? = some (prV p2) := by rw [List.getElem?_map, hp2]; rfl
        exact Option.some.inj ((List.getElem?_eq_getElem (by rw [List.length_map]; exact hj1)).symm.trans this)
      refine fin (((S45.trans S59).trans SA).trans SB) (spn_bad (a := prV (p1.1, some (p2.1 ++ [97]))) (b := prV p2) (l := (ps.map prV).take j) (r := (ps.map prV).drop (j + 2)) ?_ (by rw [e2]; simp)) (small (by simp; omega)) (.tup hB (by rw [rB.len]; simp; omega) rB)
      rw [gapD_pr]
      show (!(!decide (p2.1 ++ [97] < p2.1))) = false
      rw [decide_eq_false fun g => List.lt_irrefl _ (List.lt_trans (lt_snoc p2.1 97) g)]
      rfl
    -- cut in two that touch
    obtain ⟨t, hx, ht⟩ := at5 (Stp.refl _ _) hp
    have l1 := okp.1.2
    have l1' : p.1.length ≤ 12 := l1
    refine ⟨_, rfl, _, rfl, a, _, _, .ref t, rfl, rfl, hs5, atI_nat hx, t, _, 0, Tx p.1, rfl, rfl, ht, at0, ?_⟩
    refine ⟨_, rfl, _, rfl, _, rfl, Pv.upT hs5 rv5 fun q1 z1 H6 S6 h6 r6 => ?_⟩
    have hs6 := sqt_stp S6 Lsts.nil hs5
    have ht6' := sqt_stp S6 Lsts.nil ht
    refine ⟨_, rfl, _, rfl, tx p.1, tx [97], rfl, congrArg V.str a_lit, (by rw [tx_len, tx_len]; exact sz (by simp; omega)), ?_⟩
    rw [tx_app]
    refine ⟨(by show 2 ≤ sizeLine; decide), fun q2 nq2 => ?_⟩
    have S7 : Stp [] H6 (upd H6 q2 (.tup [Tx p.1, Tx (p.1 ++ [97])])) := Stp.new nq2 _
    have r2 : Rv K [b] (upd H6 q2 (.tup [Tx p.1, Tx (p.1 ++ [97])])) (.ref q2) (prV (p.1, some (p.1 ++ [97]))) := Rv.newT nq2 (.cons (.str _ (by omega)) (.cons (.str _ (by rw [List.length_append]; simp; omega)) .nil)) (by simp)
    generalize upd H6 q2 (.tup [Tx p.1, Tx (p.1 ++ [97])]) = H7 at *
    have hs7 := sqt_stp S7 Lsts.nil hs6
    have ht7 := sqt_stp S7 Lsts.nil ht6'
    refine ⟨_, rfl, tx p.1, tx [97], rfl, congrArg V.str a_lit, (by rw [tx_len, tx_len]; exact sz (by simp; omega)), ?_⟩
    rw [tx_app]
    refine ⟨_, rfl, _, rfl, a, _, _, .ref t, rfl, rfl, hs7, atI_nat hx, t, _, 1, oV p.2, rfl, rfl, ht7, at1, ?_⟩
    refine ⟨(by show 2 ≤ sizeLine; decide), fun q3 nq3 => ⟨(by show 2 ≤ sizeLine; decide), fun q4 nq4 => ?_⟩⟩
    have S8 : Stp [] H7 (upd H7 q3 (.tup [Tx (p.1 ++ [97]), oV p.2])) := Stp.new nq3 _
    have rend : ∀ H', Rv K [b] H' (oV p.2) (endD p.2) := fun H' => by
      cases he2 : p.2 with
      | none => exact .non
      | some e2 => exact .str _ (by have := (okp.2 e2 he2).1.2; omega)
    have r3 : Rv K [b] (upd H7 q3 (.tup [Tx (p.1 ++ [97]), oV p.2])) (.ref q3) (prV (p.1 ++ [97], p.2)) := Rv.newT nq3 (.cons (.str _ (by rw [List.length_append]; simp; omega)) (.cons (rend _) .nil)) (by simp)
    generalize upd H7 q3 (.tup [Tx (p.1 ++ [97]), oV p.2]) = H8 at *
    have S9 : Stp [] H8 (upd H8 q4 (.tup [.ref q2, .ref q3])) := Stp.new nq4 _
    have h9 : SqT K (upd H8 q4 (.tup [.ref q2, .ref q3])) q4 [.ref q2, .ref q3] := SqT.of upd_same
    have S69 := (S7.trans S8).trans S9
    have r9 : RvL K [b] (upd H8 q4 (.tup [.ref q2, .ref q3])) [.ref q2, .ref q3] [prV (p.1, some (p.1 ++ [97])), prV (p.1 ++ [97], p.2)] := .cons ((r2.up S8).up S9) (.cons (r3.up S9) .nil)
    generalize upd H8 q4 (.tup [.ref q2, .ref q3]) = H9 at *
    refine Pv.catT (sqt_stp S69 Lsts.nil h6) h9 (r6.up S69) r9 (by simp; omega) fun q5 z5 HA SA hA rA => ?_
    have S5A := (S6.trans S69).trans SA
    refine ⟨_, rfl, _, rfl, _, _, rfl, rfl, _, rfl, nopart (Pv.fromT1 (sqt_stp S5A Lsts.nil hs5) (rv5.up S5A) fun q6 z6 HB SB hB rB => ?_)⟩
    refine Pv.catT (sqt_stp SB Lsts.nil hA) hB (rA.up SB) rB (by simp; omega) fun q7 z7 HC SC hC rC => ?_
    refine fin (((S45.trans S5A).trans SB).trans SC) (spn_bad (a := prV (p.1, some (p.1 ++ [97]))) (b := prV (p.1 ++ [97], p.2)) (l := (ps.map prV).take e) (r := (ps.map prV).drop (e + 1)) ?_ (by simp)) (small (by simp; omega)) (.tup hC (by rw [rC.len]; simp; omega) rC)
    rw [gapD_pr]
    show (!(!decide (p.1 ++ [97] < p.1 ++ [97]))) = false
    rw [decide_eq_false (List.lt_irrefl _)]
    rfl
abbrev s__law_odd_span : Stmt := topS 23
abbrev N__law_odd_span : List Str := ["bag", "whole", "word", "way", "at", "odd"]
theorem sc__law_odd_span : FnScope ["bag", "whole", "word", "way", "at", "odd"] ["bag", "whole", "word"] (defScope s__law_odd_span) := ⟨rfl, rfl, rfl, by decide +kernel, rfl, by decide +kernel, by decide +kernel⟩

/-! ### _law_odd_span -/
def odds0 (C : Addr) (w : List Nat) (ps : List Pr) : List D := [.non, .bl true, .bl false, .int 0, .int 1, wd "", .str w, .lst [], .lst [.tup [.str w, .non]], .tup [.str w], .tup [.non], .tup [.str w, .non], .tup [wd "", .non], .tup [.tup []]]
theorem odds0_len {C : Addr} {w : List Nat} {ps : List Pr} : (odds0 C w ps).length = 14 := rfl
def odds1 (C : Addr) (w : List Nat) (ps : List Pr) : List D := [.int (10 ^ (30 : Int).toNat), .tup [.lst [.str w, .non]], .tup [wd "open", spanD ps], .lst [spanD ps], .tup [spanD ps], .obj C, .int (-1), wd "a-b"]
theorem odds1_len {C : Addr} {w : List Nat} {ps : List Pr} : (odds1 C w ps).length = 8 := rfl
def odds (C : Addr) (w : List Nat) (ps : List Pr) : List D := odds0 C w ps ++ odds1 C w ps
theorem odds_no {C : Addr} {w : Txt} {ps : List Pr} {d : D} (m : d ∈ odds C w ps) : isSpn d = false ∧ SmallT d := by
  have nr : ∀ {t : Txt}, isRng (.str t) = false := rfl
  rcases List.mem_append.mp m with m | m
  · simp only [odds0, List.mem_cons, List.not_mem_nil, or_false] at m
    rcases m with rfl | rfl | rfl | rfl | rfl | rfl | rfl | rfl | rfl | rfl | rfl | rfl | rfl | rfl <;> exact ⟨rfl, by first | trivial | simp [SmallT]⟩
  · simp only [odds1, List.mem_cons, List.not_mem_nil, or_false] at m
    rcases m with rfl | rfl | rfl | rfl | rfl | rfl | rfl | rfl
    · exact ⟨rfl, trivial⟩
    · exact ⟨rfl, (by decide : 1 ≤ 5000)⟩
    · exact ⟨rfl, (by decide : 2 ≤ 5000)⟩
    · exact ⟨rfl, trivial⟩
    · refine ⟨?_, (by decide : 1 ≤ 5000)⟩
      refine spn_odd (a := spanD ps) (l := []) (r := []) ?_ rfl
      match ps with
      | [] => rfl
      | [_] => rfl
      | [_, _] => rfl
      | _ :: _ :: _ :: _ => rfl
    · exact ⟨rfl, trivial⟩
    · exact ⟨rfl, trivial⟩
    · exact ⟨rfl, trivial⟩
def spOddS (K : PySem.W.Frag) : Sp := fun vs H Q _ => ∃ (b a : Addr) (n : Nat) (ps : List Pr) (w : Txt), vs = [.ref b, .ref a, Tx w] ∧ Spn K H a ps ∧ ps.length ≤ 20 ∧ w.length ≤ 12 ∧ Bag H b n ∧ n + 20 < 2 ^ 30 ∧
  ∀ v d H', isSpn d = false → SmallT d → Stp [b] H H' → Bag H' b (n + 5) → Rv K [b] H' v d → Q v H'
theorem cl__law_odd_span {f C : Addr} {fd : FuncData} (Dh : Df K mg "_law_odd_span" s__law_odd_span ["bag", "whole", "word"] f fd) (T : Nm mg) (TX : Nx K mg C) (c__law_draw : Cl P w K mg base 1 "_law_draw" s__law_draw ["bag", "upto"] spDraw)
    (c__law_odd_pair : Cl P w K mg base 2 "_law_odd_pair" s__law_odd_pair ["bag", "word"] (spOddP K C)) (c__law_bent_span : Cl P w K mg base 2 "_law_bent_span" s__law_bent_span ["bag", "whole"] (spBent K)) : Cl P w K mg base 3 "_law_odd_span" s__law_odd_span ["bag", "whole", "word"] (spOddS K) := by
  refine Dh.cl sc__law_odd_span (fun vs H Q E h => ?_) (fun cdv A outer s H vs Q E hr h => ?_)
  · obtain ⟨b, a, n, ps, w, rfl, _⟩ := h
    rfl
  · obtain ⟨b, a, n, ps, w, rfl, sp, few, hw, B, hn, k⟩ := h
    refine ⟨_, (pss_cons (ps_par (i := 3) (j := 4) rfl sc__law_odd_span.nd rfl rfl (by decide) rfl rfl (pa_cons (pe_cl c__law_draw hr (by omega) (pa_cons (pv 0) (pa_cons pe_int pa_nil))) (pa_cons (pe_cl c__law_draw hr (by omega) (pa_cons (pv 0) (pa_cons (pe_op op_add (pe_callB call_len_seq (by rfl) T.n_len (by decide +kernel) (pa_cons (pv 1) pa_nil)) pe_int) pa_nil))) pa_nil)) (by rfl))
      (pss_cons (ps_if (pt_cmpR op_lt (pv 3) pe_int (by first | exact nomark _ | rfl)) (pss_one (ps_ret (pe_op op_catA (pe_op op_catA (pe_slice sl_tupA (pv 1) po_none (po_some (pv 4))) (pe_tup (pa_cons (pe_cl c__law_odd_pair hr (by omega) (pa_cons (pv 0) (pa_cons (pv 2) pa_nil))) pa_nil))) (pe_slice sl_tupA (pv 1) (po_some (pv 4)) po_none)))) pss_nil)
      (pss_cons (ps_if (pt_cmpR op_lt (pv 3) pe_int (by first | exact nomark _ | rfl)) (pss_one (ps_ret (pe_cl c__law_bent_span hr (by omega) (pa_cons (pv 0) (pa_cons (pv 1) pa_nil))))) pss_nil)
      (pss_cons (ps_set (i := 5) sc__law_odd_span.nd rfl (by first | exact Or.inl rfl | exact Or.inr rfl) (pe_lst (pa_cons pe_non (pa_cons pe_bl (pa_cons pe_bl (pa_cons pe_int (pa_cons pe_int (pa_cons pe_str (pa_cons (pv 2) (pa_cons (pe_lst pa_nil) (pa_cons (pe_lst (pa_cons (pe_tup (pa_cons (pv 2) (pa_cons pe_non pa_nil))) pa_nil)) (pa_cons (pe_tup (pa_cons (pv 2) pa_nil)) (pa_cons (pe_tup (pa_cons pe_non pa_nil)) (pa_cons (pe_tup (pa_cons (pv 2) (pa_cons pe_non pa_nil))) (pa_cons (pe_tup (pa_cons pe_str (pa_cons pe_non pa_nil))) (pa_cons (pe_tup (pa_cons (pe_tup pa_nil) pa_nil)) pa_nil))))))))))))))))
      (pss_cons (ps_set (i := 5) sc__law_odd_span.nd rfl (by first | exact Or.inl rfl | exact Or.inr rfl) (pe_op op_cat (pv 5) (pe_lst (pa_cons (pe_op op_pow pe_int pe_int) (pa_cons (pe_tup (pa_cons (pe_lst (pa_cons (pv 2) (pa_cons pe_non pa_nil))) pa_nil)) (pa_cons (pe_tup (pa_cons pe_str (pa_cons (pv 1) pa_nil))) (pa_cons (pe_lst (pa_cons (pv 1) pa_nil)) (pa_cons (pe_tup (pa_cons (pv 1) pa_nil)) (pa_cons (pe_exc1 PySem.F.excBase_ValueError TX.x_InvalidSpan TX.g_InvalidSpan TX.k_InvalidSpan rfl pe_str) (pa_cons (pe_un un_neg pe_int) (pa_cons pe_str pa_nil)))))))))))
      (pss_one (ps_ret (pe_ix ix_list (pv 5) (pe_cl c__law_draw hr (by omega) (pa_cons (pv 0) (pa_cons (pe_callB call_len_seq (by rfl) T.n_len (by decide +kernel) (pa_cons (pv 5) pa_nil)) pa_nil))) (fun _ _ => rfl))))))))), ?_⟩
    have nn : ∀ {x : Addr}, x ∉ ([] : List Addr) := fun m => nomatch m
    have one : b ∈ [b] := List.mem_singleton.mpr rfl
    have ok := sp.ok.ok
    obtain ⟨⟨xs, hs, rl⟩, _, _⟩ := id sp
    have lx : xs.length = ps.length := by rw [rl.len, List.length_map]
    refine ⟨_, rfl, b, 6, n, rfl, B, by omega, by decide, by decide, fun way H1 w0 w1 o1 B1 => ?_⟩
    have S1 : Stp [b] H H1 := o1.stp one
    have hs1 := sqt_stp S1 (Pv.bag_ls B) hs
    refine ⟨_, rfl, _, rfl, a, _, rfl, .inr hs1, _, _, rfl, rfl, b, _, _, rfl, B1, by omega, by omega, by rw [lx]; omega, fun e H2 e0 e1 o2 B2 => ?_⟩
    have S2 : Stp [b] H H2 := S1.trans (o2.stp one)
    obtain ⟨e, rfl⟩ := Int.eq_ofNat_of_zero_le e0
    have sp2 := sp.stp S2 (Pv.bag_ls B)
    refine ⟨_, _, rfl, ?_⟩
    refine ⟨_, rfl, _, _, rfl, rfl, _, rfl, ite2 (fun h => ?_) (fun h => ?_)⟩
    · obtain ⟨⟨xs, hs2, rl2⟩, _, _⟩ := id sp2
      have rv2 : RvL K [b] H2 xs (ps.map prV) := rps_rv rl2 fun p m => (ok p m).s
      refine ⟨_, rfl, _, rfl, _, rfl, Pv.upT hs2 rv2 fun q1 z1 H3 S3 h3 r3 => ?_⟩
      have B3 := B2.kp S3 nn
      refine ⟨_, rfl, _, rfl, b, _, w, rfl, hw, B3, by omega, fun v d H4 hd S4 B4 rv4 => ?_⟩
      refine ⟨(by show 1 ≤ sizeLine; decide), fun q2 nq2 => ?_⟩
      have S5 : Stp [] H4 (upd H4 q2 (.tup [v])) := Stp.new nq2 _
      have h5 : SqT K (upd H4 q2 (.tup [v])) q2 [v] := SqT.of upd_same
      have r5 : RvL K [b] (upd H4 q2 (.tup [v])) [v] [d] := .cons (rv4.up S5) .nil
      generalize upd H4 q2 (.tup [v]) = H5 at *
      have S35 := S4.trans S5.nil
      refine Pv.catT (sqt_stp S35 (Pv.bag_ls B3) h3) h5 (r3.stp S35 (Pv.bag_ls B3)) r5 (by simp; omega) fun q3 z3 H6 S6 h6 r6 => ?_
      have S26 : Stp [b] H2 H6 := (S3.nil.trans S35).trans S6.nil
      refine ⟨_, rfl, _, rfl, _, rfl, nopart (Pv.fromT (sqt_stp S26 (Pv.bag_ls B2) hs2) (rv2.stp S26 (Pv.bag_ls B2)) fun q4 z4 H7 S7 h7 r7 => ?_)⟩
      refine Pv.catT (sqt_stp S7 Lsts.nil h6) h7 (r6.up S7) r7 (by simp; omega) fun q5 z5 H8 S8 h8 r8 => ?_
      have S48 := ((S5.trans S6).trans S7).trans S8
      refine k _ _ _ ?_ ?_ (S2.trans (((S26.trans S7.nil).trans S8.nil))) ((B4.kp S48 nn).mono (by omega)) (.tup h8 (by rw [r8.len]; simp; omega) r8)
      · exact spn_odd (a := d) (l := (ps.map prV).take e) (r := (ps.map prV).drop e) (oddp_no hd) (by simp)
      · show _ ≤ 5000
        simp
        omega
    refine ⟨_, rfl, _, _, rfl, rfl, _, rfl, ite2 (fun h => ?_) (fun h => ?_)⟩
    · refine ⟨_, rfl, _, rfl, b, a, _, ps, rfl, sp2, few, B2, by omega, fun v d H3 n3 m3 S3 B3 r3 => ?_⟩
      exact k v d H3 n3 m3 (S2.trans S3) (B3.mono (by omega)) r3
    have k : ∀ v d H', d ∈ odds C w ps → Stp [b] H2 H' → Bag H' b (n + 3) → Rv K [b] H' v d → Q v H' := fun v d H' m S' B' r => k v d H' (odds_no m).1 (odds_no m).2 (S2.trans S') (B'.mono (by omega)) r
    have B := B2
    have rw : Rv K [b] H2 (Tx w) (.str w) := .str w (by omega)
    have rz : Rv K [b] H2 (.ref a) (spanD ps) := sp2.rv
    dsimp only [tNext]
    have ls0 := Pv.bag_ls B
    have rw_0 := rw
    have rz_0 := rz
    refine asg_name ?_
    refine' Pv.EvDA.newl (K := K) (S := [b]) (ds := odds0 C w ps) ?e0 ?l0 ?k0
    case e0 => unfold odds0; (repeat' first | exact Pv.EvDA.nil | apply Pv.EvDA.cons | exact Pv.EvD.bl | exact Pv.EvD.int | exact Pv.EvD.non | exact Pv.EvD.str | exact Pv.EvD.var (rw_0) | exact Pv.EvD.var (rz_0) | (refine Pv.EvD.cat ?_ ?_ (by first | exact Pv.catle hw (by decide +kernel) | exact Pv.catle' (by decide +kernel) hw)) | apply Pv.EvD.tup | apply Pv.EvD.lst ls0 | apply Pv.EvD.exc TX.ok | exact Pv.EvD.pow ⟨by decide, by decide, by decide⟩ | apply Pv.EvD.neg | (simp; done))
    case l0 => rw [odds0_len]; decide
    case k0 =>
    intro L0 vs0 H0 E0 n0 h0 r0
    have ls1 := Pg.Lsts.stp ls0 E0
    have rw_1 := rw.up E0
    have rz_1 := rz.up E0
    refine asg_name ?_
    refine op_var rfl ?_
    refine' Pv.EvDA.newl (K := K) (S := [b]) (ds := odds1 C w ps) ?e1 ?l1 ?k1
    case e1 => unfold odds1; (repeat' first | exact Pv.EvDA.nil | apply Pv.EvDA.cons | exact Pv.EvD.bl | exact Pv.EvD.int | exact Pv.EvD.non | exact Pv.EvD.str | exact Pv.EvD.var (rw_1) | exact Pv.EvD.var (rz_1) | (refine Pv.EvD.cat ?_ ?_ (by first | exact Pv.catle hw (by decide +kernel) | exact Pv.catle' (by decide +kernel) hw)) | apply Pv.EvD.tup | apply Pv.EvD.lst ls1 | apply Pv.EvD.exc TX.ok | exact Pv.EvD.pow ⟨by decide, by decide, by decide⟩ | apply Pv.EvD.neg | (simp; done))
    case l1 => rw [odds1_len]; decide
    case k1 =>
    intro M1 ws1 G1 T1 m1 g1 q1
    refine cat_use (T1.kp _ _ (fun m => nomatch m) h0) g1 (r0.up T1) q1 (by simp [odds0_len, odds1_len]) fun L1 n1 H1 vs1 F1 h1 r1 => ?_
    have E1 := (E0.trans T1).trans F1
    have B1 := B.kp E1 (fun m => nomatch m)
    refine ⟨_, rfl, _, rfl, _, rfl, L1, _, rfl, .inl (SqL.of h1), b, _, _, rfl, B1, by omega, ?_, ?_, fun d H1 d0 d1 o1 B2 => ?_⟩
    · rw [r1.len, show (odds0 C w ps ++ odds1 C w ps).length = 22 from rfl]; exact (by decide : (0 : Int) < ((22 : Nat) : Int))
    · rw [r1.len, show (odds0 C w ps ++ odds1 C w ps).length = 22 from rfl]; exact (by decide : ((22 : Nat) : Int) < 2 ^ 30)
    · rw [r1.len] at d1
      have S1 := o1.stp (List.mem_singleton.mpr rfl : b ∈ [b])
      have nLb : L1 ∉ [b] := fun m => by
        obtain ⟨x, y, z, hb, _⟩ := B1
        rw [List.mem_singleton.mp m, hb] at h1
        injection h1 with h
        injection h with h
        have := r1.len
        rw [← h, show (odds0 C w ps ++ odds1 C w ps).length = 22 from rfl] at this
        exact absurd this (by decide : ¬ 3 = 22)
      obtain ⟨v, e, me, re, ev⟩ := (r1.stp S1 (Pv.bag_ls B1)).pick d0 d1
      exact ⟨L1, _, d, v, rfl, rfl, SqL.of (S1.kp _ _ nLb h1), ev, k v e H1 me (E1.nil.trans S1) B2 re⟩
abbrev s__law_apart : Stmt := topS 24
abbrev N__law_apart : List Str := ["pairs", "k", "j"]
theorem sc__law_apart : FnScope ["pairs", "k", "j"] ["pairs"] (defScope s__law_apart) := ⟨rfl, rfl, rfl, by decide +kernel, rfl, by decide +kernel, by decide +kernel⟩

/-! ### ranges pair by pair -/
def PGap (p q : Pr) : Prop := ∃ e, p.2 = some e ∧ e < q.1
theorem gapD_iff {p q : Pr} : gapD (prV p) (prV q) = true ↔ PGap p q := by
  obtain ⟨f, e⟩ := p
  cases e with
  | none => exact ⟨fun h => (nomatch h), fun ⟨e, h, _⟩ => (nomatch h)⟩
  | some e => exact ⟨fun h => ⟨e, rfl, of_decide_eq_true h⟩, fun ⟨e', h, l⟩ => by cases h; exact decide_eq_true (show e < q.1 from l)⟩
theorem adj_pw : ∀ {ps : List Pr}, (∀ p ∈ ps, PrOk p) → (adj (ps.map prV) = true ↔ ps.Pairwise PGap)
  | [], _ => ⟨fun _ => .nil, fun _ => rfl⟩
  | [p], _ => ⟨fun _ => List.pairwise_singleton _ _, fun _ => rfl⟩
  | p :: q :: r, ok => by
    have ih := adj_pw (ps := q :: r) fun x m => ok x (List.mem_cons_of_mem _ m)
    have e : adj ((p :: q :: r).map prV) = (gapD (prV p) (prV q) && adj ((q :: r).map prV)) := rfl
    rw [e, Bool.and_eq_true, ih, gapD_iff, List.pairwise_cons (a := p) (l := q :: r)]
    clear e
    refine ⟨fun ⟨⟨e, h1, h2⟩, h3⟩ => ⟨fun s m => ?_, h3⟩, fun ⟨h1, h2⟩ => ⟨h1 q List.mem_cons_self, h2⟩⟩
    rcases List.mem_cons.mp m with rfl | m
    · exact ⟨e, h1, h2⟩
    · obtain ⟨e', h4, h5⟩ := (List.pairwise_cons.mp h3).1 s m
      exact ⟨e, h1, List.lt_trans h2 (List.lt_trans ((ok q (by simp)).2 e' h4).2 h5)⟩
theorem spn_adj {ps : List Pr} (ok : ∀ p ∈ ps, PrOk p) : isSpn (spanD ps) = adj (ps.map prV) := by
  have e : isSpn (spanD ps) = ((ps.map prV).all isRng && adj (ps.map prV)) := rfl
  rw [e, show (ps.map prV).all isRng = true from List.all_eq_true.mpr fun d m => by
    obtain ⟨p, mp, rfl⟩ := List.mem_map.mp m
    exact pr_isRng ⟨(ok p mp).1.1, fun e q => ⟨((ok p mp).2 e q).1.1, ((ok p mp).2 e q).2⟩⟩, Bool.true_and]
def spApart (K : PySem.W.Frag) : Sp := fun vs H Q _ => ∃ (p : Addr) (xs : List V) (ps : List Pr), vs = [.ref p] ∧ SqT K H p xs ∧ RpL K H xs (ps.map prD) ∧ (∀ q ∈ ps, PrOk q) ∧ ps.length ≤ 100 ∧ ∀ b, b = isSpn (spanD ps) → Q (.bl b) H
theorem cl__law_apart {f : Addr} {fd : FuncData} (Dh : Df K mg "_law_apart" s__law_apart ["pairs"] f fd) (T : Nm mg) : Cl P w K mg base 1 "_law_apart" s__law_apart ["pairs"] (spApart K) := by
  refine Dh.cl sc__law_apart (fun vs H Q E h => ?_) (fun cdv A outer s H vs Q E hr h => ?_)
  · obtain ⟨p, xs, ps, rfl, _⟩ := h
    rfl
  · obtain ⟨p, xs, ps, rfl, hs, rl, ok, few, k⟩ := h
    refine ⟨_, (pss_cons (ps_for PassesOwn.never rfl (pi_range1 (by rfl) T.n_range (pa_cons (pe_callB call_len_seq (by rfl) T.n_len (by decide +kernel) (pa_cons (pv 0) pa_nil)) pa_nil)) (pg_name (i := 1) sc__law_apart.nd rfl (by first | exact Or.inl rfl | exact Or.inr rfl)) (pss_one (ps_for PassesOwn.never rfl (pi_range1 (by rfl) T.n_range (pa_cons (pv 1) pa_nil)) (pg_name (i := 2) sc__law_apart.nd rfl (by first | exact Or.inl rfl | exact Or.inr rfl)) (pss_one (ps_if (PW.pt (pw_or (pt_cmpR op_isN (pe_ix ix_tup (pe_ix ix_tup (pv 0) (pv 2) (fun _ _ => rfl)) pe_int (fun _ _ => rfl)) pe_non (by first | exact nomark _ | rfl)) (pw_or1 (pt_cmpR op_ge_str (pe_ix ix_tup (pe_ix ix_tup (pv 0) (pv 2) (fun _ _ => rfl)) pe_int (fun _ _ => rfl)) (pe_ix ix_tup (pe_ix ix_tup (pv 0) (pv 1) (fun _ _ => rfl)) pe_int (fun _ _ => rfl)) (by first | exact nomark _ | rfl))))) (pss_one (ps_ret pe_bl)) pss_nil)))))
      (pss_one (ps_ret pe_bl))), ?_⟩
    have lx : xs.length = ps.length := by rw [rl.len, List.length_map]
    have at_ : ∀ {i : Nat}, i < ps.length → ∃ q t, ps[i]? = some q ∧ xs[i]? = some (.ref t) ∧ SqT K H t [Tx q.1, oV q.2] := fun {i} hi => by
      obtain ⟨q, hq, t, et, ht⟩ := prs_get rl (List.getElem?_eq_getElem (show i < xs.length by omega))
      exact ⟨q, t, hq, by rw [List.getElem?_eq_getElem (show i < xs.length by omega), et], ht⟩
    refine ⟨_, rfl, p, _, rfl, .inr hs, _, rfl, by omega, by omega, for_range (lo := 0) (n := xs.length) (fun i σ H1 => ∃ x1 x2 : Option V, σ = [some (.ref p), x1, x2] ∧ H = H1 ∧ ∀ k', k' < i → ∀ j, j < k' → ∀ a b, ps[j]? = some a → ps[k']? = some b → PGap a b)
      ⟨_, _, rfl, rfl, fun _ h => absurd h (Nat.not_lt_zero _)⟩ ?_ ?_⟩
    · rintro i σ H1 hi ⟨x1, x2, rfl, rfl, inv⟩
      rw [Int.zero_add]
      refine ⟨_, rfl, i, rfl, by omega, by omega, for_range (lo := 0) (n := i) (fun j σ H1 => ∃ x2 : Option V, σ = [some (.ref p), some (.int (i : Int)), x2] ∧ H = H1 ∧ ∀ j', j' < j → ∀ a b, ps[j']? = some a → ps[i]? = some b → PGap a b)
        ⟨_, rfl, rfl, fun _ h => absurd h (Nat.not_lt_zero _)⟩ ?_ ?_⟩
      · rintro j σ H1 hj ⟨x2, rfl, rfl, inv2⟩
        obtain ⟨q1, t1, hq1, hx1, ht1⟩ := at_ (i := j) (by omega)
        obtain ⟨q2, t2, hq2, hx2, ht2⟩ := at_ (i := i) (by omega)
        have no : ¬ PGap q1 q2 → false = isSpn (spanD ps) := fun g => by
          rw [spn_adj ok]
          refine (Bool.eq_false_iff.mpr fun h => g ?_).symm
          have z := List.pairwise_iff_getElem.mp ((adj_pw ok).mp h) j i (by omega) (by omega) hj
          rw [List.getElem?_eq_getElem (show j < ps.length by omega)] at hq1
          rw [List.getElem?_eq_getElem (show i < ps.length by omega)] at hq2
          cases hq1
          cases hq2
          exact z
        rw [Int.zero_add]
        refine ⟨_, rfl, _, rfl, p, _, _, .ref t1, rfl, rfl, hs, atI_nat hx1, t1, _, 1, oV q1.2, rfl, rfl, ht1, at1, rfl, _, rfl, ?_⟩
        have done_ : PGap q1 q2 → ∀ j', j' < j + 1 → ∀ a b, ps[j']? = some a → ps[i]? = some b → PGap a b := fun g j' hj' a b ha hb => by
          by_cases e : j' = j
          · subst e
            rw [ha] at hq1
            rw [hb] at hq2
            cases hq1
            cases hq2
            exact g
          · exact inv2 j' (by omega) a b ha hb
        cases e : q1.2 with
        | none => exact ite2 (fun _ => k _ (no fun ⟨_, h, _⟩ => by rw [e] at h; cases h)) (fun h => absurd rfl h)
        | some e1 =>
          refine ite2 (fun h => absurd h (by simp [oV])) (fun _ => ?_)
          rw [e] at ht1
          refine ⟨_, rfl, _, rfl, p, _, _, .ref t1, rfl, rfl, hs, atI_nat hx1, t1, _, 1, Tx e1, rfl, rfl, ht1, at1, _, rfl, _, rfl, p, _, _, .ref t2, rfl, rfl, hs, atI_nat hx2, t2, _, 0, Tx q2.1, rfl, rfl, ht2, at0, tx e1, tx q2.1, rfl, rfl, _, rfl, ?_⟩
          refine ite2 (fun h => ?_) (fun h => ?_)
          · refine k _ (no fun ⟨e', h1, h2⟩ => ?_)
            rw [e] at h1
            cases h1
            have h3 : (!decide (e1 < q2.1)) = true := h
            rw [decide_eq_true h2] at h3
            cases h3
          · refine ⟨_, rfl, rfl, done_ ⟨e1, e, ?_⟩⟩
            have h3 : ¬ (!decide (e1 < q2.1)) = true := h
            by_cases g : e1 < q2.1
            · exact g
            · rw [decide_eq_false g] at h3
              exact absurd rfl h3
      · rintro σ H1 ⟨x2, rfl, rfl, inv2⟩
        refine ⟨_, _, rfl, rfl, fun k' hk' j' hj' a b ha hb => ?_⟩
        by_cases e : k' = i
        · subst e
          exact inv2 j' hj' a b ha hb
        · exact inv k' (by omega) j' hj' a b ha hb
    · rintro σ H1 ⟨x1, x2, rfl, rfl, inv⟩
      refine k _ (Eq.symm ?_)
      rw [spn_adj ok, adj_pw ok, List.pairwise_iff_getElem]
      exact fun j k' hj hk lt => inv k' (by omega) j lt _ _ (List.getElem?_eq_getElem hj) (List.getElem?_eq_getElem hk)
abbrev s__law_long : Stmt := topS 25
abbrev N__law_long : List Str := ["words", "k", "word"]
theorem sc__law_long : FnScope ["words", "k", "word"] [] (defScope s__law_long) := ⟨rfl, rfl, rfl, by decide +kernel, rfl, by decide +kernel, by decide +kernel⟩

/-! ### the long span -/
def wordsN : Nat → List Txt
  | 0 => [[]]
  | k + 1 => (wordsN k).map (97 :: ·) ++ (wordsN k).map (98 :: ·) ++ (wordsN k).map (99 :: ·)
theorem wordsN_len : ∀ k, (wordsN k).length = 3 ^ k
  | 0 => rfl
  | k + 1 => by
    have := wordsN_len k
    simp only [wordsN, List.length_append, List.length_map]
    rw [Nat.pow_succ]
    omega
theorem wordsN_ok : ∀ k, ∀ w ∈ wordsN k, Abc w ∧ w.length = k
  | 0, w, m => by
    rw [List.mem_singleton.mp m]
    exact ⟨Abc.nil, rfl⟩
  | k + 1, w, m => by
    have one : ∀ c : Nat, c = 97 ∨ c = 98 ∨ c = 99 → w ∈ (wordsN k).map (c :: ·) → Abc w ∧ w.length = k + 1 := fun c hc m => by
      obtain ⟨u, mu, rfl⟩ := List.mem_map.mp m
      obtain ⟨a, l⟩ := wordsN_ok k u mu
      exact ⟨fun x mx => (List.mem_cons.mp mx).elim (fun e => e ▸ hc) (a x), by rw [List.length_cons, l]⟩
    simp only [wordsN, List.mem_append] at m
    rcases m with (m | m) | m
    · exact one 97 (.inl rfl) m
    · exact one 98 (.inr (.inl rfl)) m
    · exact one 99 (.inr (.inr rfl)) m
theorem wordsN_asc : ∀ k, (wordsN k).Pairwise (· < ·)
  | 0 => List.pairwise_singleton _ _
  | k + 1 => by
    have ih := wordsN_asc k
    have one : ∀ c : Nat, ((wordsN k).map (c :: ·)).Pairwise (· < ·) := fun c => by
      rw [List.pairwise_map]
      exact ih.imp fun h => List.cons_lt_cons_iff.mpr (.inr ⟨rfl, h⟩)
    have two : ∀ c d : Nat, c < d → ∀ a ∈ (wordsN k).map (c :: ·), ∀ b ∈ (wordsN k).map (d :: ·), a < b := fun c d h a ma b mb => by
      obtain ⟨u, _, rfl⟩ := List.mem_map.mp ma
      obtain ⟨v, _, rfl⟩ := List.mem_map.mp mb
      exact List.cons_lt_cons_iff.mpr (.inl h)
    simp only [wordsN]
    refine List.pairwise_append.mpr ⟨List.pairwise_append.mpr ⟨one 97, one 98, two 97 98 (by decide)⟩, one 99, fun a ma b mb => ?_⟩
    rcases List.mem_append.mp ma with m | m
    · exact two 97 99 (by decide) a m b mb
    · exact two 98 99 (by decide) a m b mb
theorem lt_app : ∀ {a b x : Txt}, a < b → a.length = b.length → a ++ x < b
  | [], [], _, h, _ => absurd h (List.lt_irrefl _)
  | [], _ :: _, _, _, e => by simp at e
  | _ :: _, [], _, _, e => by simp at e
  | a :: as, b :: bs, x, h, e => by
    rcases List.cons_lt_cons_iff.mp h with h1 | ⟨h1, h2⟩
    · exact List.cons_lt_cons_iff.mpr (.inl h1)
    · exact List.cons_lt_cons_iff.mpr (.inr ⟨h1, lt_app h2 (by simpa using e)⟩)
def longP : List Pr := ((wordsN 7).take 1100).map fun w => (w, some (w ++ [97]))
theorem long_len : longP.length = 1100 := by
  unfold longP
  rw [List.length_map, List.length_take, wordsN_len]
  decide
theorem long_ok : SpOk longP := by
  refine ⟨fun p m => ?_, ?_⟩
  · obtain ⟨w, mw, rfl⟩ := List.mem_map.mp m
    obtain ⟨a, l⟩ := wordsN_ok 7 w (List.mem_of_mem_take mw)
    exact ⟨⟨a, by show w.length ≤ 12; omega⟩, fun e q => by cases q; exact ⟨⟨a.app (Abc.one (.inl rfl)), by rw [List.length_append, l]; decide⟩, lt_snoc w 97⟩⟩
  · unfold longP
    rw [List.pairwise_map]
    exact ((wordsN_asc 7).sublist (List.take_sublist _ _)).imp_of_mem fun {a b} ma mb h => ⟨a ++ [97], rfl, lt_app h (by rw [(wordsN_ok 7 a (List.mem_of_mem_take ma)).2, (wordsN_ok 7 b (List.mem_of_mem_take mb)).2])⟩
def spLong (K : PySem.W.Frag) : Sp := fun vs H Q _ => vs = [] ∧ ∀ c H', Stp [] H H' → Spn K H' c longP → Q (.ref c) H'
theorem lit1 (s : Str) (c : Nat) (h : s = tx [c]) (l : Txt) : s ++ tx l = tx (c :: l) := by rw [h, tx_app]; rfl
theorem cl__law_long {f : Addr} {fd : FuncData} (D : Df K mg "_law_long" s__law_long [] f fd) (T : Nm mg) : Cl P w K mg base 1 "_law_long" s__law_long [] (spLong K) := by
  refine D.cl sc__law_long (fun vs H Q E h => ?_) (fun cdv A outer s H vs Q E hr h => ?_)
  · obtain ⟨rfl, _⟩ := h
    rfl
  · obtain ⟨rfl, k⟩ := h
    refine ⟨_, (pss_cons (ps_set (i := 0) sc__law_long.nd rfl (by first | exact Or.inl rfl | exact Or.inr rfl) (pe_lst (pa_cons pe_str pa_nil)))
      (pss_cons (ps_for PassesOwn.never rfl (pi_range1 (by rfl) T.n_range (pa_cons pe_int pa_nil)) (pg_name (i := 1) sc__law_long.nd rfl (by first | exact Or.inl rfl | exact Or.inr rfl)) (pss_one (ps_set (i := 0) sc__law_long.nd rfl (by first | exact Or.inl rfl | exact Or.inr rfl) (pe_op op_cat (pe_op op_cat (pe_lc (own := [("word", 2)]) rfl sc__law_long.nd (pi_list (pv 0)) (blkOk_by (own := [("word", 2)]) (N := N__law_long) (sc := defScope s__law_long) (by decide +kernel)) (fun _ _ _ _ _ => (pg_name (i := 2) sc__law_long.nd rfl (by first | exact Or.inl rfl | exact Or.inr rfl))) (fun _ _ _ _ _ => pts_nil) (fun _ _ _ _ _ => (pe_op op_add_str pe_str (pv 2)))) (pe_lc (own := [("word", 2)]) rfl sc__law_long.nd (pi_list (pv 0)) (blkOk_by (own := [("word", 2)]) (N := N__law_long) (sc := defScope s__law_long) (by decide +kernel)) (fun _ _ _ _ _ => (pg_name (i := 2) sc__law_long.nd rfl (by first | exact Or.inl rfl | exact Or.inr rfl))) (fun _ _ _ _ _ => pts_nil) (fun _ _ _ _ _ => (pe_op op_add_str pe_str (pv 2))))) (pe_lc (own := [("word", 2)]) rfl sc__law_long.nd (pi_list (pv 0)) (blkOk_by (own := [("word", 2)]) (N := N__law_long) (sc := defScope s__law_long) (by decide +kernel)) (fun _ _ _ _ _ => (pg_name (i := 2) sc__law_long.nd rfl (by first | exact Or.inl rfl | exact Or.inr rfl))) (fun _ _ _ _ _ => pts_nil) (fun _ _ _ _ _ => (pe_op op_add_str pe_str (pv 2))))))))
      (pss_one (ps_ret (pe_callTy call_tuple_of (by rfl) T.n_tuple (by decide +kernel) (pa_cons (pe_lc (own := [("word", 2)]) rfl sc__law_long.nd (pi_list (pe_slice sl_list (pv 0) po_none (po_some pe_int))) (blkOk_by (own := [("word", 2)]) (N := N__law_long) (sc := defScope s__law_long) (by decide +kernel)) (fun _ _ _ _ _ => (pg_name (i := 2) sc__law_long.nd rfl (by first | exact Or.inl rfl | exact Or.inr rfl))) (fun _ _ _ _ _ => pts_nil) (fun _ _ _ _ _ => (pe_tup (pa_cons (pv 2) (pa_cons (pe_op op_add_str (pv 2) pe_str) pa_nil))))) pa_nil)))))), ?_⟩
    refine ⟨(by show 1 ≤ sizeLine; decide), fun p0 n0 => ?_⟩
    refine ⟨7, rfl, by decide, by decide, for_range (lo := 0) (n := 7) (fun i σ H1 => ∃ (p : Addr) (x1 x2 : Option V), σ = [some (.ref p), x1, x2] ∧ H1 p = some (.lst ((wordsN i).map Tx)) ∧ Stp [] H H1)
      ⟨p0, _, _, rfl, by rw [upd_same, nil_lit]; rfl, Stp.new n0 _⟩ ?_ ?_⟩
    · rintro i σ H1 hi ⟨p, x1, x2, rfl, hp, S⟩
      have wl : (wordsN i).length ≤ 729 := by
        rw [wordsN_len]
        exact Nat.pow_le_pow_right (by decide) (by omega : i ≤ 6)
      have wok := wordsN_ok i
      have pre : ∀ (c : Nat) (lit : Str) (el : lit = tx [c]) (H2 : Hp) (Q2 : VK), Stp [] H1 H2 → ∀ l ∈ wordsN i, (∀ y H', Stp [] H2 H' → Rp K H' y (.str (c :: l)) → Q2 y H') → lit.length + (tx l).length ≤ sizeLine ∧ Q2 (.str (lit ++ tx l)) H2 := fun c lit el H2 Q2 S2 l ml q => by
        have := (wok l ml).2
        refine ⟨by rw [el, tx_len, tx_len]; exact sz (by simp; omega), ?_⟩
        rw [lit1 lit c el]
        exact q _ H2 (Stp.refl _ _) (.str _ (by simp; omega))
      refine ⟨_, rfl, p, rfl, ⟨_, SqL.of hp⟩, fun L1 n1 => ?_⟩
      refine lc_mapL (ds := ((wordsN i).map (97 :: ·)).map Dt.str) n1 (SqL.of hp) (by simp) (by simp; omega) (fun j x d H2 hx hd S2 Q2 q => ?_) fun ws1 H2 S2 h2 r2 => ?_
      · rw [List.getElem?_map] at hx
        rw [List.getElem?_map, List.getElem?_map] at hd
        cases e : (wordsN i)[j]? with
        | none => rw [e] at hx; cases hx
        | some l =>
          rw [e] at hx hd
          cases hx
          cases hd
          refine ⟨rfl, _, rfl, _, _, rfl, rfl, pre 97 "a" (by decide +kernel) H2 Q2 S2 l (List.mem_of_getElem? e) q⟩
      have hp2 := S2.kp _ _ (fun m => nomatch m) hp
      refine ⟨_, rfl, p, rfl, ⟨_, SqL.of hp2⟩, fun L2 n2 => ?_⟩
      refine lc_mapL (ds := ((wordsN i).map (98 :: ·)).map Dt.str) n2 (SqL.of hp2) (by simp) (by simp; omega) (fun j x d H3 hx hd S3 Q2 q => ?_) fun ws2 H3 S3 h3 r3 => ?_
      · rw [List.getElem?_map] at hx
        rw [List.getElem?_map, List.getElem?_map] at hd
        cases e : (wordsN i)[j]? with
        | none => rw [e] at hx; cases hx
        | some l =>
          rw [e] at hx hd
          cases hx
          cases hd
          refine ⟨rfl, _, rfl, _, _, rfl, rfl, pre 98 "b" (by decide +kernel) H3 Q2 (S2.trans S3) l (List.mem_of_getElem? e) q⟩
      have h23 := S3.kp _ _ (fun m => nomatch m) h2
      refine ⟨L1, L2, _, _, rfl, rfl, h23, h3, by rw [r2.len, r3.len]; exact sz (by simp; omega), fun L3 n3 => ?_⟩
      have S4 : Stp [] H1 (upd H3 L3 (.lst (ws1 ++ ws2))) := (S2.trans S3).new' n3
      obtain ⟨H4, e4⟩ : ∃ H4, H4 = upd H3 L3 (.lst (ws1 ++ ws2)) := ⟨_, rfl⟩
      have h4 : H4 L3 = some (.lst (ws1 ++ ws2)) := by rw [e4]; exact upd_same
      rw [← e4] at S4 ⊢
      have hp4 := S4.kp _ _ (fun m => nomatch m) hp
      refine ⟨_, rfl, p, rfl, ⟨_, SqL.of hp4⟩, fun L4 n4 => ?_⟩
      refine lc_mapL (ds := ((wordsN i).map (99 :: ·)).map Dt.str) n4 (SqL.of hp4) (by simp) (by simp; omega) (fun j x d H5 hx hd S5 Q2 q => ?_) fun ws3 H5 S5 h5 r5 => ?_
      · rw [List.getElem?_map] at hx
        rw [List.getElem?_map, List.getElem?_map] at hd
        cases e : (wordsN i)[j]? with
        | none => rw [e] at hx; cases hx
        | some l =>
          rw [e] at hx hd
          cases hx
          cases hd
          refine ⟨rfl, _, rfl, _, _, rfl, rfl, pre 99 "c" (by decide +kernel) H5 Q2 (S4.trans S5) l (List.mem_of_getElem? e) q⟩
      have h45 := S5.kp _ _ (fun m => nomatch m) h4
      refine ⟨L3, L4, _, _, rfl, rfl, h45, h5, by rw [List.length_append, r2.len, r3.len, r5.len]; exact sz (by simp; omega), fun L5 n5 => ?_⟩
      refine ⟨L5, _, _, rfl, ?_, S.trans ((S4.trans S5).new' n5)⟩
      rw [upd_same, rpl_strs r2, rpl_strs r3, rpl_strs r5, ← List.map_append, ← List.map_append]
      rfl
    · rintro σ H1 ⟨p, x1, x2, rfl, hp, S⟩
      refine ⟨_, rfl, 1100, rfl, p, _, rfl, SqL.of hp, fun p2 np2 => ?_⟩
      rw [show cutV ((wordsN 7).map Tx) none (some 1100) = ((wordsN 7).map Tx).take 1100 from cut_upto 1100, ← List.map_take]
      have S2 : Stp [] H1 (upd H1 p2 (.lst (((wordsN 7).take 1100).map Tx))) := Stp.new np2 _
      have wl : ((wordsN 7).take 1100).length = 1100 := by
        have := long_len
        unfold longP at this
        rwa [List.length_map] at this
      refine ⟨p2, rfl, ⟨_, SqL.of upd_same⟩, fun L nL => ?_⟩
      refine lc_mapL (ds := longP.map prD) nL (SqL.of upd_same) (by rw [List.length_map, List.length_map, long_len, wl]) (by rw [List.length_map, wl]; decide) (fun j x d H3 hx hd S3 Q2 q => ?_) fun ws H3 S3 h3 r3 => ?_
      · rw [List.getElem?_map] at hx
        rw [List.getElem?_map] at hd
        cases e : ((wordsN 7).take 1100)[j]? with
        | none => rw [e] at hx; cases hx
        | some l =>
          rw [e] at hx
          cases hx
          have ed : longP[j]? = some (l, some (l ++ [97])) := by
            unfold longP
            rw [List.getElem?_map, e]
            rfl
          rw [ed] at hd
          cases hd
          have ll := (wordsN_ok 7 l (List.mem_of_mem_take (List.mem_of_getElem? e))).2
          refine ⟨rfl, _, rfl, _, rfl, tx l, tx [97], rfl, congrArg V.str a_lit, by rw [tx_len, tx_len]; exact sz (by simp; omega), ?_⟩
          rw [tx_app]
          refine ⟨(by show 2 ≤ sizeLine; decide), fun t nt => q _ _ (Stp.new nt _) (pr_rp (p := (l, some (l ++ [97]))) (SqT.of upd_same) (by show l.length ≤ 12; omega) fun e' q' => ?_)⟩
          cases q'
          rw [List.length_append, ll]
          decide
      · refine ⟨L, _, rfl, .inl ⟨SqL.of h3, fun c nc => ?_⟩⟩
        refine k c _ (((S.trans S2).trans S3).new' nc) ⟨⟨ws, SqT.of upd_same, r3.stp (Stp.new nc _) Lsts.nil⟩, long_ok, by rw [long_len]; decide⟩
abbrev s__law_long_told : Stmt := topS 26
abbrev N__law_long_told : List Str := ["at", "whole", "odd"]
theorem sc__law_long_told : FnScope ["at", "whole", "odd"] ["at"] (defScope s__law_long_told) := ⟨rfl, rfl, rfl, by decide +kernel, rfl, by decide +kernel, by decide +kernel⟩

/-! ### the long span told -/
theorem swap_bad {ps : List Pr} (so : SpOk ps) {i : Nat} {p q : Pr} (hp : ps[i]? = some p) (hq : ps[i + 1]? = some q) : gapD (prV q) (prV p) = false := by
  have li : i + 1 < ps.length := (List.getElem?_eq_some_iff.mp hq).1
  obtain ⟨e, h1, h2⟩ := List.pairwise_iff_getElem.mp so.gap i (i + 1) (by omega) li (by omega)
  rw [List.getElem?_eq_getElem (show i < ps.length by omega)] at hp
  rw [List.getElem?_eq_getElem li] at hq
  cases hp
  cases hq
  have ok0 := so.ok _ (List.getElem_mem (show i < ps.length by omega))
  have ok1 := so.ok _ (List.getElem_mem li)
  have l0 := (ok0.2 e h1).2
  rw [gapD_pr]
  cases h3 : (ps[i + 1]).2 with
  | none => rfl
  | some e2 =>
    have l1 := (ok1.2 e2 h3).2
    show (!(!decide (e2 < (ps[i]).1))) = false
    rw [decide_eq_false fun g => List.lt_irrefl _ (List.lt_trans l0 (List.lt_trans h2 (List.lt_trans l1 g)))]
    rfl
theorem spn_true {ps : List Pr} (so : SpOk ps) : isSpn (spanD ps) = true := by
  rw [spn_adj so.ok]
  exact (adj_pw so.ok).mpr (so.gap.imp fun ⟨e, h1, h2⟩ => ⟨e, h1, h2⟩)
def spLongT : Sp := fun vs H Q _ => ∃ at_ : Nat, vs = [.int (at_ : Int)] ∧ at_ < 1099 ∧ ∀ H', Stp [] H H' → Q (.bl true) H'
theorem cl__law_long_told {f : Addr} {fd : FuncData} (Dh : Df K mg "_law_long_told" s__law_long_told ["at"] f fd) (T : Nm mg) (c__law_long : Cl P w K mg base 1 "_law_long" s__law_long [] (spLong K)) (c_is_span : Cl P w K mg base 3 "is_span" s_is_span ["value"] (spTellS K)) : Cl P w K mg base 4 "_law_long_told" s__law_long_told ["at"] spLongT := by
  refine Dh.cl sc__law_long_told (fun vs H Q E h => ?_) (fun cdv A outer s H vs Q E hr h => ?_)
  · obtain ⟨i, rfl, _⟩ := h
    rfl
  · obtain ⟨i, rfl, hi, k⟩ := h
    refine ⟨_, (pss_cons (ps_set (i := 1) sc__law_long_told.nd rfl (by first | exact Or.inl rfl | exact Or.inr rfl) (pe_cl0 c__law_long hr (by omega)))
      (pss_cons (ps_set (i := 2) sc__law_long_told.nd rfl (by first | exact Or.inl rfl | exact Or.inr rfl) (pe_op op_catA (pe_op op_catA (pe_slice sl_tupA (pv 1) po_none (po_some (pv 0))) (pe_tup (pa_cons (pe_ix ix_tup (pv 1) (pe_op op_add (pv 0) pe_int) (fun _ _ => rfl)) (pa_cons (pe_ix ix_tup (pv 1) (pv 0) (fun _ _ => rfl)) pa_nil)))) (pe_slice sl_tupA (pv 1) (po_some (pe_op op_add (pv 0) pe_int)) po_none)))
      (pss_one (ps_ret (pe_and (pe_cmpR op_isBl (pe_cl c_is_span hr (by omega) (pa_cons (pv 1) pa_nil)) pe_bl (by first | exact nomark _ | rfl)) (pe_one (pe_cmpR op_isBl (pe_cl c_is_span hr (by omega) (pa_cons (pv 2) pa_nil)) pe_bl (by first | exact nomark _ | rfl)))))))), ?_⟩
    refine ⟨rfl, fun c H1 S1 sp1 => ?_⟩
    obtain ⟨⟨xs, hs, rl⟩, okL, fewL⟩ := id sp1
    have ok := okL.ok
    have lx : xs.length = 1100 := by rw [rl.len, List.length_map, long_len]
    have rv : RvL K [] H1 xs (longP.map prV) := rps_rv rl fun p m => (ok p m).s
    refine ⟨_, rfl, _, rfl, _, rfl, Pv.upT hs rv fun q1 z1 H2 S2 h2 r2 => ?_⟩
    have hs2 := sqt_stp S2 Lsts.nil hs
    obtain ⟨p, hp⟩ : ∃ p, longP[i]? = some p := ⟨_, List.getElem?_eq_getElem (by rw [long_len]; omega)⟩
    obtain ⟨q, hq⟩ : ∃ q, longP[i + 1]? = some q := ⟨_, List.getElem?_eq_getElem (by rw [long_len]; omega)⟩
    have at_ : ∀ {j : Nat} {p : Pr}, longP[j]? = some p → ∃ t, xs[j]? = some (.ref t) ∧ SqT K H1 t [Tx p.1, oV p.2] := fun {j p} hp => by
      have hj : j < xs.length := by rw [lx, ← long_len]; exact (List.getElem?_eq_some_iff.mp hp).1
      obtain ⟨p', hp', t, et, ht⟩ := prs_get rl (List.getElem?_eq_getElem hj)
      rw [hp] at hp'
      cases hp'
      exact ⟨t, by rw [List.getElem?_eq_getElem hj, et], ht⟩
    obtain ⟨t1, hx1, ht1⟩ := at_ hp
    obtain ⟨t2, hx2, ht2⟩ := at_ hq
    refine ⟨_, rfl, _, rfl, _, _, rfl, rfl, c, _, _, .ref t2, rfl, rfl, hs2, atI_nat (j := i + 1) hx2, _, rfl, _, rfl, c, _, _, .ref t1, rfl, rfl, hs2, atI_nat hx1, (by show 2 ≤ sizeLine; decide), fun q2 nq2 => ?_⟩
    have S3 : Stp [] H2 (upd H2 q2 (.tup [.ref t2, .ref t1])) := Stp.new nq2 _
    have h3 : SqT K (upd H2 q2 (.tup [.ref t2, .ref t1])) q2 [.ref t2, .ref t1] := SqT.of upd_same
    have rvp : ∀ {p : Pr} {t : Addr}, p ∈ longP → SqT K H1 t [Tx p.1, oV p.2] → Rv K [] H1 (.ref t) (prV p) := fun {p t} m h => rp_rv (pr_rp h (ok p m).s.1.2 fun e q => ((ok p m).s.2 e q).2) (ok p m).s.1.2 fun e q => ((ok p m).s.2 e q).2
    have r3 : RvL K [] (upd H2 q2 (.tup [.ref t2, .ref t1])) [.ref t2, .ref t1] [prV q, prV p] := .cons ((rvp (List.mem_of_getElem? hq) ht2).up (S2.trans S3)) (.cons ((rvp (List.mem_of_getElem? hp) ht1).up (S2.trans S3)) .nil)
    generalize upd H2 q2 (.tup [.ref t2, .ref t1]) = H3 at *
    have ll : (longP.map prV).length = 1100 := by rw [List.length_map, long_len]
    refine Pv.catT (sqt_stp S3 Lsts.nil h2) h3 (r2.up S3) r3 (by rw [List.length_take, ll]; simp; omega) fun q3 z3 H4 S4 h4 r4 => ?_
    have S14 := (S2.trans S3).trans S4
    refine ⟨_, rfl, _, rfl, _, _, rfl, rfl, _, rfl, nopart (Pv.fromT (n := i + 2) (sqt_stp S14 Lsts.nil hs) (rv.up S14) fun q4 z4 H5 S5 h5 r5 => ?_)⟩
    refine Pv.catT (sqt_stp S5 Lsts.nil h4) h5 (r4.up S5) r5 (by simp only [List.length_append, List.length_take, List.length_drop, ll]; simp; omega) fun q5 z5 H6 S6 h6 r6 => ?_
    have S16 := (S14.trans S5).trans S6
    have lo : (List.take i (longP.map prV) ++ [prV q, prV p] ++ List.drop (i + 2) (longP.map prV)).length ≤ 1200 := by simp only [List.length_append, List.length_take, List.length_drop, ll]; simp; omega
    have no : isSpn (.tup (List.take i (longP.map prV) ++ [prV q, prV p] ++ List.drop (i + 2) (longP.map prV))) = false := spn_bad (a := prV q) (b := prV p) (l := List.take i (longP.map prV)) (r := List.drop (i + 2) (longP.map prV)) (swap_bad okL hp hq) (by simp)
    have ro : Rv K [] H6 (.ref q5) (.tup (List.take i (longP.map prV) ++ [prV q, prV p] ++ List.drop (i + 2) (longP.map prV))) := .tup h6 (by rw [r6.len]; omega) r6
    have rw_ : Rv K [] H6 (.ref c) (spanD longP) := (Spn.rv (sp1.stp S16 Lsts.nil))
    have sm : SmallT (.tup (List.take i (longP.map prV) ++ [prV q, prV p] ++ List.drop (i + 2) (longP.map prV))) := by show _ ≤ 5000; omega
    have sm0 : SmallT (spanD longP) := by show (longP.map prV).length ≤ 5000; omega
    generalize (D.tup (List.take i (longP.map prV) ++ [prV q, prV p] ++ List.drop (i + 2) (longP.map prV))) = dd at *
    refine ⟨_, rfl, [], _, _, rfl, rw_, sm0, fun H7 b7 S7 e7 => ?_⟩
    rw [spn_true okL] at e7
    subst e7
    refine ⟨_, _, rfl, rfl, _, rfl, ite2 (fun _ => ?_) (fun h => absurd (by simp) h)⟩
    refine ⟨_, rfl, [], _, _, rfl, ro.up S7, sm, fun H8 b8 S8 e8 => ?_⟩
    rw [no] at e8
    subst e8
    exact ⟨_, _, rfl, rfl, k _ (((S1.trans S16).trans S7).trans S8)⟩
abbrev s_law : Stmt := topS 27
abbrev N_law : List Str := ["script", "cell", "bag", "pool", "whole", "k", "odd", "pairs"]
theorem sc_law : FnScope ["script", "cell", "bag", "pool", "whole", "k", "odd", "pairs"] ["script"] (defScope s_law) := ⟨rfl, rfl, rfl, by decide +kernel, rfl, by decide +kernel, by decide +kernel⟩

/-! ### the law -/
theorem kb_is_span_value {K : PySem.W.Frag} (f : Addr) (fd : FuncData) (F : Fun K "is_span" "is_span" s_is_span f fd) : KBinds K fd ["value"] ["value"] (fun us ws => match us with | [] => ws | _ :: _ => []) (fun vs zs => match vs with | [] => zs | _ :: _ => []) :=
  kb_of (g := fun ws => ws) (gV := fun zs => zs) F (by simp) (fun _ _ _ _ _ _ ws hl => match ws, hl with | [_], _ => rfl) fun r => r
theorem rpl_ints {K : PySem.W.Frag} {H : Hp} : ∀ {ls : List Int} {vs : List V}, RpL K H vs (ls.map Dt.int) → vs = ls.map V.int
  | [], _, .nil => rfl
  | i :: ls, _, .cons (.int _) r => by rw [rpl_ints r]; rfl
def spLaw (K : PySem.W.Frag) : Sp := fun vs H Q _ => ∃ (a : Addr) (ns : List Int), vs = [.ref a] ∧ SqL K H a (ns.map V.int) ∧ ns.length ≤ 63 ∧ ∀ H', Q (.bl true) H'
theorem cl_law {f : Addr} {fd : FuncData} (Dh : Df K mg "law" s_law ["script"] f fd) (T : Nm mg) (c__law_bag : Cl P w K mg base 1 "_law_bag" s__law_bag ["cell"] spBag) (c__law_draw : Cl P w K mg base 1 "_law_draw" s__law_draw ["bag", "upto"] spDraw)
    (c__law_long_told : Cl P w K mg base 4 "_law_long_told" s__law_long_told ["at"] spLongT) (c__law_some : Cl P w K mg base 3 "_law_some" s__law_some ["bag", "pool"] spSome) (c__law_pair : Cl P w K mg base 4 "_law_pair" s__law_pair ["bag", "pool"] (spPair K)) (c__law_span : Cl P w K mg base 5 "_law_span" s__law_span ["bag", "pool", "upto"] (spSpan K))
    (c_is_span : Cl P w K mg base 3 "is_span" s_is_span ["value"] (spTellS K)) (c__law_odd_span : Cl P w K mg base 3 "_law_odd_span" s__law_odd_span ["bag", "whole", "word"] (spOddS K)) (c__law_apart : Cl P w K mg base 1 "_law_apart" s__law_apart ["pairs"] (spApart K)) :
    FnG P w K mg base 7 f fd ["script"] (spLaw K) := by
  refine Dh.g sc_law (fun vs H Q E h => ?_) (fun cdv A outer s H vs Q E hG hr h => ?_)
  · obtain ⟨a, ns, rfl, _⟩ := h
    rfl
  · obtain ⟨a, ns, rfl, hS, hlen, k⟩ := h
    refine ⟨_, (pss_cons (ps_if (pt_not (pt_val (pe_cl c__law_long_told hr (by omega) (pa_cons (pe_cl c__law_draw hr (by omega) (pa_cons (pe_cl c__law_bag hr (by omega) (pa_cons (pe_callB (cr_sum rfl) (by rfl) T.n_sum (by decide +kernel) (pa_cons (pe_lc (own := [("cell", 1)]) rfl sc_law.nd (pi_list (pv 0)) (blkOk_by (own := [("cell", 1)]) (N := N_law) (sc := defScope s_law) (by decide +kernel)) (fun _ _ _ _ _ => (pg_name (i := 1) sc_law.nd rfl (by first | exact Or.inl rfl | exact Or.inr rfl))) (fun _ _ _ _ _ => pts_nil) (fun _ _ _ _ _ => (pe_callTy call_int1 (by rfl) T.n_int (by decide +kernel) (pa_cons (pv 1) pa_nil)))) pa_nil)) pa_nil)) (pa_cons pe_int pa_nil))) pa_nil)))) (pss_one (ps_ret pe_bl)) pss_nil)
      (pss_cons (ps_for PassesOwn.never rfl (pi_list (pe_op op_cat (pe_slice sl_list (pv 0) po_none (po_some pe_int)) (pe_lst (pa_cons (pe_op op_add (pe_op op_pow pe_int pe_int) pe_int) pa_nil)))) (pg_name (i := 1) sc_law.nd rfl (by first | exact Or.inl rfl | exact Or.inr rfl)) (pss_cons (ps_asg (pe_tup (pa_cons (pe_cl c__law_bag hr (by omega) (pa_cons (pv 1) pa_nil)) (pa_cons (pe_lst pa_nil) pa_nil))) (pg_tup rfl (pgs_cons (pg_name (i := 2) sc_law.nd rfl (by first | exact Or.inl rfl | exact Or.inr rfl)) (pgs_cons (pg_name (i := 3) sc_law.nd rfl (by first | exact Or.inl rfl | exact Or.inr rfl)) pgs_nil (by rfl)) (by rfl)) (by rfl) (by rfl)))
      (pss_cons (ps_set (i := 4) sc_law.nd rfl (by first | exact Or.inl rfl | exact Or.inr rfl) (pe_cl c__law_span hr (by omega) (pa_cons (pv 2) (pa_cons (pv 3) (pa_cons (pe_ix ix_list (pe_lst (pa_cons pe_int (pa_cons pe_int (pa_cons pe_int (pa_cons pe_int pa_nil))))) (pe_cl c__law_draw hr (by omega) (pa_cons (pv 2) (pa_cons pe_int pa_nil))) (fun _ _ => rfl)) pa_nil)))))
      (pss_cons (ps_if (PW.pt (pw_or (pt_cmpR op_notBl (pe_cl c_is_span hr (by omega) (pa_cons (pv 4) pa_nil)) pe_bl (by first | exact nomark _ | rfl)) (pw_or1 (pt_cmpR op_notBl (pe_clK c_is_span hr (by omega) kb_is_span_value (pk_cons (pv 4) pk_nil)) pe_bl (by first | exact nomark _ | rfl))))) (pss_one (ps_ret pe_bl)) pss_nil)
      (pss_cons (ps_for PassesOwn.never rfl (pi_range1 (by rfl) T.n_range (pa_cons pe_int pa_nil)) (pg_name (i := 5) sc_law.nd rfl (by first | exact Or.inl rfl | exact Or.inr rfl)) (pss_cons (ps_set (i := 6) sc_law.nd rfl (by first | exact Or.inl rfl | exact Or.inr rfl) (pe_cl c__law_odd_span hr (by omega) (pa_cons (pv 2) (pa_cons (pv 4) (pa_cons (pe_cl c__law_some hr (by omega) (pa_cons (pv 2) (pa_cons (pv 3) pa_nil))) pa_nil)))))
      (pss_one (ps_if (PW.pt (pw_or (pt_cmpR op_notBl (pe_cl c_is_span hr (by omega) (pa_cons (pv 6) pa_nil)) pe_bl (by first | exact nomark _ | rfl)) (pw_or1 (pt_cmpR op_notBl (pe_clK c_is_span hr (by omega) kb_is_span_value (pk_cons (pv 6) pk_nil)) pe_bl (by first | exact nomark _ | rfl))))) (pss_one (ps_ret pe_bl)) pss_nil))))
      (pss_cons (ps_set (i := 7) sc_law.nd rfl (by first | exact Or.inl rfl | exact Or.inr rfl) (pe_callTy call_tuple_of (by rfl) T.n_tuple (by decide +kernel) (pa_cons (pe_lc (own := [("k", 5)]) rfl sc_law.nd (pi_range1 (by rfl) T.n_range (pa_cons (pe_cl c__law_draw hr (by omega) (pa_cons (pv 2) (pa_cons pe_int pa_nil))) pa_nil)) (blkOk_by (own := [("k", 5)]) (N := N_law) (sc := defScope s_law) (by decide +kernel)) (fun _ _ _ _ _ => (pg_name (i := 5) sc_law.nd rfl (by first | exact Or.inl rfl | exact Or.inr rfl))) (fun _ _ _ _ _ => pts_nil) (fun _ _ _ _ _ => (pe_cl c__law_pair hr (by omega) (pa_cons (pv 2) (pa_cons (pv 3) pa_nil))))) pa_nil)))
      (pss_one (ps_if (pt_cmpR op_ne (pe_callB (Pg.call_repr_neat hG hr) (by rfl) T.n_repr (by decide +kernel) (pa_cons (pe_cl c_is_span hr (by omega) (pa_cons (pv 7) pa_nil)) pa_nil)) (pe_callB (Pg.call_repr_neat hG hr) (by rfl) T.n_repr (by decide +kernel) (pa_cons (pe_cl c__law_apart hr (by omega) (pa_cons (pv 7) pa_nil)) pa_nil)) (by first | exact nomark _ | rfl)) (pss_one (ps_ret pe_bl)) pss_nil))))))))
      (pss_one (ps_ret pe_bl)))), ?_⟩
    refine ⟨_, rfl, a, rfl, ⟨_, hS⟩, fun L nL => ?_⟩
    refine lc_mapL (ds := ns.map Dt.int) nL hS (by simp) (by rw [List.length_map]; omega) (fun j x d H1 hx hd S1 Q2 q => ?_) fun ws H1 S1 h1 r1 => ?_
    · rw [List.getElem?_map] at hx hd
      cases e : ns[j]? with
      | none => rw [e] at hx; cases hx
      | some z =>
        rw [e] at hx hd
        cases hx
        cases hd
        exact ⟨rfl, _, rfl, .inl ⟨z, rfl, q _ _ (Stp.refl _ _) (.int _)⟩⟩
    obtain rfl : ws = ns.map V.int := rpl_ints r1
    refine ⟨L, ns, rfl, SqL.of h1, _, rfl, fun b0 H2 nb0 S2 B0 => ?_⟩
    refine ⟨b0, 1099, 0, rfl, B0, by decide, by decide, by decide, fun z H3 z0 z1 o3 B3 => ?_⟩
    obtain ⟨z, rfl⟩ := Int.eq_ofNat_of_zero_le z0
    refine ⟨z, rfl, by omega, fun H4 S4 => ?_⟩
    refine ⟨_, rfl, ?_⟩
    have S24 : Stp [] H H4 := (S1.trans (Stp.loc nb0 (S2.nil.trans (o3.stp (List.mem_singleton.mpr rfl))))).trans S4
    have hS4 := sql_up S24 hS
    -- the loop
    refine ⟨_, rfl, 30, rfl, a, _, rfl, hS4, fun p1 np1 => ?_⟩
    refine ⟨_, _, rfl, rfl, ⟨by decide, by decide, by decide⟩, _, _, rfl, rfl, (by show 1 ≤ sizeLine; decide), fun p2 np2 => ?_⟩
    have n12 : p1 ≠ p2 := ne_of_none upd_same np2
    have hcut : cutV (ns.map V.int) none (some 30) = (ns.take 30).map V.int := by
      rw [show cutV (ns.map V.int) none (some 30) = _ from cut_upto 30, List.map_take]
    refine ⟨p1, p2, _, _, rfl, rfl, Eq.trans (upd_ne n12) upd_same, upd_same, ?_, fun p3 np3 => ?_⟩
    · rw [hcut, List.length_map, List.length_take]
      exact sz (by simp; omega)
    obtain ⟨cs, ecs⟩ : ∃ cs : List Int, cutV (ns.map V.int) none (some 30) ++ [V.int (10 ^ (18 : Int).toNat + 5)] = cs.map V.int := ⟨ns.take 30 ++ [10 ^ (18 : Int).toNat + 5], by rw [hcut, List.map_append]; rfl⟩
    rw [ecs]
    clear L nL h1 S1 r1 nb0 S2 B0 B3 o3 S4 S24 hS4
    refine ⟨p3, rfl, ⟨_, SqL.of upd_same⟩, for_list (K := K) (a := p3) (xs := cs.map V.int) (fun i σ H1 => ∃ x1 x2 x3 x4 x5 x6 x7 : Option V, σ = [some (.ref a), x1, x2, x3, x4, x5, x6, x7] ∧ H1 p3 = some (.lst (cs.map V.int)))
      ⟨_, _, _, _, _, _, _, rfl, upd_same⟩ (fun i σ H1 _ ⟨_, _, _, _, _, _, _, _, h⟩ => SqL.of h) ?_ (fun σ H1 ⟨x1, x2, x3, x4, x5, x6, x7, e, _⟩ => by rw [e]; exact k _)⟩
    rintro i y σ H1 hi ⟨x1, x2, x3, x4, x5, x6, x7, rfl, h3⟩
    obtain ⟨c0, rfl⟩ : ∃ c, y = V.int c := by
      rw [List.getElem?_map] at hi
      cases e : cs[i]? with
      | none =>
        rw [e] at hi
        cases hi
      | some u =>
        rw [e] at hi
        exact ⟨u, (Option.some.inj hi).symm⟩
    refine ⟨_, rfl, c0, rfl, fun b H2 nb S2 B2 => ?_⟩
    refine ⟨Nat.zero_le _, fun p np => ?_⟩
    have bp : b ≠ p := B2.ne np
    refine ⟨(by show 2 ≤ sizeLine; decide), fun tt ntt => ?_⟩
    refine ⟨tt, _, rfl, SqT.of upd_same, rfl, _, _, rfl, _, _, rfl, rfl, ?_⟩
    have h32 : H2 p3 = some (.lst (cs.map V.int)) := S2.kp _ _ (fun m => nomatch m) h3
    have n3b : p3 ≠ b := ne_of_none h3 nb
    have n3p : p3 ≠ p := ne_of_none h32 np
    have npb : p ∉ [b] := fun m => bp (List.mem_singleton.mp m).symm
    have n3B : p3 ∉ [b] := fun m => n3b (List.mem_singleton.mp m)
    have n3m : p3 ∉ [b, p] := fun m => by
      simp at m
      rcases m with m | m
      · exact n3b m
      · exact n3p m
    have ptt : p ≠ tt := ne_of_none upd_same ntt
    have n3t : p3 ≠ tt := ne_of_none (Eq.trans (upd_ne n3p) h32) ntt
    have Ba0 := B2.upd (o := .lst []) bp
    have Ba := Ba0.upd (o := .tup [.ref b, .ref p]) (Ba0.ne ntt)
    have pa : (upd (upd H2 p (.lst [])) tt (.tup [.ref b, .ref p])) p = some (.lst []) := Eq.trans (upd_ne ptt) upd_same
    have h3a : (upd (upd H2 p (.lst [])) tt (.tup [.ref b, .ref p])) p3 = some (.lst (cs.map V.int)) := by rw [upd_ne n3t, upd_ne n3p]; exact h32
    generalize upd (upd H2 p (.lst [])) tt (.tup [.ref b, .ref p]) = H3 at *
    -- the span
    refine ⟨_, rfl, _, rfl, (by show 4 ≤ sizeLine; decide), fun l nl => ?_⟩
    have B4 := Ba.upd (o := .lst [.int 3, .int 6, .int 6, .int 20]) (Ba.ne nl)
    have S4 : Stp [b] H3 (upd H3 l (.lst [.int 3, .int 6, .int 6, .int 20])) := Stp.new nl _
    refine ⟨_, rfl, b, 4, 0, rfl, B4, by decide, by decide, by decide, fun d H5 d0 d1 o5 B5 => ?_⟩
    have S5 : Stp [b] H3 H5 := S4.trans (o5.stp (List.mem_singleton.mpr rfl))
    have hl5 : H5 l = some (.lst [.int 3, .int 6, .int 6, .int 20]) := o5.at upd_same (Ba.ne nl).symm
    obtain ⟨u, mu, eu⟩ := pick_int (ns := [3, 6, 6, 20]) d0 d1
    have u0 : 0 ≤ u ∧ u ≤ 20 := by
      simp at mu
      omega
    have hp5 : H5 p = some (.lst []) := S5.kp _ _ npb pa
    refine ⟨l, _, d, .int u, rfl, rfl, SqL.of hl5, eu, b, p, 1, u, rfl, u0.1, u0.2, B5, by decide, ⟨hp5, fun l m => nomatch m⟩, bp, fun c ps ls H6 sp lp S6 B6 P6 l6 => ?_⟩
    have h36 := S6.kp _ _ n3m (S5.kp _ _ n3B h3a)
    have ok := sp.ok.ok
    have sm : SmallT (spanD ps) := by show (ps.map prV).length ≤ 5000; rw [List.length_map]; omega
    clear hl5 S4 B4 nl eu mu d0 d1 o5 S5 hp5
    refine ⟨_, rfl, [], _, _, rfl, Spn.rv sp, sm, fun H7 t7 S7 e7 => ?_⟩
    rw [spn_true sp.ok] at e7
    subst e7
    refine ⟨_, _, rfl, rfl, _, rfl, ?_⟩
    refine ⟨_, rfl, [], _, _, rfl, Spn.rv (sp.stp S7 Lsts.nil), sm, fun H8 t8 S8 e8 => ?_⟩
    rw [spn_true sp.ok] at e8
    subst e8
    refine ⟨_, _, rfl, rfl, _, rfl, ?_⟩
    have S68 := S7.trans S8
    have sp8 := sp.stp S68 Lsts.nil
    have B8 := B6.kp S68 (fun m => nomatch m)
    have P8 : Pool H8 p ls := ⟨S68.kp _ _ (fun m => nomatch m) P6.1, P6.2⟩
    have h38 := S68.kp _ _ (fun m => nomatch m) h36
    -- two that are none
    refine ⟨2, rfl, by decide, by decide, for_range (lo := 0) (n := 2) (fun i σ H9 => ∃ (q5 q6 q7 : Option V), σ = [some (.ref a), some (.int c0), some (.ref b), some (.ref p), some (.ref c), q5, q6, q7] ∧ Stp [b] H8 H9 ∧ Bag H9 b (1301 + 30 * i))
      ⟨_, _, _, rfl, Stp.refl _ _, B8⟩ ?_ ?_⟩
    · rintro i σ H9 hi ⟨q5, q6, q7, rfl, S9, B9⟩
      have P9 : Pool H9 p ls := ⟨S9.kp _ _ npb P8.1, P8.2⟩
      have sp9 := sp8.stp S9 (Pv.bag_ls B8)
      refine ⟨_, rfl, _, rfl, _, rfl, _, rfl, b, p, _, ls, rfl, B9, by omega, P9, by omega, bp, fun m HA am lm SA BA => ?_⟩
      refine ⟨b, c, _, ps, m, rfl, sp9.stp SA (Pv.bag_ls B9), lp, lm, BA, by omega, fun v d HB no smd SB BB rb => ?_⟩
      refine ⟨_, rfl, [b], _, d, rfl, rb, smd, fun HC tC SC eC => ?_⟩
      rw [no] at eC
      subst eC
      refine ⟨_, _, rfl, rfl, _, rfl, ?_⟩
      refine ⟨_, rfl, [b], _, d, rfl, rb.up SC, smd, fun HD tD SD eD => ?_⟩
      rw [no] at eD
      subst eD
      refine ⟨_, _, rfl, rfl, _, rfl, ?_⟩
      have SBD := SC.trans SD
      exact ⟨_, _, _, rfl, ((S9.trans SA).trans SB).trans SBD.nil, (BB.kp SBD (fun m => nomatch m)).mono (by omega)⟩
    -- ranges as they come
    rintro σ H9 ⟨q5, q6, q7, rfl, S9, B9⟩
    have P9 : Pool H9 p ls := ⟨S9.kp _ _ npb P8.1, P8.2⟩
    have h39 := S9.kp _ _ n3B h38
    refine ⟨_, rfl, b, 5, _, rfl, B9, by omega, by decide, by decide, fun z Hb z0 z1 ob Bb => ?_⟩
    have Sb : Stp [b] H9 Hb := ob.stp (List.mem_singleton.mpr rfl)
    have Pb : Pool Hb p ls := ⟨Sb.kp _ _ npb P9.1, P9.2⟩
    have h3b := Sb.kp _ _ n3B h39
    refine ⟨z, rfl, by omega, by omega, fun L nL => ?_⟩
    have nLb : L ≠ b := (Bb.ne nL).symm
    have nLp : L ≠ p := (ne_of_none Pb.1 nL).symm
    have nLm : L ∉ [b, p] := fun m => by
      simp at m
      rcases m with m | m
      · exact nLb m
      · exact nLp m
    refine lc_range (lo := 0) (n := z.toNat) (fun i H4 => ∃ (qs : List Pr) (vs : List V) (ls : List (List Nat)), qs.length = i ∧ H4 L = some (.lst vs) ∧ RpL K H4 vs (qs.map prD) ∧ (∀ q ∈ qs, PrOk q) ∧ Stp [b, p] Hb H4 ∧ Bag H4 b (1400 + 60 * i) ∧ Pool H4 p ls ∧ ls.length ≤ 40 + 2 * i)
      ⟨[], [], ls, rfl, upd_same, .nil, fun q m => (nomatch m), Stp.new nL _, (Bb.upd nLb.symm).mono (by omega), ⟨by rw [upd_ne nLp.symm]; exact Pb.1, Pb.2⟩, by omega⟩ ?_ ?_
    · rintro i H4 hi ⟨qs, vs, ls, hl, hL, rl, okq, S4, B4, P4, l4⟩
      refine ⟨rfl, _, rfl, _, rfl, b, p, _, ls, rfl, B4, by omega, P4, by omega, bp, fun t pr ls' H5 rt pk S5 B5 P5 l5 => ?_⟩
      have hL5 : H5 L = some (.lst vs) := S5.kp _ _ nLm hL
      have L4 : Lsts H4 [b, p] := by
        obtain ⟨x, y, z, hb, _⟩ := B4
        exact .cons hb (.one P4.1)
      have s6 : Stp [L] H5 (upd H5 L (.lst (vs ++ [.ref t]))) := Stp.put (by simp)
      refine ⟨vs, hL5, ?_, qs ++ [pr], vs ++ [.ref t], ls', by simp [hl], upd_same, prs_one ((rl.stp S5 L4).stp s6 (.one hL5)) (rt.stp s6 (.one hL5)), fun q m => ?_, (S4.trans S5).mut nL, (B5.upd nLb.symm).mono (by omega), ⟨by rw [upd_ne nLp.symm]; exact P5.1, P5.2⟩, by omega⟩
      · rw [rl.len, List.length_map, hl]
        exact Nat.lt_of_le_of_lt (show i ≤ 1000 by omega) (by decide)
      · rcases List.mem_append.mp m with m | m
        · exact okq q m
        · rw [List.mem_singleton.mp m]
          exact pk
    rintro H4 ⟨qs, vs, ls, hl, hL, rl, okq, S4, B4, P4, l4⟩
    have h34 := S4.kp _ _ n3m h3b
    refine ⟨L, _, rfl, .inl ⟨SqL.of hL, fun t nt => ?_⟩⟩
    have S5 : Stp [] H4 (upd H4 t (.tup vs)) := Stp.new nt _
    have ht5 : SqT K (upd H4 t (.tup vs)) t vs := SqT.of upd_same
    have rl5 := rl.stp S5 Lsts.nil
    generalize upd H4 t (.tup vs) = H5 at *
    have few : qs.length ≤ 10 := by omega
    refine ⟨_, rfl, [], _, spanD qs, rfl, .tup ht5 (by rw [rl.len, List.length_map]; omega) (rps_rv rl5 fun q m => (okq q m).s), (by show (qs.map prV).length ≤ 5000; rw [List.length_map]; omega), fun H6 b6 S6 e6 => ?_⟩
    refine tn ⟨.bl b6, .bool b6, rfl, .bl _, .bl _, by cases b6 <;> decide, by cases b6 <;> decide +kernel, ?_⟩
    refine ⟨_, rfl, t, vs, qs, rfl, sqt_stp S6 Lsts.nil ht5, rl5.stp S6 Lsts.nil, okq, by omega, fun b7 e7 => ?_⟩
    rw [← e6] at e7
    subst e7
    refine tn ⟨.bl b7, .bool b7, rfl, .bl _, .bl _, by cases b7 <;> decide, by cases b7 <;> decide +kernel, ?_⟩
    refine ⟨rfl, _, rfl, ite2 (fun h => absurd h (by simp)) (fun _ => ?_)⟩
    exact ⟨_, _, _, _, _, _, _, rfl, (S5.trans S6).kp _ _ (fun m => nomatch m) h34⟩
/-! ### what the top has written, the head -/
theorem all_mk {l : PySem.W.OpenLaw} {w : World} {K : PySem.W.Frag} {h : Heap} {mg : Str → Option Value} {fa : Addr} (X : K.In h) (G : h.Ns mainGlobals mg) (hfa : mg "law" = some (.ref fa))
    {f0 : Addr} {od0 an0 : Option Addr} {sl0 : Array (Option Value)} {oc0 kV0 dc0 pm0 cd0 ct0 : Value}
    (a0 : PySem.W.nsIn K mainGlobals "is_text" = some (some (.ref f0))) (l0 : K.lookup f0 = some ⟨oc0, od0, .func (PySem.W.fnOf "is_text" "is_text" (defArgs s_is_text) (defBody s_is_text) (defScope s_is_text) .none kV0 dc0 pm0 an0 cd0 ct0), sl0⟩) (c0 : PySem.W.codeIn K cd0 "is_text" = true) (k0 : PySem.W.keepIn K (.ref f0) = true)
    {f1 : Addr} {od1 an1 : Option Addr} {sl1 : Array (Option Value)} {oc1 kV1 dc1 pm1 cd1 ct1 : Value}
    (a1 : PySem.W.nsIn K mainGlobals "is_range" = some (some (.ref f1))) (l1 : K.lookup f1 = some ⟨oc1, od1, .func (PySem.W.fnOf "is_range" "is_range" (defArgs s_is_range) (defBody s_is_range) (defScope s_is_range) .none kV1 dc1 pm1 an1 cd1 ct1), sl1⟩) (c1 : PySem.W.codeIn K cd1 "is_range" = true) (k1 : PySem.W.keepIn K (.ref f1) = true)
    {f2 : Addr} {od2 an2 : Option Addr} {sl2 : Array (Option Value)} {oc2 kV2 dc2 pm2 cd2 ct2 : Value}
    (a2 : PySem.W.nsIn K mainGlobals "is_span" = some (some (.ref f2))) (l2 : K.lookup f2 = some ⟨oc2, od2, .func (PySem.W.fnOf "is_span" "is_span" (defArgs s_is_span) (defBody s_is_span) (defScope s_is_span) .none kV2 dc2 pm2 an2 cd2 ct2), sl2⟩) (c2 : PySem.W.codeIn K cd2 "is_span" = true) (k2 : PySem.W.keepIn K (.ref f2) = true)
    {f3 : Addr} {od3 an3 : Option Addr} {sl3 : Array (Option Value)} {oc3 kV3 dc3 pm3 cd3 ct3 : Value}
    (a3 : PySem.W.nsIn K mainGlobals "reaches" = some (some (.ref f3))) (l3 : K.lookup f3 = some ⟨oc3, od3, .func (PySem.W.fnOf "reaches" "reaches" (defArgs s_reaches) (defBody s_reaches) (defScope s_reaches) .none kV3 dc3 pm3 an3 cd3 ct3), sl3⟩) (c3 : PySem.W.codeIn K cd3 "reaches" = true) (k3 : PySem.W.keepIn K (.ref f3) = true)
    {f4 : Addr} {od4 an4 : Option Addr} {sl4 : Array (Option Value)} {oc4 kV4 dc4 pm4 cd4 ct4 : Value}
    (a4 : PySem.W.nsIn K mainGlobals "_law_bag" = some (some (.ref f4))) (l4 : K.lookup f4 = some ⟨oc4, od4, .func (PySem.W.fnOf "_law_bag" "_law_bag" (defArgs s__law_bag) (defBody s__law_bag) (defScope s__law_bag) .none kV4 dc4 pm4 an4 cd4 ct4), sl4⟩) (c4 : PySem.W.codeIn K cd4 "_law_bag" = true) (k4 : PySem.W.keepIn K (.ref f4) = true)
    {f5 : Addr} {od5 an5 : Option Addr} {sl5 : Array (Option Value)} {oc5 kV5 dc5 pm5 cd5 ct5 : Value}
    (a5 : PySem.W.nsIn K mainGlobals "_law_draw" = some (some (.ref f5))) (l5 : K.lookup f5 = some ⟨oc5, od5, .func (PySem.W.fnOf "_law_draw" "_law_draw" (defArgs s__law_draw) (defBody s__law_draw) (defScope s__law_draw) .none kV5 dc5 pm5 an5 cd5 ct5), sl5⟩) (c5 : PySem.W.codeIn K cd5 "_law_draw" = true) (k5 : PySem.W.keepIn K (.ref f5) = true)
    {f6 : Addr} {od6 an6 : Option Addr} {sl6 : Array (Option Value)} {oc6 kV6 dc6 pm6 cd6 ct6 : Value}
    (a6 : PySem.W.nsIn K mainGlobals "_law_text" = some (some (.ref f6))) (l6 : K.lookup f6 = some ⟨oc6, od6, .func (PySem.W.fnOf "_law_text" "_law_text" (defArgs s__law_text) (defBody s__law_text) (defScope s__law_text) .none kV6 dc6 pm6 an6 cd6 ct6), sl6⟩) (c6 : PySem.W.codeIn K cd6 "_law_text" = true) (k6 : PySem.W.keepIn K (.ref f6) = true)
    {f7 : Addr} {od7 an7 : Option Addr} {sl7 : Array (Option Value)} {oc7 kV7 dc7 pm7 cd7 ct7 : Value}
    (a7 : PySem.W.nsIn K mainGlobals "_law_near" = some (some (.ref f7))) (l7 : K.lookup f7 = some ⟨oc7, od7, .func (PySem.W.fnOf "_law_near" "_law_near" (defArgs s__law_near) (defBody s__law_near) (defScope s__law_near) .none kV7 dc7 pm7 an7 cd7 ct7), sl7⟩) (c7 : PySem.W.codeIn K cd7 "_law_near" = true) (k7 : PySem.W.keepIn K (.ref f7) = true)
    {f8 : Addr} {od8 an8 : Option Addr} {sl8 : Array (Option Value)} {oc8 kV8 dc8 pm8 cd8 ct8 : Value}
    (a8 : PySem.W.nsIn K mainGlobals "_law_past" = some (some (.ref f8))) (l8 : K.lookup f8 = some ⟨oc8, od8, .func (PySem.W.fnOf "_law_past" "_law_past" (defArgs s__law_past) (defBody s__law_past) (defScope s__law_past) .none kV8 dc8 pm8 an8 cd8 ct8), sl8⟩) (c8 : PySem.W.codeIn K cd8 "_law_past" = true) (k8 : PySem.W.keepIn K (.ref f8) = true)
    {f9 : Addr} {od9 an9 : Option Addr} {sl9 : Array (Option Value)} {oc9 kV9 dc9 pm9 cd9 ct9 : Value}
    (a9 : PySem.W.nsIn K mainGlobals "_law_some" = some (some (.ref f9))) (l9 : K.lookup f9 = some ⟨oc9, od9, .func (PySem.W.fnOf "_law_some" "_law_some" (defArgs s__law_some) (defBody s__law_some) (defScope s__law_some) .none kV9 dc9 pm9 an9 cd9 ct9), sl9⟩) (c9 : PySem.W.codeIn K cd9 "_law_some" = true) (k9 : PySem.W.keepIn K (.ref f9) = true)
    {f10 : Addr} {od10 an10 : Option Addr} {sl10 : Array (Option Value)} {oc10 kV10 dc10 pm10 cd10 ct10 : Value}
    (a10 : PySem.W.nsIn K mainGlobals "_law_pair" = some (some (.ref f10))) (l10 : K.lookup f10 = some ⟨oc10, od10, .func (PySem.W.fnOf "_law_pair" "_law_pair" (defArgs s__law_pair) (defBody s__law_pair) (defScope s__law_pair) .none kV10 dc10 pm10 an10 cd10 ct10), sl10⟩) (c10 : PySem.W.codeIn K cd10 "_law_pair" = true) (k10 : PySem.W.keepIn K (.ref f10) = true)
    {f11 : Addr} {od11 an11 : Option Addr} {sl11 : Array (Option Value)} {oc11 kV11 dc11 pm11 cd11 ct11 : Value}
    (a11 : PySem.W.nsIn K mainGlobals "_law_in" = some (some (.ref f11))) (l11 : K.lookup f11 = some ⟨oc11, od11, .func (PySem.W.fnOf "_law_in" "_law_in" (defArgs s__law_in) (defBody s__law_in) (defScope s__law_in) .none kV11 dc11 pm11 an11 cd11 ct11), sl11⟩) (c11 : PySem.W.codeIn K cd11 "_law_in" = true) (k11 : PySem.W.keepIn K (.ref f11) = true)
    {f12 : Addr} {od12 an12 : Option Addr} {sl12 : Array (Option Value)} {oc12 kV12 dc12 pm12 cd12 ct12 : Value}
    (a12 : PySem.W.nsIn K mainGlobals "_law_points" = some (some (.ref f12))) (l12 : K.lookup f12 = some ⟨oc12, od12, .func (PySem.W.fnOf "_law_points" "_law_points" (defArgs s__law_points) (defBody s__law_points) (defScope s__law_points) .none kV12 dc12 pm12 an12 cd12 ct12), sl12⟩) (c12 : PySem.W.codeIn K cd12 "_law_points" = true) (k12 : PySem.W.keepIn K (.ref f12) = true)
    {f13 : Addr} {od13 an13 : Option Addr} {sl13 : Array (Option Value)} {oc13 kV13 dc13 pm13 cd13 ct13 : Value}
    (a13 : PySem.W.nsIn K mainGlobals "_law_pieces" = some (some (.ref f13))) (l13 : K.lookup f13 = some ⟨oc13, od13, .func (PySem.W.fnOf "_law_pieces" "_law_pieces" (defArgs s__law_pieces) (defBody s__law_pieces) (defScope s__law_pieces) .none kV13 dc13 pm13 an13 cd13 ct13), sl13⟩) (c13 : PySem.W.codeIn K cd13 "_law_pieces" = true) (k13 : PySem.W.keepIn K (.ref f13) = true)
    {f14 : Addr} {od14 an14 : Option Addr} {sl14 : Array (Option Value)} {oc14 kV14 dc14 pm14 cd14 ct14 : Value}
    (a14 : PySem.W.nsIn K mainGlobals "_law_due" = some (some (.ref f14))) (l14 : K.lookup f14 = some ⟨oc14, od14, .func (PySem.W.fnOf "_law_due" "_law_due" (defArgs s__law_due) (defBody s__law_due) (defScope s__law_due) .none kV14 dc14 pm14 an14 cd14 ct14), sl14⟩) (c14 : PySem.W.codeIn K cd14 "_law_due" = true) (k14 : PySem.W.keepIn K (.ref f14) = true)
    {f15 : Addr} {od15 an15 : Option Addr} {sl15 : Array (Option Value)} {oc15 kV15 dc15 pm15 cd15 ct15 : Value}
    (a15 : PySem.W.nsIn K mainGlobals "_law_span" = some (some (.ref f15))) (l15 : K.lookup f15 = some ⟨oc15, od15, .func (PySem.W.fnOf "_law_span" "_law_span" (defArgs s__law_span) (defBody s__law_span) (defScope s__law_span) .none kV15 dc15 pm15 an15 cd15 ct15), sl15⟩) (c15 : PySem.W.codeIn K cd15 "_law_span" = true) (k15 : PySem.W.keepIn K (.ref f15) = true)
    {f16 : Addr} {od16 an16 : Option Addr} {sl16 : Array (Option Value)} {oc16 kV16 dc16 pm16 cd16 ct16 : Value}
    (a16 : PySem.W.nsIn K mainGlobals "_law_odd_pair" = some (some (.ref f16))) (l16 : K.lookup f16 = some ⟨oc16, od16, .func (PySem.W.fnOf "_law_odd_pair" "_law_odd_pair" (defArgs s__law_odd_pair) (defBody s__law_odd_pair) (defScope s__law_odd_pair) .none kV16 dc16 pm16 an16 cd16 ct16), sl16⟩) (c16 : PySem.W.codeIn K cd16 "_law_odd_pair" = true) (k16 : PySem.W.keepIn K (.ref f16) = true)
    {f17 : Addr} {od17 an17 : Option Addr} {sl17 : Array (Option Value)} {oc17 kV17 dc17 pm17 cd17 ct17 : Value}
    (a17 : PySem.W.nsIn K mainGlobals "_law_bent_span" = some (some (.ref f17))) (l17 : K.lookup f17 = some ⟨oc17, od17, .func (PySem.W.fnOf "_law_bent_span" "_law_bent_span" (defArgs s__law_bent_span) (defBody s__law_bent_span) (defScope s__law_bent_span) .none kV17 dc17 pm17 an17 cd17 ct17), sl17⟩) (c17 : PySem.W.codeIn K cd17 "_law_bent_span" = true) (k17 : PySem.W.keepIn K (.ref f17) = true)
    {f18 : Addr} {od18 an18 : Option Addr} {sl18 : Array (Option Value)} {oc18 kV18 dc18 pm18 cd18 ct18 : Value}
    (a18 : PySem.W.nsIn K mainGlobals "_law_odd_span" = some (some (.ref f18))) (l18 : K.lookup f18 = some ⟨oc18, od18, .func (PySem.W.fnOf "_law_odd_span" "_law_odd_span" (defArgs s__law_odd_span) (defBody s__law_odd_span) (defScope s__law_odd_span) .none kV18 dc18 pm18 an18 cd18 ct18), sl18⟩) (c18 : PySem.W.codeIn K cd18 "_law_odd_span" = true) (k18 : PySem.W.keepIn K (.ref f18) = true)
    {f19 : Addr} {od19 an19 : Option Addr} {sl19 : Array (Option Value)} {oc19 kV19 dc19 pm19 cd19 ct19 : Value}
    (a19 : PySem.W.nsIn K mainGlobals "_law_apart" = some (some (.ref f19))) (l19 : K.lookup f19 = some ⟨oc19, od19, .func (PySem.W.fnOf "_law_apart" "_law_apart" (defArgs s__law_apart) (defBody s__law_apart) (defScope s__law_apart) .none kV19 dc19 pm19 an19 cd19 ct19), sl19⟩) (c19 : PySem.W.codeIn K cd19 "_law_apart" = true) (k19 : PySem.W.keepIn K (.ref f19) = true)
    {f20 : Addr} {od20 an20 : Option Addr} {sl20 : Array (Option Value)} {oc20 kV20 dc20 pm20 cd20 ct20 : Value}
    (a20 : PySem.W.nsIn K mainGlobals "_law_long" = some (some (.ref f20))) (l20 : K.lookup f20 = some ⟨oc20, od20, .func (PySem.W.fnOf "_law_long" "_law_long" (defArgs s__law_long) (defBody s__law_long) (defScope s__law_long) .none kV20 dc20 pm20 an20 cd20 ct20), sl20⟩) (c20 : PySem.W.codeIn K cd20 "_law_long" = true) (k20 : PySem.W.keepIn K (.ref f20) = true)
    {f21 : Addr} {od21 an21 : Option Addr} {sl21 : Array (Option Value)} {oc21 kV21 dc21 pm21 cd21 ct21 : Value}
    (a21 : PySem.W.nsIn K mainGlobals "_law_long_told" = some (some (.ref f21))) (l21 : K.lookup f21 = some ⟨oc21, od21, .func (PySem.W.fnOf "_law_long_told" "_law_long_told" (defArgs s__law_long_told) (defBody s__law_long_told) (defScope s__law_long_told) .none kV21 dc21 pm21 an21 cd21 ct21), sl21⟩) (c21 : PySem.W.codeIn K cd21 "_law_long_told" = true) (k21 : PySem.W.keepIn K (.ref f21) = true)
    {f22 : Addr} {od22 an22 : Option Addr} {sl22 : Array (Option Value)} {oc22 kV22 dc22 pm22 cd22 ct22 : Value}
    (a22 : PySem.W.nsIn K mainGlobals "law" = some (some (.ref f22))) (l22 : K.lookup f22 = some ⟨oc22, od22, .func (PySem.W.fnOf "law" "law" (defArgs s_law) (defBody s_law) (defScope s_law) .none kV22 dc22 pm22 an22 cd22 ct22), sl22⟩) (c22 : PySem.W.codeIn K cd22 "law" = true) (k22 : PySem.W.keepIn K (.ref f22) = true)
    {C0 : Addr} (aC0 : PySem.W.nsIn K mainGlobals "InvalidSpan" = some (some (.ref C0))) (xC0 : PySem.W.excIn K C0 [.type "ValueError", .type "Exception", .type "BaseException", .type "object"] "ValueError.__new__" = true) (kC0 : PySem.W.keepIn K (.ref C0) = true)
    (hg0 : PySem.W.findIn K (.ref C0) "__getattribute__" = some (some (.builtin "BaseException.__getattribute__")))
    (hk0 : PySem.W.findIn K (.ref C0) "__getattr__" = some none)
    (hs0 : PySem.W.subIn K (.ref C0) (.type "BaseException") = some true)
    (hd0 : PySem.W.hasDictIn K C0 = true)
    (ha0 : PySem.W.findIn K (.ref C0) "__class__" = some (some (.builtin "object.__class__")))
    (hm0 : PySem.W.mroIn K C0 (.type "object") = some true)
    (istr0 : PySem.W.kitOne K (.ref C0) (.type "str") = some false)
    (iint0 : PySem.W.kitOne K (.ref C0) (.type "int") = some false)
    (ibool0 : PySem.W.kitOne K (.ref C0) (.type "bool") = some false)
    (ituple0 : PySem.W.kitOne K (.ref C0) (.type "tuple") = some false)
    (ilist0 : PySem.W.kitOne K (.ref C0) (.type "list") = some false)
    (on : PySem.W.specialIn K (.builtin "object.__class__") "__get__" = some (some (.builtin "getset_descriptor.__get__")))
    (ot : PySem.W.takesIn K (.builtin "object.__class__") = some true)
    (z0 : PySem.W.nsIn K mainGlobals "int" = some none)
    (z1 : PySem.W.nsIn K mainGlobals "len" = some none)
    (z2 : PySem.W.nsIn K mainGlobals "max" = some none)
    (z3 : PySem.W.nsIn K mainGlobals "range" = some none)
    (z4 : PySem.W.nsIn K mainGlobals "type" = some none)
    (z5 : PySem.W.nsIn K mainGlobals "tuple" = some none)
    (z6 : PySem.W.nsIn K mainGlobals "list" = some none)
    (z7 : PySem.W.nsIn K mainGlobals "str" = some none)
    (z8 : PySem.W.nsIn K mainGlobals "bool" = some none)
    (z9 : PySem.W.nsIn K mainGlobals "all" = some none)
    (z10 : PySem.W.nsIn K mainGlobals "sorted" = some none)
    (z11 : PySem.W.nsIn K mainGlobals "set" = some none)
    (z12 : PySem.W.nsIn K mainGlobals "repr" = some none)
    (z13 : PySem.W.nsIn K mainGlobals "min" = some none)
    (z14 : PySem.W.nsIn K mainGlobals "any" = some none)
    (z15 : PySem.W.nsIn K mainGlobals "zip" = some none)
    (z16 : PySem.W.nsIn K mainGlobals "sum" = some none)
    : ∃ fd : FuncData, (∀ (s : Shared) (v : Value), BindsTo s fd ⟨[v], []⟩ [("script", v)]) ∧ ∀ base : Heap, K.In base → base.Ns mainGlobals mg → FnG l.prog w K mg base 7 fa fd ["script"] (spLaw K) := by
  have e := hfa.symm.trans (PySem.W.mg_of X G a22)
  cases e
  have F_is_text := fun_mk (st := s_is_text) l0 c0 k0
  have D_is_text : Df K mg "is_text" s_is_text ["value"] f0 _ := ⟨F_is_text, PySem.W.mg_of X G a0, F_is_text.binds (ps := ["value"]) fun _ _ _ _ _ _ us hl => match us, hl with | [_], _ => rfl⟩
  have F_is_range := fun_mk (st := s_is_range) l1 c1 k1
  have D_is_range : Df K mg "is_range" s_is_range ["value"] f1 _ := ⟨F_is_range, PySem.W.mg_of X G a1, F_is_range.binds (ps := ["value"]) fun _ _ _ _ _ _ us hl => match us, hl with | [_], _ => rfl⟩
  have F_is_span := fun_mk (st := s_is_span) l2 c2 k2
  have D_is_span : Df K mg "is_span" s_is_span ["value"] f2 _ := ⟨F_is_span, PySem.W.mg_of X G a2, F_is_span.binds (ps := ["value"]) fun _ _ _ _ _ _ us hl => match us, hl with | [_], _ => rfl⟩
  have F_reaches := fun_mk (st := s_reaches) l3 c3 k3
  have D_reaches : Df K mg "reaches" s_reaches ["end", "first"] f3 _ := ⟨F_reaches, PySem.W.mg_of X G a3, F_reaches.binds (ps := ["end", "first"]) fun _ _ _ _ _ _ us hl => match us, hl with | [_, _], _ => rfl⟩
  have F__law_bag := fun_mk (st := s__law_bag) l4 c4 k4
  have D__law_bag : Df K mg "_law_bag" s__law_bag ["cell"] f4 _ := ⟨F__law_bag, PySem.W.mg_of X G a4, F__law_bag.binds (ps := ["cell"]) fun _ _ _ _ _ _ us hl => match us, hl with | [_], _ => rfl⟩
  have F__law_draw := fun_mk (st := s__law_draw) l5 c5 k5
  have D__law_draw : Df K mg "_law_draw" s__law_draw ["bag", "upto"] f5 _ := ⟨F__law_draw, PySem.W.mg_of X G a5, F__law_draw.binds (ps := ["bag", "upto"]) fun _ _ _ _ _ _ us hl => match us, hl with | [_, _], _ => rfl⟩
  have F__law_text := fun_mk (st := s__law_text) l6 c6 k6
  have D__law_text : Df K mg "_law_text" s__law_text ["bag"] f6 _ := ⟨F__law_text, PySem.W.mg_of X G a6, F__law_text.binds (ps := ["bag"]) fun _ _ _ _ _ _ us hl => match us, hl with | [_], _ => rfl⟩
  have F__law_near := fun_mk (st := s__law_near) l7 c7 k7
  have D__law_near : Df K mg "_law_near" s__law_near ["bag", "word"] f7 _ := ⟨F__law_near, PySem.W.mg_of X G a7, F__law_near.binds (ps := ["bag", "word"]) fun _ _ _ _ _ _ us hl => match us, hl with | [_, _], _ => rfl⟩
  have F__law_past := fun_mk (st := s__law_past) l8 c8 k8
  have D__law_past : Df K mg "_law_past" s__law_past ["word"] f8 _ := ⟨F__law_past, PySem.W.mg_of X G a8, F__law_past.binds (ps := ["word"]) fun _ _ _ _ _ _ us hl => match us, hl with | [_], _ => rfl⟩
  have F__law_some := fun_mk (st := s__law_some) l9 c9 k9
  have D__law_some : Df K mg "_law_some" s__law_some ["bag", "pool"] f9 _ := ⟨F__law_some, PySem.W.mg_of X G a9, F__law_some.binds (ps := ["bag", "pool"]) fun _ _ _ _ _ _ us hl => match us, hl with | [_, _], _ => rfl⟩
  have F__law_pair := fun_mk (st := s__law_pair) l10 c10 k10
  have D__law_pair : Df K mg "_law_pair" s__law_pair ["bag", "pool"] f10 _ := ⟨F__law_pair, PySem.W.mg_of X G a10, F__law_pair.binds (ps := ["bag", "pool"]) fun _ _ _ _ _ _ us hl => match us, hl with | [_, _], _ => rfl⟩
  have F__law_in := fun_mk (st := s__law_in) l11 c11 k11
  have D__law_in : Df K mg "_law_in" s__law_in ["pairs", "word"] f11 _ := ⟨F__law_in, PySem.W.mg_of X G a11, F__law_in.binds (ps := ["pairs", "word"]) fun _ _ _ _ _ _ us hl => match us, hl with | [_, _], _ => rfl⟩
  have F__law_points := fun_mk (st := s__law_points) l12 c12 k12
  have D__law_points : Df K mg "_law_points" s__law_points ["pairs"] f12 _ := ⟨F__law_points, PySem.W.mg_of X G a12, F__law_points.binds (ps := ["pairs"]) fun _ _ _ _ _ _ us hl => match us, hl with | [_], _ => rfl⟩
  have F__law_pieces := fun_mk (st := s__law_pieces) l13 c13 k13
  have D__law_pieces : Df K mg "_law_pieces" s__law_pieces ["points", "marks"] f13 _ := ⟨F__law_pieces, PySem.W.mg_of X G a13, F__law_pieces.binds (ps := ["points", "marks"]) fun _ _ _ _ _ _ us hl => match us, hl with | [_, _], _ => rfl⟩
  have F__law_due := fun_mk (st := s__law_due) l14 c14 k14
  have D__law_due : Df K mg "_law_due" s__law_due ["pairs"] f14 _ := ⟨F__law_due, PySem.W.mg_of X G a14, F__law_due.binds (ps := ["pairs"]) fun _ _ _ _ _ _ us hl => match us, hl with | [_], _ => rfl⟩
  have F__law_span := fun_mk (st := s__law_span) l15 c15 k15
  have D__law_span : Df K mg "_law_span" s__law_span ["bag", "pool", "upto"] f15 _ := ⟨F__law_span, PySem.W.mg_of X G a15, F__law_span.binds (ps := ["bag", "pool", "upto"]) fun _ _ _ _ _ _ us hl => match us, hl with | [_, _, _], _ => rfl⟩
  have F__law_odd_pair := fun_mk (st := s__law_odd_pair) l16 c16 k16
  have D__law_odd_pair : Df K mg "_law_odd_pair" s__law_odd_pair ["bag", "word"] f16 _ := ⟨F__law_odd_pair, PySem.W.mg_of X G a16, F__law_odd_pair.binds (ps := ["bag", "word"]) fun _ _ _ _ _ _ us hl => match us, hl with | [_, _], _ => rfl⟩
  have F__law_bent_span := fun_mk (st := s__law_bent_span) l17 c17 k17
  have D__law_bent_span : Df K mg "_law_bent_span" s__law_bent_span ["bag", "whole"] f17 _ := ⟨F__law_bent_span, PySem.W.mg_of X G a17, F__law_bent_span.binds (ps := ["bag", "whole"]) fun _ _ _ _ _ _ us hl => match us, hl with | [_, _], _ => rfl⟩
  have F__law_odd_span := fun_mk (st := s__law_odd_span) l18 c18 k18
  have D__law_odd_span : Df K mg "_law_odd_span" s__law_odd_span ["bag", "whole", "word"] f18 _ := ⟨F__law_odd_span, PySem.W.mg_of X G a18, F__law_odd_span.binds (ps := ["bag", "whole", "word"]) fun _ _ _ _ _ _ us hl => match us, hl with | [_, _, _], _ => rfl⟩
  have F__law_apart := fun_mk (st := s__law_apart) l19 c19 k19
  have D__law_apart : Df K mg "_law_apart" s__law_apart ["pairs"] f19 _ := ⟨F__law_apart, PySem.W.mg_of X G a19, F__law_apart.binds (ps := ["pairs"]) fun _ _ _ _ _ _ us hl => match us, hl with | [_], _ => rfl⟩
  have F__law_long := fun_mk (st := s__law_long) l20 c20 k20
  have D__law_long : Df K mg "_law_long" s__law_long [] f20 _ := ⟨F__law_long, PySem.W.mg_of X G a20, F__law_long.binds (ps := []) fun _ _ _ _ _ _ us hl => match us, hl with | [], _ => rfl⟩
  have F__law_long_told := fun_mk (st := s__law_long_told) l21 c21 k21
  have D__law_long_told : Df K mg "_law_long_told" s__law_long_told ["at"] f21 _ := ⟨F__law_long_told, PySem.W.mg_of X G a21, F__law_long_told.binds (ps := ["at"]) fun _ _ _ _ _ _ us hl => match us, hl with | [_], _ => rfl⟩
  have F_law := fun_mk (st := s_law) l22 c22 k22
  have D_law : Df K mg "law" s_law ["script"] fa _ := ⟨F_law, PySem.W.mg_of X G a22, F_law.binds (ps := ["script"]) fun _ _ _ _ _ _ us hl => match us, hl with | [_], _ => rfl⟩
  have T : Nm mg := ⟨PySem.W.mg_none_of X G z0, PySem.W.mg_none_of X G z1, PySem.W.mg_none_of X G z2, PySem.W.mg_none_of X G z3, PySem.W.mg_none_of X G z4, PySem.W.mg_none_of X G z5, PySem.W.mg_none_of X G z6, PySem.W.mg_none_of X G z7, PySem.W.mg_none_of X G z8, PySem.W.mg_none_of X G z9, PySem.W.mg_none_of X G z10, PySem.W.mg_none_of X G z11, PySem.W.mg_none_of X G z12, PySem.W.mg_none_of X G z13, PySem.W.mg_none_of X G z14, PySem.W.mg_none_of X G z15, PySem.W.mg_none_of X G z16⟩
  have TX : Nx K mg C0 := ⟨xC0, PySem.W.mg_of X G aC0, kC0, ⟨⟨hg0, hk0, hs0, hd0, ha0, on, ot, hm0⟩, istr0, iint0, ibool0, ituple0, ilist0⟩⟩
  refine ⟨PySem.W.fnOf "law" "law" (defArgs s_law) (defBody s_law) (defScope s_law) .none kV22 dc22 pm22 an22 cd22 ct22, fun s v => .of_eq rfl, fun base _ _ => ?_⟩
  have c_bag := cl__law_bag (P := l.prog) (w := w) (base := base) D__law_bag T
  have c_draw := cl__law_draw (P := l.prog) (w := w) (base := base) D__law_draw T
  have c_text := cl__law_text D__law_text T c_draw
  have c_near := cl__law_near D__law_near T c_draw
  have c_some := cl__law_some D__law_some T c_draw c_near c_text
  have c_past := cl__law_past (P := l.prog) (w := w) (base := base) D__law_past T
  have c_pair := cl__law_pair D__law_pair T c_draw c_some c_past
  have c_points := cl__law_points (P := l.prog) (w := w) (base := base) D__law_points T
  have c_inL := cl__law_inL (P := l.prog) (w := w) (base := base) D__law_in T
  have c_pieces := cl__law_pieces (P := l.prog) (w := w) (base := base) D__law_pieces T
  have c_due := cl__law_due D__law_due T c_points c_inL c_pieces
  have c_span := cl__law_span D__law_span T c_draw c_pair c_due
  have c_ist := cl_is_text (P := l.prog) (w := w) (base := base) D_is_text T
  have c_isr := cl_is_range D_is_range T c_ist
  have c_rea := cl_reachesG (P := l.prog) (w := w) (base := base) D_reaches T
  have c_iss := cl_is_span D_is_span T c_isr c_rea
  have c_odp := cl__law_odd_pair D__law_odd_pair T TX c_draw
  have c_ben := cl__law_bent_span D__law_bent_span T c_draw
  have c_ods := cl__law_odd_span D__law_odd_span T TX c_draw c_odp c_ben
  have c_apa := cl__law_apart (P := l.prog) (w := w) (base := base) D__law_apart T
  have c_lon := cl__law_long (P := l.prog) (w := w) (base := base) D__law_long T
  have c_lot := cl__law_long_told D__law_long_told T c_lon c_iss
  exact cl_law D_law T c_bag c_draw c_lot c_some c_pair c_span c_iss c_ods c_apa
end
end Kq
open PySem PySem.W PyProof.Rows in
set_option maxRecDepth 100000 in
set_option maxHeartbeats 0 in
theorem PySem.Challenge.cw_pageskips_k03_spans_told_holds : PySem.Challenge.rw_pageskips_k03_spans_told.Holds := by
  w_on; o_law; k_head; (case hw => w_witness2)
  k_fill
  refine Pg.walk_g (l := PySem.Challenge.rw_pageskips_k03_spans_told) (n := 63) (k := 7) (x := "script") (sp := fun w => Kq.spLaw _) rfl (by decide) rfl ⟨rfl, by decide, by decide⟩ (fun w h Y => PySem.W.kIn_of Y) ?F (fun _ _ a ns hl _ hS => ⟨a, ns, rfl, hS, hl, fun _ => rfl⟩)
  case F =>
    intro w mg fa h KX G hmg
    refine' Kq.all_mk KX G hmg ?a0 ?l0 ?c0 ?k0 ?a1 ?l1 ?c1 ?k1 ?a2 ?l2 ?c2 ?k2 ?a3 ?l3 ?c3 ?k3 ?a4 ?l4 ?c4 ?k4 ?a5 ?l5 ?c5 ?k5 ?a6 ?l6 ?c6 ?k6 ?a7 ?l7 ?c7 ?k7 ?a8 ?l8 ?c8 ?k8 ?a9 ?l9 ?c9 ?k9 ?a10 ?l10 ?c10 ?k10 ?a11 ?l11 ?c11 ?k11 ?a12 ?l12 ?c12 ?k12 ?a13 ?l13 ?c13 ?k13 ?a14 ?l14 ?c14 ?k14 ?a15 ?l15 ?c15 ?k15 ?a16 ?l16 ?c16 ?k16 ?a17 ?l17 ?c17 ?k17 ?a18 ?l18 ?c18 ?k18 ?a19 ?l19 ?c19 ?k19 ?a20 ?l20 ?c20 ?k20 ?a21 ?l21 ?c21 ?k21 ?a22 ?l22 ?c22 ?k22 ?aC0 ?xC0 ?kC0 ?hg0 ?hk0 ?hs0 ?hd0 ?ha0 ?hm0 ?istr0 ?iint0 ?ibool0 ?ituple0 ?ilist0 ?on ?ot ?z0 ?z1 ?z2 ?z3 ?z4 ?z5 ?z6 ?z7 ?z8 ?z9 ?z10 ?z11 ?z12 ?z13 ?z14 ?z15 ?z16
    (case a0 => k_is)
    (case l0 => k_is)
    (case c0 => k_is)
    (case k0 => k_is)
    (case a1 => k_is)
    (case l1 => k_is)
    (case c1 => k_is)
    (case k1 => k_is)
    (case a2 => k_is)
    (case l2 => k_is)
    (case c2 => k_is)
    (case k2 => k_is)
    (case a3 => k_is)
    (case l3 => k_is)
    (case c3 => k_is)
    (case k3 => k_is)
    (case a4 => k_is)
    (case l4 => k_is)
    (case c4 => k_is)
    (case k4 => k_is)
    (case a5 => k_is)
    (case l5 => k_is)
    (case c5 => k_is)
    (case k5 => k_is)
    (case a6 => k_is)
    (case l6 => k_is)
    (case c6 => k_is)
    (case k6 => k_is)
    (case a7 => k_is)
    (case l7 => k_is)
    (case c7 => k_is)
    (case k7 => k_is)
    (case a8 => k_is)
    (case l8 => k_is)
    (case c8 => k_is)
    (case k8 => k_is)
    (case a9 => k_is)
    (case l9 => k_is)
    (case c9 => k_is)
    (case k9 => k_is)
    (case a10 => k_is)
    (case l10 => k_is)
    (case c10 => k_is)
    (case k10 => k_is)
    (case a11 => k_is)
    (case l11 => k_is)
    (case c11 => k_is)
    (case k11 => k_is)
    (case a12 => k_is)
    (case l12 => k_is)
    (case c12 => k_is)
    (case k12 => k_is)
    (case a13 => k_is)
    (case l13 => k_is)
    (case c13 => k_is)
    (case k13 => k_is)
    (case a14 => k_is)
    (case l14 => k_is)
    (case c14 => k_is)
    (case k14 => k_is)
    (case a15 => k_is)
    (case l15 => k_is)
    (case c15 => k_is)
    (case k15 => k_is)
    (case a16 => k_is)
    (case l16 => k_is)
    (case c16 => k_is)
    (case k16 => k_is)
    (case a17 => k_is)
    (case l17 => k_is)
    (case c17 => k_is)
    (case k17 => k_is)
    (case a18 => k_is)
    (case l18 => k_is)
    (case c18 => k_is)
    (case k18 => k_is)
    (case a19 => k_is)
    (case l19 => k_is)
    (case c19 => k_is)
    (case k19 => k_is)
    (case a20 => k_is)
    (case l20 => k_is)
    (case c20 => k_is)
    (case k20 => k_is)
    (case a21 => k_is)
    (case l21 => k_is)
    (case c21 => k_is)
    (case k21 => k_is)
    (case a22 => k_is)
    (case l22 => k_is)
    (case c22 => k_is)
    (case k22 => k_is)
    (case aC0 => k_is)
    (case xC0 => k_exc)
    (case kC0 => k_is)
    (case hg0 => k_is)
    (case hk0 => k_is)
    (case hs0 => k_is)
    (case hd0 => k_is)
    (case ha0 => k_is)
    (case hm0 => k_is)
    (case istr0 => first | k_is | kit_is)
    (case iint0 => first | k_is | kit_is)
    (case ibool0 => first | k_is | kit_is)
    (case ituple0 => first | k_is | kit_is)
    (case ilist0 => first | k_is | kit_is)
    (case on => k_is)
    (case ot => k_is)
    (case z0 => k_is)
    (case z1 => k_is)
    (case z2 => k_is)
    (case z3 => k_is)
    (case z4 => k_is)
    (case z5 => k_is)
    (case z6 => k_is)
    (case z7 => k_is)
    (case z8 => k_is)
    (case z9 => k_is)
    (case z10 => k_is)
    (case z11 => k_is)
    (case z12 => k_is)
    (case z13 => k_is)
    (case z14 => k_is)
    (case z15 => k_is)
    (case z16 => k_is)
