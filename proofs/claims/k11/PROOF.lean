import PyProof.Rows.All
import Wide.All
import OpenK.AllK
import Wide.FinOn
import HandS.ForMost
import HandS.Wide
import HandS.TupAny
import HandS.ExcValue
import HandS.Style
import HandS.More
import HandS.Defaults
import HandS.EndBits
import HandS.Flow
import HandS.Zip
import HandS.Star
import HandS.StrMore
import HandS.Set
import HandS.SetTxt0
import HandS.IsInst
import HandS.ExcIs
import KE.KRevSl
import PyProof.Rows.SortShellAny
import HandS.RaiseMore
import HandS.Conv
import HandS.IsInst
import HandS.ExcIs
import KE.KRevSl
import PyProof.InstEq
import KE.DataMinMax
import HandS.SortKw
import PyProof.StrLaws
import PySem.Challenge.RW_pageskips_k11_answers_and_picks
set_option Elab.async false
set_option linter.all false
set_option maxRecDepth 100000
set_option maxHeartbeats 2000000
namespace Pg
open PySem PySem.Spec PyProof.Rows L2
/-! ### heaps: what a piece of the program keeps -/
/-- all that was tracked outside of S stands as it was; in S lists stay lists -/
structure Stp (S : List Addr) (H H' : Hp) : Prop where
  kp : ∀ a o, a ∉ S → H a = some o → H' a = some o
  ls : ∀ a xs, H a = some (.lst xs) → ∃ ys, H' a = some (.lst ys)
theorem Stp.refl (S : List Addr) (H : Hp) : Stp S H H := ⟨fun _ _ _ h => h, fun _ xs h => ⟨xs, h⟩⟩
theorem Stp.trans {S : List Addr} {H H1 H2 : Hp} (a : Stp S H H1) (b : Stp S H1 H2) : Stp S H H2 :=
  ⟨fun x o n h => b.kp x o n (a.kp x o n h), fun x xs h => by
    obtain ⟨ys, h1⟩ := a.ls x xs h
    exact b.ls x ys h1⟩
theorem Stp.sub {S S' : List Addr} {H H' : Hp} (a : Stp S H H') (h : ∀ x ∈ S, x ∈ S') : Stp S' H H' :=
  ⟨fun x o n q => a.kp x o (fun m => n (h x m)) q, a.ls⟩
theorem Stp.nil {S : List Addr} {H H' : Hp} (a : Stp [] H H') : Stp S H H' := a.sub fun _ h => nomatch h
theorem Stp.new {H : Hp} {p : Addr} {o : HO} (h : H p = none) (S : List Addr) : Stp S H (upd H p o) :=
  ⟨fun x u _ q => by rw [upd_ne (ne_of_none q h)]; exact q, fun x xs q => ⟨xs, by rw [upd_ne (ne_of_none q h)]; exact q⟩⟩
theorem Stp.put {S : List Addr} {H : Hp} {p : Addr} {ys : List V} (m : p ∈ S) : Stp S H (upd H p (.lst ys)) :=
  ⟨fun x u n q => by
    rw [upd_ne (fun e => n (by rw [e]; exact m))]
    exact q, fun x xs q => by
    by_cases e : x = p
    · subst e
      exact ⟨ys, upd_same⟩
    · exact ⟨xs, by rw [upd_ne e]; exact q⟩⟩
/-- a local object: it was not there -/
theorem Stp.loc {S : List Addr} {H H' : Hp} {p : Addr} (h : H p = none) (a : Stp (p :: S) H H') : Stp S H H' :=
  ⟨fun x o n q => a.kp x o (fun m => by
    rcases List.mem_cons.mp m with e | m
    · exact ne_of_none q h e
    · exact n m) q, a.ls⟩
theorem Stp.fresh {S : List Addr} {H H' : Hp} {p : Addr} (a : Stp S H H') (n : p ∉ S) (h : H' p = none) : H p = none := by
  cases e : H p with
  | none => rfl
  | some o =>
    rw [a.kp p o n e] at h
    cases h
/-- a list that was not there is changed -/
theorem Stp.mut {S : List Addr} {H H' : Hp} {p : Addr} {ys : List V} (a : Stp S H H') (h : H p = none) : Stp S H (upd H' p (.lst ys)) :=
  ⟨fun x o n q => by
    rw [upd_ne (ne_of_none q h)]
    exact a.kp x o n q, fun x xs q => by
    rw [upd_ne (ne_of_none q h)]
    exact a.ls x xs q⟩
theorem Stp.put' {S : List Addr} {H H' : Hp} {p : Addr} {ys : List V} (a : Stp S H H') (m : p ∈ S) : Stp S H (upd H' p (.lst ys)) := a.trans (Stp.put m)
theorem Stp.new' {S : List Addr} {H H' : Hp} {p : Addr} {o : HO} (a : Stp S H H') (h : H' p = none) : Stp S H (upd H' p o) := a.trans (Stp.new h S)
/-- only the list at p may differ -/
def Only (p : Addr) (H H' : Hp) : Prop := ∃ ys, H' = upd H p (.lst ys)
theorem Only.at {p q : Addr} {H H' : Hp} {o : HO} (h : Only p H H') (e : H q = some o) (n : q ≠ p) : H' q = some o := by
  obtain ⟨ys, rfl⟩ := h
  rw [upd_ne n]
  exact e
theorem Only.stp {p : Addr} {H H' : Hp} {S : List Addr} (h : Only p H H') (m : p ∈ S) : Stp S H H' := by
  obtain ⟨ys, rfl⟩ := h
  exact Stp.put m

/-! ### the draws -/
def BagV (x y z : Int) (n : Nat) : Prop := 0 ≤ x ∧ 0 ≤ y ∧ y < 2 ^ 40 ∧ 0 ≤ z ∧ z ≤ (n : Int)
/-- a bag stands at b, from which at most n draws have been made -/
def Bag (H : Hp) (b : Addr) (n : Nat) : Prop := ∃ x y z, H b = some (.lst [.int x, .int y, .int z]) ∧ BagV x y z n
theorem Bag.mono {H : Hp} {b : Addr} {n m : Nat} (h : Bag H b n) (e : n ≤ m) : Bag H b m := by
  obtain ⟨x, y, z, h1, h2, h3, h4, h5, h6⟩ := h
  exact ⟨x, y, z, h1, h2, h3, h4, h5, by omega⟩
theorem Bag.kp {H H' : Hp} {b : Addr} {n : Nat} {S : List Addr} (h : Bag H b n) (s : Stp S H H') (m : b ∉ S) : Bag H' b n := by
  obtain ⟨x, y, z, h1, h2⟩ := h
  exact ⟨x, y, z, s.kp _ _ m h1, h2⟩
theorem Bag.upd {H : Hp} {b p : Addr} {n : Nat} {o : HO} (h : Bag H b n) (e : b ≠ p) : Bag (L2.upd H p o) b n := by
  obtain ⟨x, y, z, h1, h2⟩ := h
  exact ⟨x, y, z, by rw [upd_ne e]; exact h1, h2⟩
theorem Bag.ne {H : Hp} {b p : Addr} {n : Nat} (h : Bag H b n) (q : H p = none) : b ≠ p := by
  obtain ⟨x, y, z, h1, h2⟩ := h
  exact ne_of_none h1 q
theorem cmul {i j : Int} (a b : Nat) (h1 : 0 ≤ i) (h2 : i < 2 ^ a) (h3 : 0 ≤ j) (h4 : j < 2 ^ b) (ha : 0 < a) (hb : 0 < b) (h : a + b ≤ 1000000) : CMulW i j := by
  refine wide_mul (a := a) (b := b) ?_ ?_ ha hb h
  · have e : ((i.natAbs : Nat) : Int) < ((2 ^ a : Nat) : Int) := by
      rw [Int.natAbs_of_nonneg h1, Int.natCast_pow]
      exact h2
    exact Int.ofNat_lt.mp e
  · have e : ((j.natAbs : Nat) : Int) < ((2 ^ b : Nat) : Int) := by
      rw [Int.natAbs_of_nonneg h3, Int.natCast_pow]
      exact h4
    exact Int.ofNat_lt.mp e
theorem cdiv {i j : Int} (b : Nat) (h1 : 0 < j) (h2 : j < 2 ^ b) (hb : 0 < b) (h9 : b ≤ 9000) : CDivW i j := by
  refine wide_div (b := b) h1 ?_ hb h9
  have e : ((j.natAbs : Nat) : Int) < ((2 ^ b : Nat) : Int) := by
    rw [Int.natAbs_of_nonneg (by omega), Int.natCast_pow]
    exact h2
  exact Int.ofNat_lt.mp e
theorem mul_lt {i j : Int} {a b : Nat} (h1 : 0 ≤ i) (h2 : i < 2 ^ a) (h3 : 0 ≤ j) (h4 : j < 2 ^ b) : 0 ≤ i * j ∧ i * j < 2 ^ (a + b) := by
  refine ⟨Int.mul_nonneg h1 h3, ?_⟩
  have e1 : i * j ≤ i * 2 ^ b := Int.mul_le_mul_of_nonneg_left (Int.le_of_lt h4) h1
  have hp : (0 : Int) < 2 ^ b := Int.pow_pos (by omega)
  have e2 : i * 2 ^ b < 2 ^ a * 2 ^ b := Int.mul_lt_mul_of_pos_right h2 hp
  rw [Int.pow_add]
  omega
/-- a letter for a number -/
theorem genQ {Q : V → Hp → Prop} {H : Hp} {i : Int} (h : ∀ t, t = i → Q (.int t) H) : Q (.int i) H := h i rfl
/-! ### rules of my own -/
section
variable {X : Cx}
/-- 'a' * n -/
theorem op_mul_str : OpR X (binaryOp .Mult) (fun x y H Q => ∃ i j, x = .str i ∧ y = .int j ∧ MulOk i j ∧ Q (.str (Txt.mul i j)) H) := by
  intro pins s σ H x y v u Q I rx ry h
  obtain ⟨i, j, rfl, rfl, hz, q⟩ := h
  obtain ⟨t, rfl⟩ := rx
  obtain ⟨t', rfl⟩ := ry
  exact SB.mul hz (fun t' k => ⟨.str (Txt.mul i j), H, I.tok _, ⟨_, rfl⟩, q⟩)
end
end Pg
namespace Pg
open PySem PySem.Spec PyProof.Rows L2
/-! ### a def of the text: where it stands, what it keeps -/
/-- a def of the text, found by its name -/
structure Df (K : PySem.W.Frag) (mg : Str → Option Value) (x : Str) (st : Stmt) (ps : List Str) (f : Addr) (fd : FuncData) : Prop where
  fn : Fun K x x st f fd
  at_ : mg x = some (.ref f)
  bd : Binds K fd ps []
/-- .. with its promise -/
structure Cl (P : Program) (w : World) (K : PySem.W.Frag) (mg : Str → Option Value) (base : Heap) (k : Nat) (x : Str) (st : Stmt) (ps : List Str) (sp : Sp) : Prop where
  ex : ∃ f fd, Df K mg x st ps f fd ∧ FnOk P w K mg base CX0 k f fd ps sp
theorem Cl.mono {P : Program} {w : World} {K : PySem.W.Frag} {mg : Str → Option Value} {base : Heap} {j k : Nat} {x : Str} {st : Stmt} {ps : List Str} {sp : Sp} (c : Cl P w K mg base j x st ps sp) (h : j ≤ k) : Cl P w K mg base k x st ps sp := by
  obtain ⟨f, fd, D, F⟩ := c.ex
  exact ⟨f, fd, D, F.mono h⟩
theorem Df.cl {P : Program} {w : World} {K : PySem.W.Frag} {mg : Str → Option Value} {base : Heap} {x : Str} {st : Stmt} {f : Addr} {fd : FuncData} {N ps : List Str} {k : Nat} {sp : Sp} (D : Df K mg x st ps f fd) (S : FnScope N ps (defScope st)) (len : ∀ vs H Q E, sp vs H Q E → vs.length = ps.length)
    (hbody : ∀ (cdv : Value) (A : Around) (outer : List Env) (s : Shared) (H : Hp) (vs : List V) (Q : VK) (E : XK), Room k (A.deeper (envOfC x (defScope st) s.heap.objs.size f cdv)) → sp vs H Q E →
      ∃ t, PSs (cxOf CX0 P w K mg base N x (defScope st) f cdv A outer s H E).nox (defBody st) t ∧ t { nx := fun _ H' => Q .non H', rt := Q } (start N vs) H) : Cl P w K mg base (k + 1) x st ps sp :=
  ⟨f, fd, D, D.fn.ok S len hbody⟩
def tCl (sp : Sp) (t : TA) : TE := fun σ H Q => t σ H fun vs H1 => sp vs H1 Q E0
section
variable {X : Cx} {j k : Nat} {st : Stmt} {ps : List Str} {sp : Sp} {x : Str} {p pos : Pos} {e : Expr} {es : List Expr} {t : TA}
theorem pe_cl (c : Cl X.prog X.w X.K X.mg X.base k x st ps sp) (hr : Room j X.A) (hk : k ≤ j) (ha : PA X (e :: es) t) (hg : Gl X x := by rfl) (hdb : (x == ("__debug__" : Str)) = false := by decide)
    (he : starEach (e :: es) X.env = (false, eval e X.env) :: starEach es X.env := by rfl) (hpl : (backTo pos (starEach es X.env)).any (·.1) = false := by rfl) :
    PE X (.Call (.Name x p) (e :: es) [] pos) (tCl sp t) := by
  obtain ⟨f, fd, D, F⟩ := c.ex
  refine ⟨fun pins s σ H Q I h => ?_⟩
  have q := (pe_call (E := E0) (p := p) (F.mono hk) hr hg D.at_ D.fn.kp D.bd .nil pass0 ha hdb he hpl).run pins s σ H Q I
  refine q ?_
  have h' : t σ H (fun vs H1 => sp vs H1 Q E0) := h
  show t σ H fun vs H1 => sp (vs ++ []) H1 Q E0
  simp only [List.append_nil]
  exact h'
theorem pe_cl0 (c : Cl X.prog X.w X.K X.mg X.base k x st ps sp) (hr : Room j X.A) (hk : k ≤ j) (hg : Gl X x := by rfl) (hdb : (x == ("__debug__" : Str)) = false := by decide) :
    PE X (.Call (.Name x p) [] [] pos) (tCl sp tNil) := by
  obtain ⟨f, fd, D, F⟩ := c.ex
  exact pe_call0 (E := E0) (F.mono hk) hr hg D.at_ D.fn.kp D.bd .nil pass0 hdb
/-- f(k = v, ..) -/
def tClK (sp : Sp) (gV : List V → List V → List V) (tk : TA) : TE := fun σ H Q => tk σ H fun zs H1 => sp (gV [] zs) H1 Q E0
theorem pe_clK {ks : List Str} {g : List Value → List Value → List Value} {gV : List V → List V → List V} {kws : List Keyword} {tk : TA} (c : Cl X.prog X.w X.K X.mg X.base k x st ps sp) (hr : Room j X.A) (hk : k ≤ j)
    (hb : ∀ f fd, Fun X.K x x st f fd → KBinds X.K fd ps ks g gV) (hkw : PK X kws tk)
    (hg : Gl X x := by rfl) (hall : (backToKw pos (keywordEach kws X.env)).all (·.1.isSome) = true := by rfl) (hks : (backToKw pos (keywordEach kws X.env)).filterMap (·.1) = ks := by rfl) (hdb : (x == ("__debug__" : Str)) = false := by decide)
    (hpl : ((backTo pos (starEach [] X.env)).any (·.1) || (backToKw pos (keywordEach kws X.env)).any (·.1.isNone)) = false := by rfl) :
    PE X (.Call (.Name x p) [] kws pos) (tClK sp gV tk) := by
  obtain ⟨f, fd, D, F⟩ := c.ex
  refine ⟨fun pins s σ H Q I h => ?_⟩
  refine wpAny_Call_Name_kw (ld_glob I hg D.at_ ?_ hdb)
  refine PySem.W.callWith_KW0 (h₀ := X.base) I.ok.mod.kin D.fn.kp hall ?_ hpl
  refine thn (hkw.run pos pins s σ H _ I h) fun ws s2 ⟨zs, H2, I2, rz, q2⟩ => ⟨I2.kIn, ?_⟩
  rw [hks]
  exact run_fnk (E := E0) (us := []) (vs := []) (F.mono hk) hr (hb f fd D.fn) pass0 I2 .nil rz q2
end
/-- keywords alone, in an order of their own -/
theorem kb_of {K : PySem.W.Frag} {x : Str} {st : Stmt} {f : Addr} {fd : FuncData} {ps ks : List Str} {g : List Value → List Value} {gV : List V → List V} (F : Fun K x x st f fd) (hne : ps ≠ [])
    (h : ∀ (kV doc pm : Value) (an : Option Addr) (cdv ct : Value) (ws : List Value), (g ws).length = ps.length → bindArgs (PySem.W.fnOf x x (defArgs st) (defBody st) (defScope st) .none kV doc pm an cdv ct) ⟨[], ks.zip ws⟩ = pure (ps.zip (g ws)))
    (r : ∀ {zs : List V} {ws : List Value}, Vals zs ws → Vals (gV zs) (g ws)) : KBinds K fd ps ks (fun us ws => match us with | [] => g ws | _ :: _ => []) (fun vs zs => match vs with | [] => gV zs | _ :: _ => []) := by
  obtain ⟨oc, od, kV, doc, pm, an, cdv, ct, osl, rfl, lk, hcd⟩ := F.ex
  refine ⟨fun s us ws _ hl => ?_, fun {vs us zs ws} r1 r2 => ?_⟩
  · cases us with
    | nil => exact .of_eq (h kV doc pm an cdv ct ws hl)
    | cons u us => exact absurd (List.length_eq_zero_iff.mp hl.symm) hne
  · cases r1 with
    | nil => exact r r2
    | cons _ _ => exact .nil
end Pg
namespace Pg
open PySem PySem.Spec PyProof.Rows L2
open Builtin Builtin.Str
/-! ### texts as lists of letters -/
/-- the text of these signs -/
abbrev tx (l : List Nat) : Str := ⟨l.toArray⟩
abbrev Tx (l : List Nat) : V := .str (tx l)
/-- letters a, b, c alone -/
def Abc (l : List Nat) : Prop := ∀ c ∈ l, c = 97 ∨ c = 98 ∨ c = 99
theorem tx_inj {a b : List Nat} (h : tx a = tx b) : a = b := by
  have q : (tx a).cps.toList = (tx b).cps.toList := by rw [h]
  simpa using q
theorem tx_of (s : Str) : ∃ l, s = tx l := ⟨s.cps.toList, by cases s; simp [tx]⟩
theorem tx_len (l : List Nat) : (tx l).length = l.length := by simp [Str.length]
theorem tx_app (a b : List Nat) : tx a ++ tx b = tx (a ++ b) := by
  show (⟨a.toArray ++ b.toArray⟩ : Str) = _
  simp [tx]
theorem tx_cut (l : List Nat) (lo hi : Option Int) : cutS (tx l) lo hi = tx ((l.drop (HT.sIx l.length 0 lo)).take (HT.sIx l.length l.length hi - HT.sIx l.length 0 lo)) := by
  unfold cutS
  rw [tx_len]
theorem tx_upto (l : List Nat) (k : Nat) : cutS (tx l) none (some (k : Int)) = tx (l.take k) := by
  rw [tx_cut, HT.sIx_none, HT.sIx_nat]
  rw [List.drop_zero, Nat.sub_zero]
  rcases Nat.le_total k l.length with h | h
  · rw [Nat.min_eq_left h]
  · rw [Nat.min_eq_right h, List.take_of_length_le (Nat.le_refl _), List.take_of_length_le h]
theorem tx_init (l : List Nat) : cutS (tx l) none (some (-1)) = tx l.dropLast := by
  rw [tx_cut, HT.sIx_none]
  have e : HT.sIx l.length l.length (some (-1)) = l.length - 1 := by
    show (if (-1 : Int) < 0 then ((-1 : Int) + (l.length : Int)).toNat else min (-1 : Int).toNat l.length) = _
    rw [if_pos (by decide)]
    omega
  rw [e, List.drop_zero, Nat.sub_zero, ← List.dropLast_eq_take]
theorem tx_last (l : List Nat) : cutS (tx l) (some (-1)) none = tx (l.drop (l.length - 1)) := by
  rw [tx_cut, HT.sIx_none]
  have e : HT.sIx l.length 0 (some (-1)) = l.length - 1 := by
    show (if (-1 : Int) < 0 then ((-1 : Int) + (l.length : Int)).toNat else min (-1 : Int).toNat l.length) = _
    rw [if_pos (by decide)]
    omega
  rw [e]
  congr 2
  rw [List.take_of_length_le]
  rw [List.length_drop]
  exact Nat.le_refl _
theorem foldl_app_rep {α : Type} (c : α) : ∀ (n : Nat) (acc : Array α), (List.replicate n #[c]).foldl (· ++ ·) acc = acc ++ (List.replicate n c).toArray
  | 0, acc => by simp
  | n + 1, acc => by
    rw [List.replicate_succ, List.foldl_cons, foldl_app_rep c n, List.replicate_succ]
    apply Array.ext'
    simp
theorem tx_mul (c : Nat) (n : Int) : Txt.mul (tx [c]) n = tx (List.replicate n.toNat c) := by
  unfold Txt.mul
  by_cases h : n < 1
  · rw [if_pos h, show n.toNat = 0 by omega]
    rfl
  · rw [if_neg h]
    by_cases h1 : n = 1
    · subst h1
      rfl
    · rw [if_neg (by simp [h1, Str.length])]
      show (⟨(List.replicate n.toNat #[c]).foldl (· ++ ·) #[]⟩ : Str) = _
      rw [foldl_app_rep]
      simp [tx]
theorem mulOk (c : Nat) {n : Int} (h0 : -1000 ≤ n) (h1 : n ≤ 100000) : MulOk (tx [c]) n := by
  refine ⟨by simp; omega, fun a b q => ?_, fun a b => ?_⟩
  · rw [tx_len] at q
    have e : (1 : Int) ≤ (2 ^ 63 - 1) / n := by
      have hp : 0 < n := by omega
      exact (Int.le_ediv_iff_mul_le hp).mpr (by omega)
    have q' : (([c].length : Nat) : Int) = 1 := rfl
    rw [q'] at q
    have e2 : (1 : Int) > (2 ^ 63 - 1) / n := q
    exact absurd e (by omega)
  · rw [tx_len]
    have e : ([c].length * n.toNat) ≤ sizeLine := Nat.le_trans (show [c].length * n.toNat ≤ 100000 by simp; omega) (by decide)
    unfold tooLong
    simpa using e
theorem foldl_app {α : Type} : ∀ (ps : List (List α)) (acc : Array α), (ps.map List.toArray).foldl (fun a p => a ++ p) acc = acc ++ ps.flatten.toArray
  | [], acc => by simp
  | p :: ps, acc => by
    rw [List.map_cons, List.foldl_cons, foldl_app ps, List.flatten_cons]
    apply Array.ext'
    simp
theorem join_abc (cs : List Nat) : Txt.join (tx []) (cs.map fun c => tx [c]) = tx cs := by
  cases cs with
  | nil => rfl
  | cons c cs =>
    show (⟨((cs.map fun c => tx [c])).foldl (fun acc p => acc ++ (tx []).cps ++ p.cps) (tx [c]).cps⟩ : Str) = _
    have e : ∀ (l : List Nat) (acc : Array Nat), (l.map fun c => tx [c]).foldl (fun acc p => acc ++ (tx []).cps ++ p.cps) acc = acc ++ l.toArray := by
      intro l
      induction l with
      | nil => intro acc; simp
      | cons x l ih =>
        intro acc
        rw [List.map_cons, List.foldl_cons, ih]
        apply Array.ext'
        simp
    rw [e]
    simp [tx]
theorem Abc.nil : Abc [] := fun _ h => nomatch h
theorem Abc.app {a b : List Nat} (h : Abc a) (g : Abc b) : Abc (a ++ b) := fun c m => (List.mem_append.mp m).elim (h c) (g c)
theorem Abc.take {a : List Nat} (h : Abc a) (n : Nat) : Abc (a.take n) := fun c m => h c (List.mem_of_mem_take m)
theorem Abc.drop {a : List Nat} (h : Abc a) (n : Nat) : Abc (a.drop n) := fun c m => h c (List.mem_of_mem_drop m)
theorem Abc.init {a : List Nat} (h : Abc a) : Abc a.dropLast := fun c m => h c (List.dropLast_subset _ m)
theorem Abc.rep (n : Nat) {c : Nat} (h : c = 97 ∨ c = 98 ∨ c = 99) : Abc (List.replicate n c) := fun x m => by
  rw [(List.mem_replicate.mp m).2]
  exact h
theorem Abc.one {c : Nat} (h : c = 97 ∨ c = 98 ∨ c = 99) : Abc [c] := fun x m => by
  rw [List.mem_singleton.mp m]
  exact h
theorem abc_lit : ("abc" : Str) = tx [97, 98, 99] := by decide +kernel
theorem nil_lit : ("" : Str) = tx [] := by decide +kernel
theorem goes_abc (c : Nat) : (tx [97, 98, 99]).cps.contains c = true ↔ (c = 97 ∨ c = 98 ∨ c = 99) := by
  simp [tx]
/-- strip('abc') leaves nothing just of letters alone -/
theorem strip_abc (l : List Nat) : (Txt.stripChars (tx l) (tx [97, 98, 99]) = tx []) ↔ Abc l := by
  unfold Txt.stripChars
  rw [stripBy_eq]
  obtain ⟨a1, a2, a3⟩ := lo_facts (tx [97, 98, 99]).cps.contains (tx l)
  obtain ⟨b1, b2, b3, b4⟩ := hi_facts (tx [97, 98, 99]).cps.contains (tx l) _ a1
  generalize stripLo (tx [97, 98, 99]).cps.contains true (tx l) = lo at *
  generalize stripHi (tx [97, 98, 99]).cps.contains true (tx l) lo = hi at *
  have gd : ∀ k, (tx l).cps.getD k 0 = l.getD k 0 := fun k => by rw [← getD_list]
  have hlen : (tx l).length = l.length := tx_len l
  rw [hlen] at a1 a3 b2 b3
  have size : (strSub (tx l) lo hi).length = hi - lo := by
    unfold strSub Str.length
    simp
    omega
  constructor
  · intro h
    have e : hi - lo = 0 := by rw [← size, h]; rfl
    have e2 : hi = lo := by omega
    subst e2
    have all : ∀ k, k < l.length → (tx [97, 98, 99]).cps.contains (l.getD k 0) = true := fun k hk => by
      rw [← gd]
      by_cases q : k < hi
      · exact a2 k q
      · exact b3 k (by omega) hk
    intro c m
    obtain ⟨k, hk, rfl⟩ := List.mem_iff_getElem.mp m
    have := all k hk
    rw [List.getD_eq_getElem?_getD, List.getElem?_eq_getElem hk] at this
    exact (goes_abc _).mp this
  · intro h
    have e : lo = l.length := by
      rcases a3 with e | e
      · exact e
      · by_cases q : lo < l.length
        · rw [gd, List.getD_eq_getElem?_getD, List.getElem?_eq_getElem q] at e
          have := (goes_abc _).mpr (h _ (List.getElem_mem q))
          rw [Option.getD_some] at e
          rw [e] at this
          cases this
        · omega
    have z : (strSub (tx l) lo hi).length = 0 := by omega
    have : (strSub (tx l) lo hi).cps = #[] := Array.eq_empty_of_size_eq_zero z
    cases hh : strSub (tx l) lo hi with
    | mk c =>
      rw [hh] at this
      show (⟨c⟩ : Str) = ⟨#[]⟩
      rw [show c = #[] from this]
/-! ### picking -/
theorem pick {α : Type} {xs : List α} {d : Int} (h0 : 0 ≤ d) (h1 : d < (xs.length : Int)) : ∃ v, v ∈ xs ∧ atI xs d = some v := by
  obtain ⟨k, rfl⟩ := Int.eq_ofNat_of_zero_le h0
  have hk : k < xs.length := by omega
  exact ⟨xs[k], List.getElem_mem hk, atI_nat (List.getElem?_eq_getElem hk)⟩
theorem pick_int {ns : List Int} {d : Int} (h0 : 0 ≤ d) (h1 : d < (ns.length : Int)) : ∃ v, v ∈ ns ∧ atI (ns.map V.int) d = some (.int v) := by
  obtain ⟨v, m, e⟩ := pick (xs := ns.map V.int) h0 (by rw [List.length_map]; exact h1)
  obtain ⟨n, hn, rfl⟩ := List.mem_map.mp m
  exact ⟨n, hn, e⟩
theorem at0 {α : Type} {a : α} {l : List α} : atI (a :: l) 0 = some a := atI_nat (j := 0) rfl
theorem at1 {α : Type} {a b : α} {l : List α} : atI (a :: b :: l) 1 = some b := atI_nat (j := 1) rfl
theorem sz {n : Nat} (h : n ≤ 100000) : n ≤ sizeLine := Nat.le_trans h (by decide)
theorem szt {l : List Nat} (h : l.length ≤ 100000) : (tx l).length ≤ sizeLine := by
  rw [tx_len]
  exact sz h
theorem inV_str (s : Str) : ∀ ws : List Str, inV (.str s) (ws.map V.str) = decide (s ∈ ws)
  | [] => rfl
  | x :: ws => by
    have ih := inV_str s ws
    unfold inV at ih ⊢
    rw [List.map_cons, List.any_cons, ih]
    show ((x == s) || decide (s ∈ ws)) = _
    by_cases e : x = s
    · subst e
      simp
    · have : (x == s) = false := beq_eq_false_iff_ne.mpr e
      rw [this]
      simp
      exact fun q => absurd q.symm e
end Pg
namespace Pg
open PySem PySem.Spec PyProof.Rows L2
/-! ### lists of texts, compared -/
theorem strOk_abc {l : List Nat} (h : Abc l) : PyData.canLay0 (.str (tx l)) = true := by
  unfold PyData.canLay0 PyData.strOk
  simp
  intro c m
  rcases h c m with e | e | e <;> subst e <;> decide
theorem canLay_strs : ∀ {ls : List (List Nat)}, (∀ l ∈ ls, Abc l) → PyData.canLayAll0 (ls.map fun l => .str (tx l)) = true
  | [], _ => rfl
  | l :: ls, h => by
    show (PyData.canLay0 (.str (tx l)) && PyData.canLayAll0 (ls.map fun l => .str (tx l))) = true
    rw [strOk_abc (h l List.mem_cons_self), canLay_strs fun m q => h m (List.mem_cons_of_mem _ q)]
    rfl
theorem depth_strs : ∀ (ls : List (List Nat)), PyData.depthAll (ls.map fun l => .str (tx l)) = 0
  | [] => rfl
  | l :: ls => by
    show max 0 (PyData.depthAll (ls.map fun l => .str (tx l))) = 0
    rw [depth_strs ls]
    rfl
theorem shaped_strs {ls : List (List Nat)} (h : ∀ l ∈ ls, Abc l) : SeqAt.shaped (.list (ls.map fun l => .str (tx l))) = true := by
  unfold SeqAt.shaped
  rw [show PyData.canLay0 (.list (ls.map fun l => .str (tx l))) = true from canLay_strs h]
  rw [show PyData.depth (.list (ls.map fun l => .str (tx l))) = 0 + 1 by show PyData.depthAll _ + 1 = _; rw [depth_strs]]
  rfl
theorem dp_strs {K : PySem.W.Frag} {H : Hp} : ∀ (ls : List (List Nat)), DpAll K H (ls.map Tx) (ls.map fun l => .str (tx l))
  | [] => .nil
  | l :: ls => .cons (.str _) (dp_strs ls)
theorem ne_nil_strs {K : PySem.W.Frag} {H : Hp} {p q : Addr} {ls : List (List Nat)} {Q : VK} (hp : SqL K H p (ls.map Tx)) (h : ∀ l ∈ ls, Abc l) (hq : H q = some (.lst [])) (k : Q (.bl (!ls.isEmpty)) H) : rNeD K (.ref p) (.ref q) H Q := by
  refine ⟨.list (ls.map fun l => .str (tx l)), .list [], .lst hp (dp_strs ls), .lst (SqL.of hq) .nil, shaped_strs h, rfl, ?_⟩
  have e : PyData.eqv (.list (ls.map fun l => .str (tx l))) (.list []) = ls.isEmpty := by
    cases ls with
    | nil => rfl
    | cons l ls => rfl
  rw [e]
  exact k
end Pg
namespace Pg
open PySem PySem.Spec PyProof.Rows L2
/-! ### any values: what they are, as far as the program looks -/
inductive Dt where
  | non | bl (b : Bool) | int (i : Int) | str (l : List Nat) | tup (ds : List Dt) | lst | obj
mutual
def Dt.dep : Dt → Nat
  | .tup ds => Dt.depL ds + 1
  | _ => 0
def Dt.depL : List Dt → Nat
  | [] => 0
  | d :: ds => max d.dep (Dt.depL ds)
end
theorem Dt.dep_mem : ∀ {ds : List Dt} {d : Dt}, d ∈ ds → d.dep ≤ Dt.depL ds
  | e :: ds, d, m => by
    rcases List.mem_cons.mp m with rfl | m
    · exact Nat.le_max_left _ _
    · exact Nat.le_trans (Dt.dep_mem m) (Nat.le_max_right _ _)
theorem Dt.depL_le : ∀ {ds : List Dt} {n : Nat}, (∀ d ∈ ds, d.dep ≤ n) → Dt.depL ds ≤ n
  | [], _, _ => Nat.zero_le _
  | d :: ds, n, h => Nat.max_le.mpr ⟨h d List.mem_cons_self, Dt.depL_le fun e m => h e (List.mem_cons_of_mem _ m)⟩
mutual
inductive Rp (K : PySem.W.Frag) (H : Hp) : V → Dt → Prop
  | non : Rp K H .non .non
  | bl (b : Bool) : Rp K H (.bl b) (.bl b)
  | int (i : Int) : Rp K H (.int i) (.int i)
  | str (l : List Nat) (h : l.length ≤ 100000) : Rp K H (Tx l) (.str l)
  | tup {a : Addr} {vs : List V} {ds : List Dt} : SqT K H a vs → vs.length ≤ 100000 → RpL K H vs ds → Rp K H (.ref a) (.tup ds)
  | lst {a : Addr} {vs : List V} : H a = some (.lst vs) → Rp K H (.ref a) .lst
  | obj {a C : Addr} : H a = some (ExO (.ref C) a) → Rp K H (.ref a) .obj
inductive RpL (K : PySem.W.Frag) (H : Hp) : List V → List Dt → Prop
  | nil : RpL K H [] []
  | cons {v : V} {vs : List V} {d : Dt} {ds : List Dt} : Rp K H v d → RpL K H vs ds → RpL K H (v :: vs) (d :: ds)
end
/-- S has nothing but lists -/
def Lsts (H : Hp) (S : List Addr) : Prop := ∀ p ∈ S, ∃ xs, H p = some (.lst xs)
theorem Lsts.nil {H : Hp} : Lsts H [] := fun _ m => nomatch m
theorem Lsts.one {H : Hp} {p : Addr} {xs : List V} (h : H p = some (.lst xs)) : Lsts H [p] := fun q m => by
  rw [List.mem_singleton.mp m]
  exact ⟨xs, h⟩
theorem Lsts.cons {H : Hp} {p : Addr} {S : List Addr} {xs : List V} (h : H p = some (.lst xs)) (t : Lsts H S) : Lsts H (p :: S) := fun q m => by
  rcases List.mem_cons.mp m with rfl | m
  · exact ⟨xs, h⟩
  · exact t q m
theorem Lsts.stp {H H' : Hp} {S S' : List Addr} (h : Lsts H S) (s : Stp S' H H') : Lsts H' S := fun p m => by
  obtain ⟨xs, e⟩ := h p m
  exact s.ls p xs e
theorem sqt_stp {K : PySem.W.Frag} {H H' : Hp} {S : List Addr} {a : Addr} {vs : List V} (s : Stp S H H') (l : Lsts H S) (h : SqT K H a vs) : SqT K H' a vs := by
  rcases h with (h | ⟨o, h⟩) | h
  · refine .inl (.inl (s.kp a _ (fun m => ?_) h))
    obtain ⟨xs, e⟩ := l a m
    rw [h] at e
    cases e
  · refine .inl (.inr ⟨o, s.kp a _ (fun m => ?_) h⟩)
    obtain ⟨xs, e⟩ := l a m
    rw [h] at e
    cases e
  · exact .inr h
mutual
theorem Rp.stp {K : PySem.W.Frag} {H H' : Hp} {S : List Addr} (s : Stp S H H') (l : Lsts H S) : ∀ {v : V} {d : Dt}, Rp K H v d → Rp K H' v d
  | _, .non, .non => .non
  | _, .bl _, .bl b => .bl b
  | _, .int _, .int i => .int i
  | _, .str _, .str x h => .str x h
  | _, .tup ds, .tup h n r => .tup (sqt_stp s l h) n (RpL.stp s l r)
  | _, .lst, .lst (a := a) (vs := vs) h => by
    obtain ⟨ys, e⟩ := s.ls a vs h
    exact .lst e
  | _, .obj, .obj (a := a) (C := C) h => by
    refine .obj (C := C) (s.kp a _ (fun m => ?_) h)
    obtain ⟨xs, e⟩ := l a m
    rw [h] at e
    cases e
theorem RpL.stp {K : PySem.W.Frag} {H H' : Hp} {S : List Addr} (s : Stp S H H') (l : Lsts H S) : ∀ {vs : List V} {ds : List Dt}, RpL K H vs ds → RpL K H' vs ds
  | _, [], .nil => .nil
  | _, _ :: _, .cons h r => .cons (Rp.stp s l h) (RpL.stp s l r)
end
theorem RpL.len {K : PySem.W.Frag} {H : Hp} : ∀ {vs : List V} {ds : List Dt}, RpL K H vs ds → vs.length = ds.length
  | _, [], .nil => rfl
  | _, _ :: _, .cons _ r => by rw [List.length_cons, List.length_cons, RpL.len r]
theorem RpL.get {K : PySem.W.Frag} {H : Hp} : ∀ {vs : List V} {ds : List Dt} {i : Nat} {v : V}, RpL K H vs ds → vs[i]? = some v → ∃ d, ds[i]? = some d ∧ Rp K H v d
  | _, [], _, _, .nil, e => by simp at e
  | _, d :: _, 0, _, .cons h _, e => by
    simp at e
    subst e
    exact ⟨d, rfl, h⟩
  | _, _ :: _, i + 1, v, .cons _ r, e => RpL.get (i := i) (v := v) r (by simpa using e)
theorem RpL.app {K : PySem.W.Frag} {H : Hp} : ∀ {vs ws : List V} {ds es : List Dt}, RpL K H vs ds → RpL K H ws es → RpL K H (vs ++ ws) (ds ++ es)
  | _, _, [], _, .nil, q => q
  | _, _, _ :: _, _, .cons h r, q => .cons h (RpL.app r q)
theorem RpL.one {K : PySem.W.Frag} {H : Hp} : ∀ {vs : List V} {ds : List Dt}, RpL K H vs ds → vs.length = 1 → ∃ v d, vs = [v] ∧ ds = [d] ∧ Rp K H v d
  | _, [], .nil, h => by simp at h
  | _, [d], .cons h .nil, _ => ⟨_, d, rfl, rfl, h⟩
  | _, _ :: _ :: _, .cons _ (.cons _ _), h => by simp at h
/-! ### type(x), is -/
/-- the name of a value's built-in class; none for an object of the package -/
def Dt.ty : Dt → Option String
  | .non => some "NoneType"
  | .bl _ => some "bool"
  | .int _ => some "int"
  | .str _ => some "str"
  | .tup _ => some "tuple"
  | .lst => some "list"
  | .obj => none
def rTy (K : PySem.W.Frag) : List V → Hp → VK → Prop := fun xs H Q => ∃ x d, xs = [x] ∧ Rp K H x d ∧ ∀ y, (∀ T, d.ty = some T → y = .ty T) → (d.ty = none → ∃ C, y = .ref C) → Q y H
section
variable {X : Cx}
theorem call_type : CallR X (.type "type") (rTy X.K) := by
  intro pins s σ H xs us Q I r h
  obtain ⟨x, d, rfl, rp, q⟩ := h
  have old : ∀ T, TyB X.K H x T → d.ty = some T → wpAny (model X.prog X.w) X.A (call (.type "type") us) (EP X pins σ Q) X.xe s := fun T t e => by
    refine call_type1 pins s σ H [x] us Q I r ⟨x, T, rfl, t, q _ (fun T' e' => ?_) (fun n => ?_)⟩
    · rw [e] at e'
      cases e'
      rfl
    · rw [e] at n
      cases n
  cases rp with
  | non => exact old _ .non rfl
  | bl b => exact old _ (.bl b) rfl
  | int i => exact old _ (.int i) rfl
  | str l hl => exact old _ (.str _) rfl
  | tup hs hn ha => exact old _ (.tup hs) rfl
  | lst hs => exact old _ (.lst (SqL.of hs)) rfl
  | obj ho =>
    rename_i a C
    obtain ⟨u, rfl, rx⟩ := vals1 r
    cases rx
    obtain ⟨⟨oe, vs, e1, ⟨e2, e3⟩, e4, _⟩, _⟩ := I.hok _ _ ho
    obtain ⟨hh, g, dd, t, os⟩ := s
    exact call_type_obj e1 (by rw [e2]; rfl) (by rw [e2]; exact ⟨.ref C, H, I, rfl, q _ (fun T e => nomatch e) (fun _ => ⟨C, rfl⟩)⟩)
def rTyIs (neg : Bool) : R2 := fun x y H Q => ∃ T, y = .ty T ∧ ((∃ T', x = .ty T' ∧ Q (.bl (neg ^^ decide (T' = T))) H) ∨ ∃ C, x = .ref C ∧ Q (.bl neg) H)
theorem op_isTy : OpR X (compareOp .Is) (rTyIs false) := by
  intro pins s σ H x y v u Q I rx ry h
  obtain ⟨T, rfl, ⟨T', rfl, q⟩ | ⟨C, rfl, q⟩⟩ := h
  · exact op_isTyB pins s σ H _ _ _ _ _ I rx ry ⟨T', T, rfl, rfl, by rwa [Bool.false_xor] at q⟩
  · cases (show v = Value.ref C from rx)
    cases (show u = Value.type T from ry)
    exact wpAny_is_other rfl (by intro e; cases e) ⟨.bl false, H, I, rfl, q⟩
theorem op_notTy : OpR X (compareOp .IsNot) (rTyIs true) := by
  intro pins s σ H x y v u Q I rx ry h
  obtain ⟨T, rfl, ⟨T', rfl, q⟩ | ⟨C, rfl, q⟩⟩ := h
  · exact op_notTyB pins s σ H _ _ _ _ _ I rx ry ⟨T', T, rfl, rfl, by rwa [Bool.true_xor] at q⟩
  · cases (show v = Value.ref C from rx)
    cases (show u = Value.type T from ry)
    exact wpAny_isNot_other rfl (by intro e; cases e) ⟨.bl true, H, I, rfl, q⟩
end
/-- type(x) is T, type(x) is not T -/
theorem ty_is {K : PySem.W.Frag} {H : Hp} {x : V} {d : Dt} {T : String} {neg : Bool} {Q : VK} (r : Rp K H x d) (k : Q (.bl (neg ^^ decide (d.ty = some T))) H) : rTy K [x] H fun y H1 => rTyIs neg y (.ty T) H1 Q := by
  refine ⟨x, d, rfl, r, fun y h1 h2 => ⟨T, rfl, ?_⟩⟩
  cases e : d.ty with
  | none =>
    obtain ⟨C, rfl⟩ := h2 e
    refine .inr ⟨C, rfl, ?_⟩
    rw [e] at k
    simpa using k
  | some T' =>
    rw [h1 T' e]
    refine .inl ⟨T', rfl, ?_⟩
    rw [e] at k
    simpa using k
/-! ### type(e) is T as one piece -/
def Mono (te : TE) : Prop := ∀ σ H (Q Q' : VK), (∀ v H', Q v H' → Q' v H') → te σ H Q → te σ H Q'
theorem Mono.var {i : Nat} : Mono (tVar i) := fun σ H Q Q' h ⟨v, e, q⟩ => ⟨v, e, h _ _ q⟩
theorem Mono.c {v : V} : Mono (tC v) := fun σ H Q Q' h q => h _ _ q
theorem Mono.op {r : R2} {ta tb : TE} (ha : Mono ta) (hb : Mono tb) (hr : ∀ x y H (Q Q' : VK), (∀ v H', Q v H' → Q' v H') → r x y H Q → r x y H Q') : Mono (tOp r ta tb) := fun σ H Q Q' h q =>
  ha σ H _ _ (fun x H1 q1 => hb σ H1 _ _ (fun y H2 q2 => hr x y H2 _ _ h q2) q1) q
theorem Mono.ixT {K : PySem.W.Frag} {ta tb : TE} (ha : Mono ta) (hb : Mono tb) : Mono (tOp (rIxT K) ta tb) := Mono.op ha hb fun _ _ _ _ _ h ⟨p, xs, i, v, e1, e2, e3, e4, q⟩ => ⟨p, xs, i, v, e1, e2, e3, e4, h _ _ q⟩
theorem Mono.ixL {K : PySem.W.Frag} {ta tb : TE} (ha : Mono ta) (hb : Mono tb) : Mono (tOp (rIxL K) ta tb) := Mono.op ha hb fun _ _ _ _ _ h ⟨p, xs, i, v, e1, e2, e3, e4, q⟩ => ⟨p, xs, i, v, e1, e2, e3, e4, h _ _ q⟩
def tTyIs (K : PySem.W.Frag) (neg : Bool) (T : String) (te : TE) : TE := fun σ H Q => te σ H fun x H1 => ∃ d, Rp K H1 x d ∧ Q (.bl (neg ^^ decide (d.ty = some T))) H1
def tTTyIs (K : PySem.W.Frag) (neg : Bool) (T : String) (te : TE) : TT := fun σ H Q => te σ H fun x H1 => ∃ d, Rp K H1 x d ∧ Q (neg ^^ decide (d.ty = some T)) H1
section
variable {X : Cx} {e : Expr} {te : TE} {T : String} {x : Str} {p pos q pos2 : Pos}
theorem pe_tyIs (hm : Mono te) (he : PE X e te) (hn : X.mg "type" = none) (hT : X.mg x = none) (hv : bootBuiltins x = some (Value.type T)) (hg : Gl X "type" := by rfl) (hgT : Gl X x := by rfl) (hnn : x ≠ "__name__" := by decide) (hd : (x == ("__debug__" : Str)) = false := by decide)
    (hs : starEach [e] X.env = (false, eval e X.env) :: starEach [] X.env := by rfl) (hpl : (backTo pos (starEach [] X.env)).any (·.1) = false := by rfl) :
    PE X (.Compare (.Call (.Name "type" p) [e] [] pos) [.Is] [.Name x q] pos2) (tTyIs X.K false T te) := by
  have h := pe_cmpR (X := X) (pos := pos2) op_isTy (pe_callTy (p := p) (pos := pos) call_type hg hn (by decide +kernel) (pa_cons he pa_nil (hs := hs)) (he := hs) (hpl := hpl)) (pe_bltn (v := .ty T) (pos := q) hgT hT hv rfl hnn hd) (nomark _)
  refine ⟨fun pins s σ H Q I hw => h.run pins s σ H Q I ?_⟩
  exact hm σ H _ _ (fun v H1 ⟨d, r, k⟩ => ty_is (neg := false) r k) hw
theorem pe_tyNot (hm : Mono te) (he : PE X e te) (hn : X.mg "type" = none) (hT : X.mg x = none) (hv : bootBuiltins x = some (Value.type T)) (hg : Gl X "type" := by rfl) (hgT : Gl X x := by rfl) (hnn : x ≠ "__name__" := by decide) (hd : (x == ("__debug__" : Str)) = false := by decide)
    (hs : starEach [e] X.env = (false, eval e X.env) :: starEach [] X.env := by rfl) (hpl : (backTo pos (starEach [] X.env)).any (·.1) = false := by rfl) :
    PE X (.Compare (.Call (.Name "type" p) [e] [] pos) [.IsNot] [.Name x q] pos2) (tTyIs X.K true T te) := by
  have h := pe_cmpR (X := X) (pos := pos2) op_notTy (pe_callTy (p := p) (pos := pos) call_type hg hn (by decide +kernel) (pa_cons he pa_nil (hs := hs)) (he := hs) (hpl := hpl)) (pe_bltn (v := .ty T) (pos := q) hgT hT hv rfl hnn hd) (nomark _)
  refine ⟨fun pins s σ H Q I hw => h.run pins s σ H Q I ?_⟩
  exact hm σ H _ _ (fun v H1 ⟨d, r, k⟩ => ty_is (neg := true) r k) hw
theorem pt_tyIs (hm : Mono te) (he : PE X e te) (hn : X.mg "type" = none) (hT : X.mg x = none) (hv : bootBuiltins x = some (Value.type T)) (hg : Gl X "type" := by rfl) (hgT : Gl X x := by rfl) (hnn : x ≠ "__name__" := by decide) (hd : (x == ("__debug__" : Str)) = false := by decide)
    (hs : starEach [e] X.env = (false, eval e X.env) :: starEach [] X.env := by rfl) (hpl : (backTo pos (starEach [] X.env)).any (·.1) = false := by rfl) :
    PT X (.Compare (.Call (.Name "type" p) [e] [] pos) [.Is] [.Name x q] pos2) (tTTyIs X.K false T te) := by
  have h := pt_cmpR (X := X) (pos := pos2) op_isTy (pe_callTy (p := p) (pos := pos) call_type hg hn (by decide +kernel) (pa_cons he pa_nil (hs := hs)) (he := hs) (hpl := hpl)) (pe_bltn (v := .ty T) (pos := q) hgT hT hv rfl hnn hd) (nomark _)
  refine ⟨fun pins s σ H Q I hw => h.run pins s σ H Q I ?_⟩
  exact hm σ H _ _ (fun v H1 ⟨d, r, k⟩ => ty_is (neg := false) (Q := fun x H' => ∃ k, x = .bl k ∧ Q k H') r ⟨_, rfl, k⟩) hw
theorem pt_tyNot (hm : Mono te) (he : PE X e te) (hn : X.mg "type" = none) (hT : X.mg x = none) (hv : bootBuiltins x = some (Value.type T)) (hg : Gl X "type" := by rfl) (hgT : Gl X x := by rfl) (hnn : x ≠ "__name__" := by decide) (hd : (x == ("__debug__" : Str)) = false := by decide)
    (hs : starEach [e] X.env = (false, eval e X.env) :: starEach [] X.env := by rfl) (hpl : (backTo pos (starEach [] X.env)).any (·.1) = false := by rfl) :
    PT X (.Compare (.Call (.Name "type" p) [e] [] pos) [.IsNot] [.Name x q] pos2) (tTTyIs X.K true T te) := by
  have h := pt_cmpR (X := X) (pos := pos2) op_notTy (pe_callTy (p := p) (pos := pos) call_type hg hn (by decide +kernel) (pa_cons he pa_nil (hs := hs)) (he := hs) (hpl := hpl)) (pe_bltn (v := .ty T) (pos := q) hgT hT hv rfl hnn hd) (nomark _)
  refine ⟨fun pins s σ H Q I hw => h.run pins s σ H Q I ?_⟩
  exact hm σ H _ _ (fun v H1 ⟨d, r, k⟩ => ty_is (neg := true) (Q := fun x H' => ∃ k, x = .bl k ∧ Q k H') r ⟨_, rfl, k⟩) hw
end
end Pg
namespace Pg
open PySem PySem.Spec PyProof.Rows L2
/-! ### readings are monotone: a piece may be cut off by what it leaves -/
def MonoT (t : TT) : Prop := ∀ σ H (Q Q' : Bool → Hp → Prop), (∀ b H', Q b H' → Q' b H') → t σ H Q → t σ H Q'
def MonoA (t : TA) : Prop := ∀ σ H (Q Q' : List V → Hp → Prop), (∀ vs H', Q vs H' → Q' vs H') → t σ H Q → t σ H Q'
def MonoS (sp : Sp) : Prop := ∀ vs H (Q Q' : VK) E, (∀ v H', Q v H' → Q' v H') → sp vs H Q E → sp vs H Q' E
def MonoR (r : R2) : Prop := ∀ x y H (Q Q' : VK), (∀ v H', Q v H' → Q' v H') → r x y H Q → r x y H Q'
def MonoC (r : List V → Hp → VK → Prop) : Prop := ∀ vs H (Q Q' : VK), (∀ v H', Q v H' → Q' v H') → r vs H Q → r vs H Q'
theorem Mono.cut {te : TE} (m : Mono te) {σ : L2.St} {H : Hp} {Q : VK} (P : V → Hp → Prop) (h : te σ H P) (k : ∀ v H', P v H' → Q v H') : te σ H Q := m σ H P Q k h
theorem MonoT.cut {t : TT} (m : MonoT t) {σ : L2.St} {H : Hp} {Q : Bool → Hp → Prop} (P : Bool → Hp → Prop) (h : t σ H P) (k : ∀ b H', P b H' → Q b H') : t σ H Q := m σ H P Q k h
theorem MonoR.i0 {g : Int → Int → V} : MonoR (rI0 g) := fun _ _ _ _ _ h ⟨i, j, e1, e2, q⟩ => ⟨i, j, e1, e2, h _ _ q⟩
theorem MonoR.i {C : Int → Int → Prop} {g : Int → Int → V} : MonoR (rI C g) := fun _ _ _ _ _ h ⟨i, j, e1, e2, c, q⟩ => ⟨i, j, e1, e2, c, h _ _ q⟩
theorem MonoR.eq : MonoR rEq := fun _ _ _ _ _ h ⟨s, q⟩ => ⟨s, h _ _ q⟩
theorem MonoR.ne : MonoR rNe := fun _ _ _ _ _ h ⟨s, q⟩ => ⟨s, h _ _ q⟩
theorem MonoR.ixL {K : PySem.W.Frag} : MonoR (rIxL K) := fun _ _ _ _ _ h ⟨p, xs, i, v, e1, e2, e3, e4, q⟩ => ⟨p, xs, i, v, e1, e2, e3, e4, h _ _ q⟩
theorem MonoR.ixT {K : PySem.W.Frag} : MonoR (rIxT K) := fun _ _ _ _ _ h ⟨p, xs, i, v, e1, e2, e3, e4, q⟩ => ⟨p, xs, i, v, e1, e2, e3, e4, h _ _ q⟩
theorem MonoR.ixS : MonoR rIxS := fun _ _ _ _ _ h ⟨z, i, c, e1, e2, e3, e4, q⟩ => ⟨z, i, c, e1, e2, e3, e4, h _ _ q⟩
theorem MonoR.inn {K : PySem.W.Frag} {neg : Bool} : MonoR (rIn K neg) := fun _ _ _ _ _ h ⟨p, xs, e1, e2, e3, e4, q⟩ => ⟨p, xs, e1, e2, e3, e4, h _ _ q⟩
theorem MonoR.neD {K : PySem.W.Frag} : MonoR (rNeD K) := fun _ _ _ _ _ h ⟨d, e, a, b, c, f, q⟩ => ⟨d, e, a, b, c, f, h _ _ q⟩
theorem MonoR.eqD {K : PySem.W.Frag} : MonoR (rEqD K) := fun _ _ _ _ _ h ⟨d, e, a, b, c, f, q⟩ => ⟨d, e, a, b, c, f, h _ _ q⟩
theorem MonoR.str {C : Str → Str → Prop} {g : Str → Str → V} : MonoR (fun x y H Q => ∃ i j, x = .str i ∧ y = .str j ∧ C i j ∧ Q (g i j) H) := fun _ _ _ _ _ h ⟨i, j, a, b, c, q⟩ => ⟨i, j, a, b, c, h _ _ q⟩
theorem MonoR.str0 {g : Str → Str → V} : MonoR (fun x y H Q => ∃ i j, x = .str i ∧ y = .str j ∧ Q (g i j) H) := fun _ _ _ _ _ h ⟨i, j, a, b, q⟩ => ⟨i, j, a, b, h _ _ q⟩
theorem Mono.op' {r : R2} {ta tb : TE} (hr : MonoR r) (ha : Mono ta) (hb : Mono tb) : Mono (tOp r ta tb) := Mono.op ha hb hr
theorem Mono.tif {t : TT} {ta tb : TE} (ht : MonoT t) (ha : Mono ta) (hb : Mono tb) : Mono (tIf t ta tb) := fun σ H Q Q' h q => ht σ H _ _ (fun b H1 q1 => by
  cases b with
  | true => exact ha σ H1 _ _ h q1
  | false => exact hb σ H1 _ _ h q1) q
theorem MonoT.test {te : TE} (h : Mono te) : MonoT (tTest te) := fun σ H Q Q' k q => h σ H _ _ (fun x H1 ⟨c, e, q1⟩ => ⟨c, e, k _ _ q1⟩) q
theorem MonoT.b {te : TE} (h : Mono te) : MonoT (tB te) := fun σ H Q Q' k q => h σ H _ _ (fun x H1 ⟨c, e, q1⟩ => ⟨c, e, k _ _ q1⟩) q
theorem MonoT.not {t : TT} (h : MonoT t) : MonoT (tNot t) := fun σ H Q Q' k q => h σ H _ _ (fun b H1 q1 => k _ _ q1) q
theorem MonoT.and {t u : TT} (h : MonoT t) (g : MonoT u) : MonoT (tAnd t u) := fun σ H Q Q' k q => h σ H _ _ (fun b H1 q1 => by
  cases b with
  | true => exact g σ H1 _ _ k q1
  | false => exact k _ _ q1) q
theorem MonoT.or {t u : TT} (h : MonoT t) (g : MonoT u) : MonoT (tOr t u) := fun σ H Q Q' k q => h σ H _ _ (fun b H1 q1 => by
  cases b with
  | true => exact k _ _ q1
  | false => exact g σ H1 _ _ k q1) q
theorem MonoA.nil : MonoA tNil := fun _ _ _ _ h q => h _ _ q
theorem MonoA.cons {te : TE} {ta : TA} (h : Mono te) (g : MonoA ta) : MonoA (tCons te ta) := fun σ H Q Q' k q => h σ H _ _ (fun x H1 q1 => g σ H1 _ _ (fun vs H2 q2 => k _ _ q2) q1) q
theorem Mono.cl {sp : Sp} {ta : TA} (hs : MonoS sp) (ha : MonoA ta) : Mono (tCl sp ta) := fun σ H Q Q' k q => ha σ H _ _ (fun vs H1 q1 => hs vs H1 _ _ E0 k q1) q
theorem Mono.cb {r : List V → Hp → VK → Prop} {ta : TA} (hs : MonoC r) (ha : MonoA ta) : Mono (tCB r ta) := fun σ H Q Q' k q => ha σ H _ _ (fun vs H1 q1 => hs vs H1 _ _ k q1) q
theorem Mono.tup {ta : TA} (ha : MonoA ta) : Mono (tTup ta) := fun σ H Q Q' k q => ha σ H _ _ (fun vs H1 ⟨l, q1⟩ => ⟨l, fun p hp => k _ _ (q1 p hp)⟩) q
theorem Mono.lst {ta : TA} (ha : MonoA ta) : Mono (tLst ta) := fun σ H Q Q' k q => ha σ H _ _ (fun vs H1 ⟨l, q1⟩ => ⟨l, fun p hp => k _ _ (q1 p hp)⟩) q
/-- one of two constants -/
theorem ite_tC {c : Prop} [Decidable c] {a b : V} {σ : L2.St} {H : Hp} {Q : VK} (h : ∀ v, v = a ∨ v = b → Q v H) : if c then tC a σ H Q else tC b σ H Q := by
  split
  · exact h a (.inl rfl)
  · exact h b (.inr rfl)
theorem MonoC.two {g : Int → Int → V} : MonoC (fun xs H Q => ∃ i j, xs = [.int i, .int j] ∧ Q (g i j) H) := fun _ _ _ _ h ⟨i, j, e, q⟩ => ⟨i, j, e, h _ _ q⟩
theorem MonoC.int1 : MonoC (fun xs H Q => (∃ i, xs = [.int i] ∧ Q (.int i) H) ∨ ∃ k : Bool, xs = [.bl k] ∧ Q (.int (if k then 1 else 0)) H) := fun _ _ _ _ h q => by
  rcases q with ⟨i, e, q⟩ | ⟨i, e, q⟩
  · exact .inl ⟨i, e, h _ _ q⟩
  · exact .inr ⟨i, e, h _ _ q⟩
theorem RpL.strs {K : PySem.W.Frag} {H : Hp} : ∀ {ws : List (List Nat)}, (∀ l ∈ ws, l.length ≤ 100000) → RpL K H (ws.map Tx) (ws.map Dt.str)
  | [], _ => .nil
  | l :: ws, h => .cons (.str l (h l List.mem_cons_self)) (RpL.strs fun m q => h m (List.mem_cons_of_mem _ q))
theorem dep_strs : ∀ (ws : List (List Nat)), Dt.depL (ws.map Dt.str) = 0
  | [] => rfl
  | l :: ws => by
    show max 0 (Dt.depL (ws.map Dt.str)) = 0
    rw [dep_strs ws]
    rfl
/-- a text of the program's own as a value -/
theorem Rp.lit {K : PySem.W.Frag} {H : Hp} (s : Str) (h : s.cps.toList.length ≤ 100000 := by decide +kernel) : Rp K H (.str s) (.str s.cps.toList) := by
  have := Rp.str (K := K) (H := H) s.cps.toList h
  have e : tx s.cps.toList = s := by cases s <;> simp [tx]
  rwa [Tx, e] at this
end Pg
namespace Pg
open PySem PySem.Spec PyProof.Rows L2
/-! ### expressions that build data: what they evaluate to -/
def EvD (K : PySem.W.Frag) (te : TE) (σ : L2.St) (H : Hp) (d : Dt) : Prop := ∀ H1, Stp [] H H1 → ∀ Q : VK, (∀ v H2, Stp [] H1 H2 → Rp K H2 v d → Q v H2) → te σ H1 Q
def EvDA (K : PySem.W.Frag) (ta : TA) (σ : L2.St) (H : Hp) (ds : List Dt) : Prop := ∀ H1, Stp [] H H1 → ∀ Q : List V → Hp → Prop, (∀ vs H2, Stp [] H1 H2 → RpL K H2 vs ds → Q vs H2) → ta σ H1 Q
section
variable {K : PySem.W.Frag} {te : TE} {ta : TA} {σ : L2.St} {H : Hp} {d : Dt} {ds : List Dt}
theorem EvD.bl {b : Bool} : EvD K (tC (.bl b)) σ H (.bl b) := fun H1 _ _ k => k _ H1 (Stp.refl _ _) (.bl b)
theorem EvD.int {i : Int} : EvD K (tC (.int i)) σ H (.int i) := fun H1 _ _ k => k _ H1 (Stp.refl _ _) (.int i)
theorem EvD.non : EvD K (tC .non) σ H .non := fun H1 _ _ k => k _ H1 (Stp.refl _ _) .non
theorem EvD.str {s : Str} (h : s.cps.toList.length ≤ 100000 := by decide +kernel) : EvD K (tC (.str s)) σ H (.str s.cps.toList) := fun H1 _ _ k => k _ H1 (Stp.refl _ _) (Rp.lit s h)
theorem EvD.var {i : Nat} {v : V} (r : Rp K H v d) (e : σ[i]? = some (some v) := by rfl) : EvD K (tVar i) σ H d := fun H1 s _ k => ⟨v, e, k v H1 (Stp.refl _ _) (r.stp s Lsts.nil)⟩
theorem EvDA.nil : EvDA K tNil σ H [] := fun H1 _ _ k => k [] H1 (Stp.refl _ _) .nil
theorem EvDA.cons (h : EvD K te σ H d) (g : EvDA K ta σ H ds) : EvDA K (tCons te ta) σ H (d :: ds) := fun H1 s Q k =>
  h H1 s _ fun v H2 s2 r => g H2 (s.trans s2) _ fun vs H3 s3 rs => k (v :: vs) H3 (s2.trans s3) (.cons (r.stp s3 Lsts.nil) rs)
theorem EvD.tup (h : EvDA K ta σ H ds) (hl : ds.length ≤ 1000) : EvD K (tTup ta) σ H (.tup ds) := fun H1 s Q k =>
  h H1 s _ fun vs H2 s2 rs => ⟨sz (by rw [rs.len]; omega), fun p np => k _ _ (s2.new' np) (.tup (SqT.of upd_same) (by rw [rs.len]; omega) (rs.stp (Stp.new np []) Lsts.nil))⟩
theorem EvD.lst (h : EvDA K ta σ H ds) (hl : ds.length ≤ 1000) : EvD K (tLst ta) σ H .lst := fun H1 s Q k =>
  h H1 s _ fun vs H2 s2 rs => ⟨sz (by rw [rs.len]; omega), fun p np => k _ _ (s2.new' np) (.lst upd_same)⟩
theorem EvD.exc {C : Addr} (h : EvD K te σ H d) : EvD K (fun σ H Q => te σ H fun _ H1 => ∀ a, H1 a = none → Q (.ref a) (upd H1 a (ExO (.ref C) a))) σ H .obj := fun H1 s Q k =>
  h H1 s _ fun v H2 s2 _ => fun a na => k _ _ (s2.new' na) (.obj upd_same)
theorem EvD.cat {tb : TE} {a b : List Nat} (h : EvD K te σ H (.str a)) (g : EvD K tb σ H (.str b)) (hl : a.length + b.length ≤ 100000) : EvD K (tOp (fun x y H Q => ∃ i j, x = .str i ∧ y = .str j ∧ i.length + j.length ≤ sizeLine ∧ Q (.str (i ++ j)) H) te tb) σ H (.str (a ++ b)) := fun H1 s Q k =>
  h H1 s _ fun v H2 s2 r => g H2 (s.trans s2) _ fun u H3 s3 q => by
    cases r with
    | str _ h1 =>
      cases q with
      | str _ h2 =>
        refine ⟨tx a, tx b, rfl, rfl, by rw [tx_len, tx_len]; exact sz hl, ?_⟩
        rw [tx_app]
        exact k _ _ (s2.trans s3) (.str _ (by rw [List.length_append]; exact hl))
theorem EvD.pow {i j : Int} (h : CPow i j) : EvD K (tOp (rI CPow fun i j => .int (i ^ j.toNat)) (tC (.int i)) (tC (.int j))) σ H (.int (i ^ j.toNat)) := fun H1 s Q k =>
  ⟨i, j, rfl, rfl, h, k _ _ (Stp.refl _ _) (.int _)⟩
theorem EvD.neg {i : Int} : EvD K (tUn (rU fun i => .int (-i)) (tC (.int i))) σ H (.int (-i)) := fun H1 s Q k => ⟨i, rfl, k _ _ (Stp.refl _ _) (.int _)⟩
/-- list(t) of a tuple -/
theorem EvD.list (h : EvD K te σ H (.tup ds)) : EvD K (tCB (fun xs H Q => ∃ p ys, xs = [.ref p] ∧ (SqL K H p ys ∨ SqT K H p ys) ∧ ∀ l, H l = none → Q (.ref l) (upd H l (.lst ys))) (tCons te tNil)) σ H .lst := fun H1 s Q k =>
  h H1 s _ fun v H2 s2 r => by
    cases r with
    | tup hs hn rl => exact ⟨_, _, rfl, .inr hs, fun l nl => k _ _ (s2.new' nl) (.lst upd_same)⟩
theorem EvDA.use (h : EvDA K ta σ H ds) {Q : List V → Hp → Prop} (k : ∀ vs H2, Stp [] H H2 → RpL K H2 vs ds → Q vs H2) : ta σ H Q := h H (Stp.refl _ _) Q k
theorem EvD.use (h : EvD K te σ H d) {Q : VK} (k : ∀ v H2, Stp [] H H2 → Rp K H2 v d → Q v H2) : te σ H Q := h H (Stp.refl _ _) Q k
/-- a new list of data -/
theorem EvDA.newl (h : EvDA K ta σ H ds) (hl : ds.length ≤ 1000) {Q : VK} (k : ∀ p vs H2, Stp [] H H2 → H p = none → H2 p = some (.lst vs) → RpL K H2 vs ds → Q (.ref p) H2) : tLst ta σ H Q :=
  h.use fun vs H2 s rs => ⟨sz (by rw [rs.len]; omega), fun p np => k p vs _ (s.new' np) (s.fresh (fun m => nomatch m) np) upd_same (rs.stp (Stp.new np []) Lsts.nil)⟩
end
/-! ### tuples put together, cut -/
theorem catA_use {K : PySem.W.Frag} {H : Hp} {a b : Addr} {xs ys : List V} {Q : VK} (ha : SqT K H a xs) (hb : SqT K H b ys) (hl : xs.length + ys.length ≤ 100000) (k : ∀ p H', Stp [] H H' → SqT K H' p (xs ++ ys) → Q (.ref p) H') : rCatA K (.ref a) (.ref b) H Q := by
  refine ⟨a, b, xs, ys, rfl, rfl, ha, hb, sz hl, fun e => ?_, fun _ e => ?_, fun _ _ p np => ?_⟩
  · subst e
    exact k b H (Stp.refl _ _) hb
  · subst e
    refine k a H (Stp.refl _ _) ?_
    rw [List.append_nil]
    exact ha
  · exact k p _ (Stp.new np _) (SqT.of upd_same)
theorem slA_use {K : PySem.W.Frag} {H : Hp} {a : Addr} {xs : List V} {lo hi : Option Int} {Q : VK} (ha : SqT K H a xs) (k : ∀ p H', Stp [] H H' → SqT K H' p (cutV xs lo hi) → Q (.ref p) H') : rSlA K (.ref a) lo hi H Q := by
  refine ⟨a, xs, rfl, ha, fun ⟨e1, e2⟩ => ?_, fun _ p np => ?_⟩
  · refine k a H (Stp.refl _ _) ?_
    have e : cutV xs lo hi = xs := by
      unfold cutV
      rw [e1, e2, List.drop_zero, Nat.sub_zero, List.take_length]
    rw [e]
    exact ha
  · exact k p _ (Stp.new np _) (SqT.of upd_same)
theorem cut_upto {xs : List V} (k : Nat) : cutV xs none (some (k : Int)) = xs.take k := by
  unfold cutV
  rw [HT.sIx_none, HT.sIx_nat, List.drop_zero, Nat.sub_zero]
  rcases Nat.le_total k xs.length with h | h
  · rw [Nat.min_eq_left h]
  · rw [Nat.min_eq_right h, List.take_of_length_le (Nat.le_refl _), List.take_of_length_le h]
theorem cut_from {xs : List V} (k : Nat) : cutV xs (some (k : Int)) none = xs.drop k := by
  unfold cutV
  rw [HT.sIx_none, HT.sIx_nat]
  rcases Nat.le_total k xs.length with h | h
  · rw [Nat.min_eq_left h, List.take_of_length_le (by rw [List.length_drop]; exact Nat.le_refl _)]
  · rw [Nat.min_eq_right h, List.drop_length, List.drop_of_length_le h, List.take_nil]
theorem RpL.take {K : PySem.W.Frag} {H : Hp} : ∀ {vs : List V} {ds : List Dt} (n : Nat), RpL K H vs ds → RpL K H (vs.take n) (ds.take n)
  | _, _, 0, _ => by rw [List.take_zero, List.take_zero]; exact .nil
  | _, [], _ + 1, .nil => .nil
  | _, _ :: _, n + 1, .cons h r => .cons h (RpL.take n r)
theorem RpL.drop {K : PySem.W.Frag} {H : Hp} : ∀ {vs : List V} {ds : List Dt} (n : Nat), RpL K H vs ds → RpL K H (vs.drop n) (ds.drop n)
  | _, _, 0, r => r
  | _, [], _ + 1, .nil => .nil
  | _, _ :: _, n + 1, .cons _ r => RpL.drop n r
/-! ### heads of statements -/
theorem asg_name {te : TE} {i : Nat} {u : TS} {D : Ends} {σ : L2.St} {H : Hp} (h : te σ H fun x H1 => u D (σ.set i (some x)) H1) : tSeq (tAsg te (gName i)) u D σ H := h
theorem op_var {r : R2} {i : Nat} {tb : TE} {σ : L2.St} {H : Hp} {Q : VK} {v : V} (e : σ[i]? = some (some v)) (h : tb σ H fun y H2 => r v y H2 Q) : tOp r (tVar i) tb σ H Q := ⟨v, e, h⟩
theorem nopart {σ : L2.St} {H : Hp} {Q : Option Int → Hp → Prop} (h : Q none H) : tNoPart σ H Q := h
end Pg
namespace Pv
open PySem PySem.Spec PyProof.Rows L2 Pg
/-! ### values with all that is in them -/
inductive D where
  | non | bl (b : Bool) | int (i : Int) | str (l : List Nat) | tup (ds : List D) | lst (ds : List D) | obj (C : Addr)
mutual
def D.old : D → Dt
  | .non => .non
  | .bl b => .bl b
  | .int i => .int i
  | .str l => .str l
  | .tup ds => .tup (D.olds ds)
  | .lst _ => .lst
  | .obj _ => .obj
def D.olds : List D → List Dt
  | [] => []
  | d :: ds => d.old :: D.olds ds
end
def D.ty (d : D) : Option String := d.old.ty
/-- isinstance(d, T) -/
def D.isi (T : String) : D → Bool
  | .bl _ => T == "bool" || T == "int"
  | .int _ => T == "int"
  | .str _ => T == "str"
  | .tup _ => T == "tuple"
  | .lst _ => T == "list"
  | _ => false
/-- what the class of an object says -/
structure OkC (K : PySem.W.Frag) (C : Addr) : Prop where
  exc : ExcC K C
  is_str : PySem.W.kitOne K (.ref C) (.type "str") = some false
  is_int : PySem.W.kitOne K (.ref C) (.type "int") = some false
  is_bool : PySem.W.kitOne K (.ref C) (.type "bool") = some false
  is_tuple : PySem.W.kitOne K (.ref C) (.type "tuple") = some false
  is_list : PySem.W.kitOne K (.ref C) (.type "list") = some false
mutual
/-- v is d; no list in it stands at an address of S -/
inductive Rv (K : PySem.W.Frag) (S : List Addr) (H : Hp) : V → D → Prop
  | non : Rv K S H .non .non
  | bl (b : Bool) : Rv K S H (.bl b) (.bl b)
  | int (i : Int) : Rv K S H (.int i) (.int i)
  | str (l : List Nat) (h : l.length ≤ 100000) : Rv K S H (Tx l) (.str l)
  | tup {a : Addr} {vs : List V} {ds : List D} : SqT K H a vs → vs.length ≤ 100000 → RvL K S H vs ds → Rv K S H (.ref a) (.tup ds)
  | lst {a : Addr} {vs : List V} {ds : List D} : H a = some (.lst vs) → a ∉ S → vs.length ≤ 100000 → RvL K S H vs ds → Rv K S H (.ref a) (.lst ds)
  | obj {a C : Addr} : H a = some (ExO (.ref C) a) → OkC K C → Rv K S H (.ref a) (.obj C)
inductive RvL (K : PySem.W.Frag) (S : List Addr) (H : Hp) : List V → List D → Prop
  | nil : RvL K S H [] []
  | cons {v : V} {vs : List V} {d : D} {ds : List D} : Rv K S H v d → RvL K S H vs ds → RvL K S H (v :: vs) (d :: ds)
end
section
variable {K : PySem.W.Frag} {S : List Addr} {H H' : Hp}
mutual
theorem Rv.old : ∀ {v : V} {d : D}, Rv K S H v d → Rp K H v d.old
  | _, .non, .non => .non
  | _, .bl _, .bl b => .bl b
  | _, .int _, .int i => .int i
  | _, .str _, .str x h => .str x h
  | _, .tup ds, .tup h n r => .tup h n (RvL.old r)
  | _, .lst _, .lst h _ _ _ => .lst h
  | _, .obj _, .obj h _ => .obj h
theorem RvL.old : ∀ {vs : List V} {ds : List D}, RvL K S H vs ds → RpL K H vs (D.olds ds)
  | _, [], .nil => .nil
  | _, _ :: _, .cons h r => .cons (Rv.old h) (RvL.old r)
end
mutual
theorem Rv.fr {S' : List Addr} (s : Stp S' H H') (l : Lsts H S') (sub : ∀ x ∈ S', x ∈ S) : ∀ {v : V} {d : D}, Rv K S H v d → Rv K S H' v d
  | _, .non, .non => .non
  | _, .bl _, .bl b => .bl b
  | _, .int _, .int i => .int i
  | _, .str _, .str x h => .str x h
  | _, .tup ds, .tup h n r => .tup (sqt_stp s l h) n (RvL.fr s l sub r)
  | _, .lst ds, .lst h o n r => .lst (s.kp _ _ (fun m => o (sub _ m)) h) o n (RvL.fr s l sub r)
  | _, .obj _, .obj (a := a) (C := C) h k => by
    refine .obj (C := C) (s.kp a _ (fun m => ?_) h) k
    obtain ⟨xs, e⟩ := l a m
    rw [h] at e
    cases e
theorem RvL.fr {S' : List Addr} (s : Stp S' H H') (l : Lsts H S') (sub : ∀ x ∈ S', x ∈ S) : ∀ {vs : List V} {ds : List D}, RvL K S H vs ds → RvL K S H' vs ds
  | _, [], .nil => .nil
  | _, _ :: _, .cons h r => .cons (Rv.fr s l sub h) (RvL.fr s l sub r)
end
theorem Rv.stp {v : V} {d : D} (r : Rv K S H v d) (s : Stp S H H') (l : Lsts H S) : Rv K S H' v d := Rv.fr s l (fun _ m => m) r
theorem RvL.stp {vs : List V} {ds : List D} (r : RvL K S H vs ds) (s : Stp S H H') (l : Lsts H S) : RvL K S H' vs ds := RvL.fr s l (fun _ m => m) r
theorem Rv.up {v : V} {d : D} (r : Rv K S H v d) (s : Stp [] H H') : Rv K S H' v d := Rv.fr s Lsts.nil (fun _ m => nomatch m) r
theorem RvL.up {vs : List V} {ds : List D} (r : RvL K S H vs ds) (s : Stp [] H H') : RvL K S H' vs ds := RvL.fr s Lsts.nil (fun _ m => nomatch m) r
mutual
theorem Rv.sub {S' : List Addr} (h : ∀ x ∈ S', x ∈ S) : ∀ {v : V} {d : D}, Rv K S H v d → Rv K S' H v d
  | _, .non, .non => .non
  | _, .bl _, .bl b => .bl b
  | _, .int _, .int i => .int i
  | _, .str _, .str x h => .str x h
  | _, .tup ds, .tup q n r => .tup q n (RvL.sub h r)
  | _, .lst ds, .lst q o n r => .lst q (fun m => o (h _ m)) n (RvL.sub h r)
  | _, .obj _, .obj q k => .obj q k
theorem RvL.sub {S' : List Addr} (h : ∀ x ∈ S', x ∈ S) : ∀ {vs : List V} {ds : List D}, RvL K S H vs ds → RvL K S' H vs ds
  | _, [], .nil => .nil
  | _, _ :: _, .cons q r => .cons (Rv.sub h q) (RvL.sub h r)
end
theorem RvL.len : ∀ {vs : List V} {ds : List D}, RvL K S H vs ds → vs.length = ds.length
  | _, [], .nil => rfl
  | _, _ :: _, .cons _ r => by rw [List.length_cons, List.length_cons, RvL.len r]
theorem RvL.get : ∀ {vs : List V} {ds : List D} {i : Nat} {v : V}, RvL K S H vs ds → vs[i]? = some v → ∃ d, ds[i]? = some d ∧ Rv K S H v d
  | _, [], _, _, .nil, e => by simp at e
  | _, d :: _, 0, _, .cons h _, e => by
    simp at e
    subst e
    exact ⟨d, rfl, h⟩
  | _, _ :: _, i + 1, v, .cons _ r, e => RvL.get (i := i) (v := v) r (by simpa using e)
theorem RvL.app : ∀ {vs ws : List V} {ds es : List D}, RvL K S H vs ds → RvL K S H ws es → RvL K S H (vs ++ ws) (ds ++ es)
  | _, _, [], _, .nil, q => q
  | _, _, _ :: _, _, .cons h r, q => .cons h (RvL.app r q)
theorem RvL.take : ∀ {vs : List V} {ds : List D} (n : Nat), RvL K S H vs ds → RvL K S H (vs.take n) (ds.take n)
  | _, _, 0, _ => by rw [List.take_zero, List.take_zero]; exact .nil
  | _, [], _ + 1, .nil => .nil
  | _, _ :: _, n + 1, .cons h r => .cons h (RvL.take n r)
theorem RvL.drop : ∀ {vs : List V} {ds : List D} (n : Nat), RvL K S H vs ds → RvL K S H (vs.drop n) (ds.drop n)
  | _, _, 0, r => r
  | _, [], _ + 1, .nil => .nil
  | _, _ :: _, n + 1, .cons _ r => RvL.drop n r
theorem RvL.rev : ∀ {vs : List V} {ds : List D}, RvL K S H vs ds → RvL K S H vs.reverse ds.reverse
  | _, [], .nil => .nil
  | _, _ :: _, .cons h r => by
    rw [List.reverse_cons, List.reverse_cons]
    exact RvL.app (RvL.rev r) (.cons h .nil)
theorem RvL.pick {vs : List V} {ds : List D} {i : Int} (r : RvL K S H vs ds) (h0 : 0 ≤ i) (h1 : i < (ds.length : Int)) : ∃ v d, d ∈ ds ∧ Rv K S H v d ∧ atI vs i = some v := by
  obtain ⟨k, rfl⟩ := Int.eq_ofNat_of_zero_le h0
  have hk : k < vs.length := by rw [r.len]; omega
  obtain ⟨d, hd, rd⟩ := r.get (List.getElem?_eq_getElem hk)
  exact ⟨vs[k], d, List.mem_of_getElem? hd, rd, atI_nat (List.getElem?_eq_getElem hk)⟩
/-- a text of the program's own -/
def wd (s : Str) : D := .str s.cps.toList
theorem tx_cps (s : Str) : tx s.cps.toList = s := by cases s <;> simp [tx]
theorem Rv.lit (s : Str) (h : s.cps.toList.length ≤ 100000 := by decide +kernel) : Rv K S H (.str s) (wd s) := by
  have := Rv.str (K := K) (S := S) (H := H) s.cps.toList h
  rwa [Tx, tx_cps] at this
theorem out_new {p : Addr} (l : Lsts H S) (h : H p = none) : p ∉ S := fun m => by
  obtain ⟨xs, e⟩ := l p m
  rw [h] at e
  cases e
/-- a new tuple, a new list -/
theorem Rv.newT {p : Addr} {vs : List V} {ds : List D} (np : H p = none) (r : RvL K S H vs ds) (h : ds.length ≤ 100000) : Rv K S (upd H p (.tup vs)) (.ref p) (.tup ds) := .tup (SqT.of upd_same) (by rw [r.len]; exact h) (r.up (Stp.new np []))
theorem Rv.newL {p : Addr} {vs : List V} {ds : List D} (l : Lsts H S) (np : H p = none) (r : RvL K S H vs ds) (h : ds.length ≤ 100000) : Rv K S (upd H p (.lst vs)) (.ref p) (.lst ds) := .lst upd_same (out_new l np) (by rw [r.len]; exact h) (r.up (Stp.new np []))
theorem Lsts.up {H H' : Hp} (l : Lsts H S) (s : Stp [] H H') : Lsts H' S := l.stp s
end
/-! ### type(x) is T -/
theorem D.ty_old (d : D) : d.old.ty = d.ty := rfl
theorem ty_non : D.non.ty = some "NoneType" := rfl
theorem ty_bl {b : Bool} : (D.bl b).ty = some "bool" := rfl
theorem ty_int {i : Int} : (D.int i).ty = some "int" := rfl
theorem ty_str {l : List Nat} : (D.str l).ty = some "str" := rfl
theorem ty_tup {ds : List D} : (D.tup ds).ty = some "tuple" := by unfold D.ty D.old; rfl
theorem ty_lst {ds : List D} : (D.lst ds).ty = some "list" := by unfold D.ty D.old; rfl
theorem ty_obj {C : Addr} : (D.obj C).ty = none := rfl
theorem D.lst_of {d : D} (h : d.ty = some "list") : ∃ ds, d = .lst ds := by
  cases d with
  | lst ds => exact ⟨ds, rfl⟩
  | tup ds => rw [ty_tup] at h; exact absurd h (by decide)
  | obj C => rw [ty_obj] at h; cases h
  | non => exact absurd h (by rw [ty_non]; decide)
  | bl b => exact absurd h (by rw [ty_bl]; decide)
  | int i => exact absurd h (by rw [ty_int]; decide)
  | str l => exact absurd h (by rw [ty_str]; decide)
theorem D.tup_of {d : D} (h : d.ty = some "tuple") : ∃ ds, d = .tup ds := by
  cases d with
  | tup ds => exact ⟨ds, rfl⟩
  | lst ds => rw [ty_lst] at h; exact absurd h (by decide)
  | obj C => rw [ty_obj] at h; cases h
  | non => exact absurd h (by rw [ty_non]; decide)
  | bl b => exact absurd h (by rw [ty_bl]; decide)
  | int i => exact absurd h (by rw [ty_int]; decide)
  | str l => exact absurd h (by rw [ty_str]; decide)
theorem D.str_of {d : D} (h : d.ty = some "str") : ∃ l, d = .str l := by
  cases d with
  | str ds => exact ⟨ds, rfl⟩
  | lst ds => rw [ty_lst] at h; exact absurd h (by decide)
  | tup ds => rw [ty_tup] at h; exact absurd h (by decide)
  | obj C => rw [ty_obj] at h; cases h
  | non => exact absurd h (by rw [ty_non]; decide)
  | bl b => exact absurd h (by rw [ty_bl]; decide)
  | int i => exact absurd h (by rw [ty_int]; decide)
theorem D.int_of {d : D} (h : d.ty = some "int") : ∃ i, d = .int i := by
  cases d with
  | int i => exact ⟨i, rfl⟩
  | lst ds => rw [ty_lst] at h; exact absurd h (by decide)
  | tup ds => rw [ty_tup] at h; exact absurd h (by decide)
  | obj C => rw [ty_obj] at h; cases h
  | non => exact absurd h (by rw [ty_non]; decide)
  | bl b => exact absurd h (by rw [ty_bl]; decide)
  | str l => exact absurd h (by rw [ty_str]; decide)
/-! ### isinstance -/
def rIsD (K : PySem.W.Frag) (T : String) : List V → Hp → VK → Prop := fun xs H Q => ∃ (S : List Addr) (x : V) (d : D), xs = [x, .ty T] ∧ Rv K S H x d ∧ Q (.bl (d.isi T)) H
section
variable {X : Cx} {T : String}
theorem tyx_of {K : PySem.W.Frag} {S : List Addr} {H : Hp} {x : V} {d : D} (r : Rv K S H x d) (t : String) (h : d.ty = some t) : TyX K H x (.type t) := by
  cases r with
  | non => rw [ty_non] at h; cases h; exact .base .non
  | bl b => rw [ty_bl] at h; cases h; exact .base (.bl b)
  | int i => rw [ty_int] at h; cases h; exact .base (.int i)
  | str l hl => rw [ty_str] at h; cases h; exact .base (.str _)
  | lst hs _ _ _ => rw [ty_lst] at h; cases h; exact .base (.lst hs)
  | obj ho _ => rw [ty_obj] at h; cases h
  | tup hs _ _ =>
    rw [ty_tup] at h
    cases h
    rcases hs with (hs | ⟨o, hs⟩) | ⟨o, its, n, e, c, _⟩
    · exact .base (.tup hs)
    · exact .fTuple hs
    · exact .kTuple e c
theorem kit_str : ∀ t : String, t ∈ ["NoneType", "bool", "int", "str", "tuple", "list"] → kitB t "str" = some (t == "str") := by decide +kernel
theorem kit_int : ∀ t : String, t ∈ ["NoneType", "bool", "int", "str", "tuple", "list"] → kitB t "int" = some (t == "bool" || t == "int") := by decide +kernel
theorem kit_bool : ∀ t : String, t ∈ ["NoneType", "bool", "int", "str", "tuple", "list"] → kitB t "bool" = some (t == "bool") := by decide +kernel
theorem kit_tuple : ∀ t : String, t ∈ ["NoneType", "bool", "int", "str", "tuple", "list"] → kitB t "tuple" = some (t == "tuple") := by decide +kernel
theorem kit_list : ∀ t : String, t ∈ ["NoneType", "bool", "int", "str", "tuple", "list"] → kitB t "list" = some (t == "list") := by decide +kernel
theorem kit_d {d : D} {t : String} (h : d.ty = some t) (hT : T ∈ ["str", "int", "bool", "tuple", "list"]) : kitB t T = some (d.isi T) := by
  simp only [List.mem_cons, List.not_mem_nil, or_false] at hT
  have go : ∀ u, d.ty = some u → u = t := fun u e => by rw [h] at e; exact (Option.some.inj e).symm
  rcases hT with rfl | rfl | rfl | rfl | rfl <;> cases d
  all_goals first
    | (have q := go _ ty_non; subst q; first | exact kit_str _ (by decide) | exact kit_int _ (by decide) | exact kit_bool _ (by decide) | exact kit_tuple _ (by decide) | exact kit_list _ (by decide))
    | (have q := go _ ty_bl; subst q; first | exact kit_str _ (by decide) | exact kit_int _ (by decide) | exact kit_bool _ (by decide) | exact kit_tuple _ (by decide) | exact kit_list _ (by decide))
    | (have q := go _ ty_int; subst q; first | exact kit_str _ (by decide) | exact kit_int _ (by decide) | exact kit_bool _ (by decide) | exact kit_tuple _ (by decide) | exact kit_list _ (by decide))
    | (have q := go _ ty_str; subst q; first | exact kit_str _ (by decide) | exact kit_int _ (by decide) | exact kit_bool _ (by decide) | exact kit_tuple _ (by decide) | exact kit_list _ (by decide))
    | (have q := go _ ty_tup; subst q; first | exact kit_str _ (by decide) | exact kit_int _ (by decide) | exact kit_bool _ (by decide) | exact kit_tuple _ (by decide) | exact kit_list _ (by decide))
    | (have q := go _ ty_lst; subst q; first | exact kit_str _ (by decide) | exact kit_int _ (by decide) | exact kit_bool _ (by decide) | exact kit_tuple _ (by decide) | exact kit_list _ (by decide))
    | (rw [ty_obj] at h; cases h)
theorem D.has_ty (d : D) : (∃ t, d.ty = some t) ∨ ∃ C, d = .obj C := by
  cases d with
  | obj C => exact .inr ⟨C, rfl⟩
  | non => exact .inl ⟨_, ty_non⟩
  | bl b => exact .inl ⟨_, ty_bl⟩
  | int i => exact .inl ⟨_, ty_int⟩
  | str l => exact .inl ⟨_, ty_str⟩
  | tup ds => exact .inl ⟨_, ty_tup⟩
  | lst ds => exact .inl ⟨_, ty_lst⟩
theorem call_isiD (hT : T ∈ ["str", "int", "bool", "tuple", "list"]) : CallR X (.builtin "isinstance") (rIsD X.K T) := by
  intro pins s σ H xs us Q I r h
  obtain ⟨S, x, d, rfl, rv, q⟩ := h
  rcases d.has_ty with ⟨t, ht⟩ | ⟨C, rfl⟩
  · exact call_isi pins s σ H _ us Q I r ⟨x, .ty T, _, _, d.isi T, rfl, .ty T, tyx_of rv t ht, kit_ty (kit_d ht hT), q⟩
  · cases rv with
    | obj ho ok =>
      rename_i a
      obtain ⟨u1, u2, rfl, r1, r2⟩ := vals2 r
      cases r1
      cases (show u2 = Value.type T from r2)
      obtain ⟨⟨oe, vs, e1, ⟨e2, e3⟩, e4, _⟩, _⟩ := I.hok _ _ ho
      have J : PySem.W.InstAt s.heap a oe C none := by
        obtain ⟨oc, od, oda, osl⟩ := oe
        dsimp only at e2 e3 e4
        subst e2 e3 e4
        exact ⟨e1, rfl, rfl, trivial⟩
      have kit : PySem.W.kitOne X.K (.ref C) (.type T) = some ((D.obj C).isi T) := by
        simp only [List.mem_cons, List.not_mem_nil, or_false] at hT
        rcases hT with rfl | rfl | rfl | rfl | rfl
        · exact ok.is_str
        · exact ok.is_int
        · exact ok.is_bool
        · exact ok.is_tuple
        · exact ok.is_list
      exact PySem.W.kia_one (PySem.W.handS_kitx_exc ok.exc.hg ok.exc.hk ok.exc.hs ok.exc.hd ok.exc.ha ok.exc.hn ok.exc.ht ok.exc.hm) I.kIn J kit (fun z => nomatch z) fun tk => ⟨.bl ((D.obj C).isi T), H, I.kept (t' := tk) fun _ _ z => z, rfl, q⟩
end
theorem call_isiDK {X : Cx} {T : String} {K : PySem.W.Frag} (hK : X.K = K) (hT : T ∈ ["str", "int", "bool", "tuple", "list"]) : CallR X (.builtin "isinstance") (rIsD K T) := by
  subst hK
  exact call_isiD hT
/-! ### t[::-1] -/
section
variable {prog : Program} {w : World} {A : Around} {E : Value → Shared → Prop} {s : Shared}
open HT
theorem sliceApplied_rev {sl : Addr} {vl vu vs : Value} {n : Nat} {Q : Int × Int × Nat → Shared → Prop} (hs : s.heap.IsSliceOf sl vl vu vs) (pl : IsPart vl none) (pu : IsPart vu none) (ps : IsPart vs (some (-1)))
    (h : Q ((n : Int) - 1, -1, n) s) : wpAny (model prog w) A (Builtin.Slice.sliceApplied (.ref sl) (pure (n : Int))) Q E s := by
  obtain ⟨os, hos, hcs, hds⟩ := id hs
  unfold Builtin.Slice.sliceApplied Builtin.Slice.sliceFields
  refine wpAny_bind (wpAny_bind (wpAny_field hos hds (x := vl) rfl (wpAny_bind (wpAny_field hos hds (x := vu) rfl (wpAny_bind (wpAny_field hos hds (x := vs) rfl (wpAny_pure ?_)))))))
  refine wpAny_bind (slicePart_ ps ?_)
  show wpAny _ _ (if ((-1 : Int) == 0) = true then _ else _) _ _ s
  rw [if_neg (by decide)]
  refine wpAny_bind (slicePart_ pl (wpAny_bind (slicePart_ pu (wpAny_bind (wpAny_pure ?_)))))
  show wpAny _ _ (pure ((n : Int) - 1, (-1 : Int), Builtin.Slice.slicePlaces ((n : Int) - 1) (-1) (-1))) _ _ s
  have e : Builtin.Slice.slicePlaces ((n : Int) - 1) (-1) (-1) = n := by
    unfold Builtin.Slice.slicePlaces
    rw [if_neg (by decide)]
    by_cases c : (n : Int) - 1 > -1
    · rw [if_pos c, show (- -1 : Int) = 1 by decide, Int.ediv_one]
      omega
    · rw [if_neg c]
      omega
  rw [e]
  exact wpAny_pure h
theorem pick_rev (xs : Array Value) : ((List.range xs.size).filterMap fun (k : Nat) => xs[((xs.size : Int) - 1 + (k : Int) * (-1)).toNat]?).toArray = xs.toList.reverse.toArray := by
  have e : (fun (k : Nat) => xs[((xs.size : Int) - 1 + (k : Int) * (-1)).toNat]?) = (fun k => xs[xs.size - 1 - k]?) := by
    funext k
    have : ((xs.size : Int) - 1 + (k : Int) * (-1)).toNat = xs.size - 1 - k := by omega
    rw [this]
  rw [e]
  have e2 : (fun k => xs[xs.size - 1 - k]?) = (fun k => xs[k]?) ∘ fun k => xs.size - 1 - k := rfl
  rw [e2, ← List.filterMap_map, PySem.W.krv_range, List.filterMap_reverse, PySem.W.krv_all]
theorem getItem_tuple_rev {t sl : Addr} {items : Array Value} {vl vu vs : Value} {Q : Value → Shared → Prop} (ht : IsTup s.heap t items) (hs : s.heap.IsSliceOf sl vl vu vs) (pl : IsPart vl none) (pu : IsPart vu none) (ps : IsPart vs (some (-1)))
    (h : Q (.ref s.heap.objs.size) { s with heap := s.heap.push { cls := .type "tuple", data := .seq items.toList.reverse.toArray } })
    (hsz : items.size ≤ sizeLine) : wpAny (model prog w) A (getItem (.ref t) (.ref sl)) Q E s := by
  have htake : sizeOk (.seq items.toList.reverse.toArray) := by
    show items.toList.reverse.toArray.size ≤ sizeLine
    rw [List.size_toArray, List.length_reverse, Array.length_toList]
    exact hsz
  obtain ⟨os, hos, hcs, hds⟩ := id hs
  have hTs : s.TypeIs (.ref sl) "slice" := ⟨os, hos, hcs⟩
  unfold getItem
  try with_reducible refine wpAny_holding ?_
  first | refine wpAny_bind (wpAny_pure ?_) | skip
  refine wpAny_bind (wpAny_sequenceKey ht.typeIs (by decide) ?_)
  refine wpAny_bind (wpAny_callSpecial?_slot (name := Str.ofString "__getitem__") ht.typeIs PyProof.Rows.slot_tuple_getitem
    (wpAny_call_entry PyProof.Rows.slot_tuple_getitem ht.typeIs entry_tuple_getitem ?_ (args_tuple_getitem _ _)))
  show wpAny _ _ (Builtin.Tuple.tupleItemsOf (.ref t) >>= _) _ _ s
  refine wpAny_bind (tupleItemsOf_ ht ?_)
  refine wpAny_bind (wpAny_typeOf hTs ?_)
  rw [if_pos (by decide)]
  refine wpAny_bind (sliceApplied_rev hs pl pu ps ?_)
  have hno : ¬ ((((items.size : Int) - 1) == 0 && (-1 : Int) == 1 && items.size == items.size) = true) := by
    intro q
    rw [Bool.and_eq_true, Bool.and_eq_true] at q
    exact absurd q.1.2 (by decide)
  show wpAny _ _ (if (((items.size : Int) - 1) == 0 && (-1 : Int) == 1 && items.size == items.size) = true then _ else _) _ _ s
  rw [if_neg hno, pick_rev]
  first
    | exact wpAny_bind (m := Builtin.Tuple.tupleExact _) (wpAny_newObj_type (wpAny_pure ⟨_, rfl, wpAny_pure h⟩) htake)
    | exact wpAny_bind (m := Builtin.Tuple.tupleExact _) (wpAny_newObj_type (wpAny_bind (wpAny_pure (wpAny_pure ⟨_, rfl, wpAny_pure h⟩))) htake)
    | exact wpAny_bind (wpAny_bind (m := Builtin.Tuple.tupleExact _) (wpAny_newObj_type (wpAny_pure (wpAny_pure ⟨_, rfl, wpAny_pure h⟩)) htake))
    | exact wpAny_bind (wpAny_bind (m := Builtin.Tuple.tupleExact _) (wpAny_newObj_type (wpAny_pure ⟨_, rfl, wpAny_pure h⟩) htake))
end
section
variable {X : Cx}
def tRevT (K : PySem.W.Frag) (te : TE) : TE := fun σ H Q => te σ H fun x H1 => ∃ a xs, x = .ref a ∧ SqT K H1 a xs ∧ ∀ p, H1 p = none → Q (.ref p) (upd H1 p (.tup xs.reverse))
theorem pe_revT {e : Expr} {te : TE} {k : Nat} {p1 p2 p3 pos : Pos} (he : PE X e te) : PE X (.Subscript e (.Slice none none (some (.UnaryOp .USub (.Constant (.int 1) k p1) p2)) p3) pos) (tRevT X.K te) := by
  refine ⟨fun pins s σ H Q I h => ?_⟩
  refine Subscript_ (thn (he.run pins s σ H _ I h) fun v s1 ⟨x, H1, I1, r1, q1⟩ => ?_)
  obtain ⟨a, xs, ex, hx, q⟩ := q1
  subst ex
  cases r1
  have hst : PO X (some (.UnaryOp .USub (.Constant (.int 1) k p1) p2)) (tPart (tUn (rU fun i => .int (-i)) (tC (.int 1)))) := po_some (pe_un un_neg pe_int)
  refine wpAny_Slice (thn (po_none.run pins s1 σ H1 (fun o H2 => o = none ∧ H2 = H1) I1 ⟨rfl, rfl⟩) fun vl s2 ⟨l, H2, I2, pl, el, e2⟩ => ?_)
  subst el e2
  refine thn (po_none.run pins s2 σ H2 (fun o H3 => o = none ∧ H3 = H2) I2 ⟨rfl, rfl⟩) fun vu s3 ⟨u, H3, I3, pu, eu, e3⟩ => ?_
  subst eu e3
  refine thn (hst.run pins s3 σ H3 (fun o H4 => o = some (-1) ∧ H4 = H3) I3 ⟨1, rfl, -1, rfl, rfl, rfl⟩) fun vs s4 ⟨o, H4, I4, ps, eo, e4⟩ => ?_
  subst eo e4
  have I5 : Inv X pins σ H4 { s4 with heap := s4.heap.push { cls := .type "slice", data := .fields #[vl, vu, vs] } } := I4.kept (t' := s4.toks) fun b ob q => Heap.get?_push_of_some _ q
  obtain ⟨its, r, ht, hz⟩ := I5.tuple hx
  have hlen := r.length
  show wpAny (model X.prog X.w) X.A (subscriptTail e (.Slice none none (some (.UnaryOp .USub (.Constant (.int 1) k p1) p2)) p3) (.ref a) (.ref s4.heap.objs.size)) (EP X pins σ Q) X.xe { s4 with heap := s4.heap.push { cls := .type "slice", data := .fields #[vl, vu, vs] } }
  refine tail_any (ops := [.ref a, .ref s4.heap.objs.size]) ht.typeIs (PyProof.Rows.slot_tuple_getitem.lookup) ?_ (by with_unfolding_all rfl)
  refine getItem_tuple_rev ht (Heap.IsSliceOf.new _ vl vu vs) pl pu ps ?_ (by rw [List.size_toArray]; omega)
  refine ⟨.ref _, _, I5.laid (t' := s4.toks) (o := .tup xs.reverse) (fun b ob q => Heap.get?_push_of_some _ q) (Nat.le_refl _) ?_, rfl, q _ (I5.hok.fresh (Nat.le_refl _))⟩
  exact ⟨by rw [List.length_reverse]; exact hz, _, r.reverse, IsTup.new _ _⟩
end
/-! ### expressions that build values -/
def EvD (K : PySem.W.Frag) (S : List Addr) (te : TE) (σ : L2.St) (H : Hp) (d : D) : Prop := ∀ H1, Stp [] H H1 → ∀ Q : VK, (∀ v H2, Stp [] H1 H2 → Rv K S H2 v d → Q v H2) → te σ H1 Q
def EvDA (K : PySem.W.Frag) (S : List Addr) (ta : TA) (σ : L2.St) (H : Hp) (ds : List D) : Prop := ∀ H1, Stp [] H H1 → ∀ Q : List V → Hp → Prop, (∀ vs H2, Stp [] H1 H2 → RvL K S H2 vs ds → Q vs H2) → ta σ H1 Q
section
variable {K : PySem.W.Frag} {S : List Addr} {te : TE} {ta : TA} {σ : L2.St} {H : Hp} {d : D} {ds : List D}
theorem EvD.bl {b : Bool} : EvD K S (tC (.bl b)) σ H (.bl b) := fun H1 _ _ k => k _ H1 (Stp.refl _ _) (.bl b)
theorem EvD.int {i : Int} : EvD K S (tC (.int i)) σ H (.int i) := fun H1 _ _ k => k _ H1 (Stp.refl _ _) (.int i)
theorem EvD.non : EvD K S (tC .non) σ H .non := fun H1 _ _ k => k _ H1 (Stp.refl _ _) .non
theorem EvD.str {s : Str} (h : s.cps.toList.length ≤ 100000 := by decide +kernel) : EvD K S (tC (.str s)) σ H (wd s) := fun H1 _ _ k => k _ H1 (Stp.refl _ _) (Rv.lit s h)
theorem EvD.var {i : Nat} {v : V} (r : Rv K S H v d) (e : σ[i]? = some (some v) := by rfl) : EvD K S (tVar i) σ H d := fun H1 s _ k => ⟨v, e, k v H1 (Stp.refl _ _) (r.up s)⟩
theorem EvDA.nil : EvDA K S tNil σ H [] := fun H1 _ _ k => k [] H1 (Stp.refl _ _) .nil
theorem EvDA.cons (h : EvD K S te σ H d) (g : EvDA K S ta σ H ds) : EvDA K S (tCons te ta) σ H (d :: ds) := fun H1 s Q k =>
  h H1 s _ fun v H2 s2 r => g H2 (s.trans s2) _ fun vs H3 s3 rs => k (v :: vs) H3 (s2.trans s3) (.cons (r.up s3) rs)
theorem EvD.tup (h : EvDA K S ta σ H ds) (hl : ds.length ≤ 1000) : EvD K S (tTup ta) σ H (.tup ds) := fun H1 s Q k =>
  h H1 s _ fun vs H2 s2 rs => ⟨sz (by rw [rs.len]; omega), fun p np => k _ _ (s2.new' np) (Rv.newT np rs (by omega))⟩
theorem EvD.lst (L : Lsts H S) (h : EvDA K S ta σ H ds) (hl : ds.length ≤ 1000) : EvD K S (tLst ta) σ H (.lst ds) := fun H1 s Q k =>
  h H1 s _ fun vs H2 s2 rs => ⟨sz (by rw [rs.len]; omega), fun p np => k _ _ (s2.new' np) (Rv.newL (Pv.Lsts.up L (s.trans s2)) np rs (by omega))⟩
theorem EvD.exc {C : Addr} (ok : OkC K C) (h : EvD K S te σ H d) : EvD K S (fun σ H Q => te σ H fun _ H1 => ∀ a, H1 a = none → Q (.ref a) (upd H1 a (ExO (.ref C) a))) σ H (.obj C) := fun H1 s Q k =>
  h H1 s _ fun v H2 s2 _ => fun a na => k _ _ (s2.new' na) (.obj upd_same ok)
theorem EvD.pow {i j : Int} (h : CPow i j) : EvD K S (tOp (rI CPow fun i j => .int (i ^ j.toNat)) (tC (.int i)) (tC (.int j))) σ H (.int (i ^ j.toNat)) := fun H1 s Q k =>
  ⟨i, j, rfl, rfl, h, k _ _ (Stp.refl _ _) (.int _)⟩
theorem EvD.neg {i : Int} : EvD K S (tUn (rU fun i => .int (-i)) (tC (.int i))) σ H (.int (-i)) := fun H1 s Q k => ⟨i, rfl, k _ _ (Stp.refl _ _) (.int _)⟩
theorem EvDA.use (h : EvDA K S ta σ H ds) {Q : List V → Hp → Prop} (k : ∀ vs H2, Stp [] H H2 → RvL K S H2 vs ds → Q vs H2) : ta σ H Q := h H (Stp.refl _ _) Q k
theorem EvD.use (h : EvD K S te σ H d) {Q : VK} (k : ∀ v H2, Stp [] H H2 → Rv K S H2 v d → Q v H2) : te σ H Q := h H (Stp.refl _ _) Q k
theorem EvDA.newl (h : EvDA K S ta σ H ds) (hl : ds.length ≤ 1000) {Q : VK} (k : ∀ p vs H2, Stp [] H H2 → H p = none → H2 p = some (.lst vs) → RvL K S H2 vs ds → Q (.ref p) H2) : tLst ta σ H Q :=
  h.use fun vs H2 s rs => ⟨sz (by rw [rs.len]; omega), fun p np => k p vs _ (s.new' np) (s.fresh (fun m => nomatch m) np) upd_same (rs.up (Stp.new np []))⟩
end
/-! ### lists of truths, compared -/
theorem dp_bools {K : PySem.W.Frag} {H : Hp} : ∀ (bs : List Bool), DpAll K H (bs.map V.bl) (bs.map PyData.bool)
  | [] => .nil
  | b :: bs => .cons (.bl b) (dp_bools bs)
theorem lay_bools : ∀ (bs : List Bool), PyData.canLayAll0 (bs.map PyData.bool) = true
  | [] => rfl
  | b :: bs => by
    show (PyData.canLay0 (.bool b) && PyData.canLayAll0 (bs.map PyData.bool)) = true
    rw [lay_bools bs]
    rfl
theorem dep_bools : ∀ (bs : List Bool), PyData.depthAll (bs.map PyData.bool) = 0
  | [] => rfl
  | b :: bs => by
    show max 0 (PyData.depthAll (bs.map PyData.bool)) = 0
    rw [dep_bools bs]
    rfl
theorem shaped_bools (bs : List Bool) : SeqAt.shaped (.list (bs.map PyData.bool)) = true := by
  unfold SeqAt.shaped
  rw [show PyData.canLay0 (.list (bs.map PyData.bool)) = true from lay_bools bs]
  rw [show PyData.depth (.list (bs.map PyData.bool)) = 0 + 1 by show PyData.depthAll _ + 1 = _; rw [dep_bools]]
  rfl
/-- the same list of truths twice: != says no -/
theorem ne_bools {K : PySem.W.Frag} {H : Hp} {p q : Addr} {bs : List Bool} {Q : VK} (hp : SqL K H p (bs.map V.bl)) (hq : SqL K H q (bs.map V.bl)) (k : Q (.bl false) H) : rNeD K (.ref p) (.ref q) H Q := by
  refine ⟨.list (bs.map PyData.bool), .list (bs.map PyData.bool), .lst hp (dp_bools bs), .lst hq (dp_bools bs), shaped_bools bs, shaped_bools bs, ?_⟩
  rw [SeqAt.eqv_refl _ (show PyData.canLay0 (.list (bs.map PyData.bool)) = true from lay_bools bs)]
  exact k
end Pv
namespace Pv
open PySem PySem.Spec PyProof.Rows L2 Pg
/-- the ways of an expression, joined by what they leave -/
theorem te_join {te : TE} {σ : L2.St} {H : Hp} {Q : VK} (I : V → Hp → Prop) (h : (∀ v H', I v H' → Q v H') → te σ H Q) (k : ∀ v H', I v H' → Q v H') : te σ H Q := h k
/-- xs + ys, new lists of values -/
theorem cat_use {K : PySem.W.Frag} {S : List Addr} {H : Hp} {a b : Addr} {xs ys : List V} {ds es : List D} {Q : VK} (ha : H a = some (.lst xs)) (hb : H b = some (.lst ys)) (ra : RvL K S H xs ds) (rb : RvL K S H ys es) (hl : ds.length + es.length ≤ 100000)
    (k : ∀ p, H p = none → ∀ H' zs, Stp [] H H' → H' p = some (.lst zs) → RvL K S H' zs (ds ++ es) → Q (.ref p) H') : rCat (.ref a) (.ref b) H Q :=
  ⟨a, b, xs, ys, rfl, rfl, ha, hb, by rw [ra.len, rb.len]; exact sz hl, fun p np => k p np _ _ (Stp.new np _) upd_same ((ra.app rb).up (Stp.new np _))⟩
/-- xs + ys, also of a list that is locked -/
def rCatS (K : PySem.W.Frag) : R2 := fun x y H Q => ∃ l b xs zs, x = .ref l ∧ y = .ref b ∧ SqL K H l xs ∧ SqL K H b zs ∧ xs.length + zs.length ≤ sizeLine ∧ ∀ p, H p = none → Q (.ref p) (upd H p (.lst (xs ++ zs)))
theorem op_catS {X : Cx} : OpR X (binaryOp .Add) (rCatS X.K) := by
  intro pins s σ H x y v u Q I rx ry h
  obtain ⟨l, b, xs, zs, rfl, rfl, hH, hB, hz, q⟩ := h
  cases rx
  cases ry
  obtain ⟨its, r, pl, _⟩ := I.list hH
  obtain ⟨its2, r2, pl2, _⟩ := I.list hB
  have hl := r.length
  have hl2 := r2.length
  have ea : its.toArray ++ its2.toArray = (its ++ its2).toArray := by simp
  obtain ⟨⟨cls, dd, data, sl⟩, ho, hc, n, hd⟩ := pl.isList
  obtain ⟨⟨cls2, dd2, data2, sl2⟩, ho2, hc2, n2, hd2⟩ := pl2.isList
  simp only at hc hd hc2 hd2
  subst hc hd hc2 hd2
  refine concat_meets ⟨_, ho, rfl⟩ ⟨_, ho2, rfl⟩ noFill_list_add seq_list_add PySem.F.slot_list_add PySem.F.entry_list_add (PySem.F.args_list_add_2 _ _) (list_addW l b its.toArray its2.toArray n n2 dd dd2 sl sl2 (by rw [List.size_toArray, List.size_toArray]; omega)) ⟨ho, ho2, ?_⟩
  rw [ea]
  exact ⟨.ref _, _, I.lnew (t' := s.toks) (r.append r2) (by rw [List.length_append]; omega), rfl, q _ I.fresh⟩
theorem out_of {b p : Addr} {H : Hp} {o : HO} (h : H b = some o) (np : H p = none) : p ∉ [b] := fun m => by
  rw [List.mem_singleton.mp m, h] at np
  cases np
end Pv
namespace Pv
open PySem PySem.Spec PyProof.Rows L2 Pg
section
variable {K : PySem.W.Frag} {S : List Addr} {te : TE} {ta : TA} {σ : L2.St} {H : Hp} {d : D} {ds es : List D}
theorem catT {a b : Addr} {xs ys : List V} {Q : VK} (ha : SqT K H a xs) (hb : SqT K H b ys) (ra : RvL K S H xs ds) (rb : RvL K S H ys es) (hl : ds.length + es.length ≤ 100000)
    (k : ∀ p zs H', Stp [] H H' → SqT K H' p zs → RvL K S H' zs (ds ++ es) → Q (.ref p) H') : rCatA K (.ref a) (.ref b) H Q :=
  catA_use ha hb (by rw [ra.len, rb.len]; exact hl) fun p H' s h => k p _ H' s h ((ra.app rb).up s)
theorem upT {a : Addr} {xs : List V} {n : Nat} {Q : VK} (ha : SqT K H a xs) (ra : RvL K S H xs ds) (k : ∀ p zs H', Stp [] H H' → SqT K H' p zs → RvL K S H' zs (ds.take n) → Q (.ref p) H') : rSlA K (.ref a) none (some (n : Int)) H Q :=
  slA_use ha fun p H' s h => k p _ H' s (by rwa [cut_upto] at h) ((ra.take n).up s)
theorem fromT {a : Addr} {xs : List V} {n : Nat} {Q : VK} (ha : SqT K H a xs) (ra : RvL K S H xs ds) (k : ∀ p zs H', Stp [] H H' → SqT K H' p zs → RvL K S H' zs (ds.drop n) → Q (.ref p) H') : rSlA K (.ref a) (some (n : Int)) none H Q :=
  slA_use ha fun p H' s h => k p _ H' s (by rwa [cut_from] at h) ((ra.drop n).up s)
theorem fromT1 {a : Addr} {xs : List V} {n : Nat} {Q : VK} (ha : SqT K H a xs) (ra : RvL K S H xs ds) (k : ∀ p zs H', Stp [] H H' → SqT K H' p zs → RvL K S H' zs (ds.drop (n + 1)) → Q (.ref p) H') : rSlA K (.ref a) (some ((n : Int) + 1)) none H Q :=
  Pv.fromT (n := n + 1) ha ra k
/-! more expressions -/
theorem Rv.tupE {a : V} (r : Rv K S H a (.tup ds)) : ∃ p vs, a = .ref p ∧ SqT K H p vs ∧ vs.length ≤ 100000 ∧ RvL K S H vs ds := by
  cases r with
  | tup h n r => exact ⟨_, _, rfl, h, n, r⟩
theorem EvD.list (L : Lsts H S) (h : EvD K S te σ H (.tup ds)) : EvD K S (tCB (fun xs H Q => ∃ p ys, xs = [.ref p] ∧ (SqL K H p ys ∨ SqT K H p ys) ∧ ∀ l, H l = none → Q (.ref l) (upd H l (.lst ys))) (tCons te tNil)) σ H (.lst ds) := fun H1 s Q k =>
  h H1 s _ fun v H2 s2 r => by
    obtain ⟨p, vs, rfl, hs, n, rl⟩ := r.tupE
    exact ⟨_, _, rfl, .inr hs, fun l nl => k _ _ (s2.new' nl) (Rv.newL (Pg.Lsts.stp L (s.trans s2)) nl rl (by rw [← rl.len]; exact n))⟩
theorem EvD.upT {n : Nat} (h : EvD K S te σ H (.tup ds)) : EvD K S (tSl (rSlA K) te tNoPart (tPart (tC (.int (n : Int))))) σ H (.tup (ds.take n)) := fun H1 s Q k =>
  h H1 s _ fun v H2 s2 r => by
    obtain ⟨p, vs, rfl, hs, n, rl⟩ := r.tupE
    exact ⟨_, rfl, Pv.upT hs rl fun p zs H' s3 h2 r2 => k _ _ (s2.trans s3) (.tup h2 (by rw [r2.len, List.length_take, ← rl.len]; omega) r2)⟩
theorem EvD.fromT {n : Nat} (h : EvD K S te σ H (.tup ds)) : EvD K S (tSl (rSlA K) te (tPart (tC (.int (n : Int)))) tNoPart) σ H (.tup (ds.drop n)) := fun H1 s Q k =>
  h H1 s _ fun v H2 s2 r => by
    obtain ⟨p, vs, rfl, hs, n, rl⟩ := r.tupE
    exact ⟨_, rfl, Pv.fromT hs rl fun p zs H' s3 h2 r2 => k _ _ (s2.trans s3) (.tup h2 (by rw [r2.len, List.length_drop, ← rl.len]; omega) r2)⟩
theorem EvD.catT {tb : TE} (h : EvD K S te σ H (.tup ds)) (g : EvD K S tb σ H (.tup es)) (hl : ds.length + es.length ≤ 100000) : EvD K S (tOp (rCatA K) te tb) σ H (.tup (ds ++ es)) := fun H1 s Q k =>
  h H1 s _ fun v H2 s2 r => g H2 (s.trans s2) _ fun u H3 s3 q => by
    obtain ⟨p, vs, rfl, hs, n, rl⟩ := (r.up s3).tupE
    obtain ⟨p2, vs2, rfl, hs2, n2, rl2⟩ := q.tupE
    exact Pv.catT hs hs2 rl rl2 hl fun p zs H' s4 h2 r2 => k _ _ ((s2.trans s3).trans s4) (.tup h2 (by rw [r2.len, List.length_append]; exact hl) r2)
theorem EvD.ixT {i : Nat} (h : EvD K S te σ H (.tup ds)) (e : ds[i]? = some d) : EvD K S (tOp (rIxT K) te (tC (.int (i : Int)))) σ H d := fun H1 s Q k =>
  h H1 s _ fun v H2 s2 r => by
    obtain ⟨p, vs, rfl, hs, n, rl⟩ := r.tupE
    have hi : i < vs.length := by
      rw [rl.len]
      exact (List.getElem?_eq_some_iff.mp e).1
    obtain ⟨d', e', r'⟩ := rl.get (List.getElem?_eq_getElem hi)
    rw [e] at e'
    cases e'
    exact ⟨p, vs, _, _, rfl, rfl, hs, atI_nat (List.getElem?_eq_getElem hi), k _ _ s2 r'⟩
theorem EvD.revT (h : EvD K S te σ H (.tup ds)) : EvD K S (tRevT K te) σ H (.tup ds.reverse) := fun H1 s Q k =>
  h H1 s _ fun v H2 s2 r => by
    obtain ⟨p, vs, rfl, hs, n, rl⟩ := r.tupE
    exact ⟨p, vs, rfl, hs, fun p np => k _ _ (s2.new' np) (Rv.newT np rl.rev (by rw [List.length_reverse, ← rl.len]; exact n))⟩
theorem op_newl {r : R2} {tb : TE} {Q : VK} (h : EvDA K S ta σ H ds) (hl : ds.length ≤ 1000) (k : ∀ p vs H2, Stp [] H H2 → H p = none → H2 p = some (.lst vs) → RvL K S H2 vs ds → tb σ H2 fun y H3 => r (.ref p) y H3 Q) : tOp r (tLst ta) tb σ H Q := h.newl hl k
theorem EvDA.one (h : EvD K S te σ H d) : EvDA K S (tCons te tNil) σ H [d] := .cons h .nil
end
end Pv
namespace Pv
open PySem PySem.Spec PyProof.Rows L2 Pg
/-! ### xs == [], xs any values -/
def rEqNil (K : PySem.W.Frag) : R2 := fun x y H Q => ∃ a b xs, x = .ref a ∧ y = .ref b ∧ a ≠ b ∧ SqL K H a xs ∧ SqL K H b [] ∧ Q (.bl xs.isEmpty) H
def rNeNil (K : PySem.W.Frag) : R2 := fun x y H Q => ∃ a b xs, x = .ref a ∧ y = .ref b ∧ a ≠ b ∧ SqL K H a xs ∧ SqL K H b [] ∧ Q (.bl (!xs.isEmpty)) H
theorem op_eqNil {X : Cx} (hu : X.A.units + 64 < cLine) : OpR X (compareOp .Eq) (rEqNil X.K) := by
  intro pins s σ H x y v u Q I rx ry h
  obtain ⟨a, b, xs, rfl, rfl, ne, hH, hB, q⟩ := h
  cases rx
  cases ry
  obtain ⟨its, r, pl, _⟩ := I.list hH
  obtain ⟨its2, r2, pl2, _⟩ := I.list hB
  cases r2
  cases xs with
  | nil =>
    cases r
    refine SeqAt.RcAt.lists (e := fun _ => true) pl.isList pl2.isList rfl (by omega) (fun j h1 h2 => absurd h1 (by simp)) _ _ _ _ ?_
    exact ⟨.bl true, H, I, rfl, q⟩
  | cons x xs =>
    cases r with
    | cons r1 r =>
      refine SeqAt.RcAt.lists_lengths pl.isList pl2.isList (by simp) (by omega) _ _ _ _ ?_
      exact ⟨.bl false, H, I, rfl, q⟩
theorem op_neNil {X : Cx} (hu : X.A.units + 64 < cLine) : OpR X (compareOp .NotEq) (rNeNil X.K) := by
  intro pins s σ H x y v u Q I rx ry h
  obtain ⟨a, b, xs, rfl, rfl, ne, hH, hB, q⟩ := h
  cases rx
  cases ry
  obtain ⟨its, r, pl, _⟩ := I.list hH
  obtain ⟨its2, r2, pl2, _⟩ := I.list hB
  cases r2
  cases xs with
  | nil =>
    cases r
    refine SeqAt.RcNeAt.lists (e := fun _ => true) pl.isList pl2.isList rfl (by omega) (fun j h1 h2 => absurd h1 (by simp)) _ _ _ _ ?_
    exact ⟨.bl false, H, I, rfl, q⟩
  | cons x xs =>
    cases r with
    | cons r1 r =>
      refine SeqAt.RcNeAt.lists_lengths pl.isList pl2.isList (by simp) (by omega) _ _ _ _ ?_
      exact ⟨.bl true, H, I, rfl, q⟩
/-- one value told twice -/
theorem eq_rel {v : V} {d : D} {K : PySem.W.Frag} {S : List Addr} {H : Hp} {u u' : Value} (h : Rv K S H v d) (r : RelV v u) (r' : RelV v u') (A : Around) (s : Shared) : SeqAt.EqAt A s u u' true := by
  cases h with
  | non => cases r; cases r'; exact SeqAt.EqAt.same _
  | bl b => cases r; cases r'; exact SeqAt.EqAt.same _
  | int i =>
    obtain ⟨t, rfl⟩ := r
    obtain ⟨t', rfl⟩ := r'
    have := (MeetsSeq.EqGives.int i i t t').at A s
    rwa [show (i == i) = true from beq_self_eq_true i] at this
  | str l hl =>
    obtain ⟨t, rfl⟩ := r
    obtain ⟨t', rfl⟩ := r'
    have := (SeqRoads2.EqGives.str (tx l) (tx l) t t').at A s
    rwa [show ((tx l).cps.toList == (tx l).cps.toList) = true from beq_self_eq_true _] at this
  | tup _ _ _ => cases r; cases r'; exact SeqAt.EqAt.same _
  | lst _ _ _ _ => cases r; cases r'; exact SeqAt.EqAt.same _
  | obj _ _ => cases r; cases r'; exact SeqAt.EqAt.same _
theorem vals_at : ∀ {vs : List V} {us us' : List Value} {ds : List D} {K : PySem.W.Frag} {S : List Addr} {H : Hp}, RvL K S H vs ds → Vals vs us → Vals vs us' → ∀ (A : Around) (s : Shared) (j : Nat) (h1 : j < us.length) (h2 : j < us'.length), SeqAt.EqAt A s us[j] us'[j] true
  | _, _, _, _, _, _, _, .nil, .nil, .nil, _, _, _, h1, _ => absurd h1 (Nat.not_lt_zero _)
  | _, _, _, _, _, _, _, .cons h _, .cons r _, .cons r' _, A, s, 0, _, _ => eq_rel h r r' A s
  | _, _, _, _, _, _, _, .cons _ h, .cons _ r, .cons _ r', A, s, j + 1, h1, h2 => vals_at h r r' A s j (Nat.lt_of_succ_lt_succ h1) (Nat.lt_of_succ_lt_succ h2)
/-- xs != ys, both hold the same values -/
def rNeL (K : PySem.W.Frag) : R2 := fun x y H Q => ∃ (S : List Addr) (a b : Addr) (xs : List V) (ds : List D), x = .ref a ∧ y = .ref b ∧ SqL K H a xs ∧ SqL K H b xs ∧ RvL K S H xs ds ∧ Q (.bl false) H
theorem op_neL {X : Cx} (hu : X.A.units + 64 < cLine) : OpR X (compareOp .NotEq) (rNeL X.K) := by
  intro pins s σ H x y v u Q I rx ry h
  obtain ⟨S, a, b, xs, ds, rfl, rfl, hH, hB, rv, q⟩ := h
  cases rx
  cases ry
  obtain ⟨its, r, pl, _⟩ := I.list hH
  obtain ⟨its2, r2, pl2, _⟩ := I.list hB
  have e1 := Vals.length r
  have e2 := Vals.length r2
  refine SeqAt.RcNeAt.lists (e := fun _ => true) pl.isList pl2.isList (by simp; omega) (by omega) (fun j h1 h2 => ?_) _ _ _ _ ?_
  · have := vals_at rv r r2 X.A.in1 s j (by simpa using h1) (by simpa using h2)
    simpa using this
  · refine ⟨.bl _, H, I, rfl, ?_⟩
    rw [show ((List.range its.toArray.size).all fun _ => true) = true from by simp]
    exact q
end Pv
namespace PySem.W
open PySem PySem.Spec PySem.Calls PyProof.Rows Sem
/-- what a class says of == and != : no own ones -/
structure SameC (K : Frag) (D : Addr) : Prop where
  eq : findIn K (.ref D) "__eq__" = some (some (.builtin "object.__eq__"))
  ne : findIn K (.ref D) "__ne__" = some (some (.builtin "object.__ne__"))
  sub : subIn K (.ref D) (.type "object") = some true
section
variable {prog : Program} {w : World} {A : Around} {E : Value → Shared → Prop} {K : Frag} {x D : Addr} {ox : Obj} {h : Heap} {g : Array GenState} {d : Drawn} {t : Nat} {os : OsState}
theorem sp_same {name : Str} {id : String} {args : List Value} {Q : Option Value → Shared → Prop} (LS : Looks (model prog w) h (specialOf (.ref x) name) (some (.builtin id))) (S : PySem.Slot "object" name id)
    (hcall : wpAny (model prog w) A (call (.builtin id) (.ref x :: args)) (fun v => Q (some v)) E ⟨h, g, d, t, os⟩) : wpAny (model prog w) A (callSpecialIfBound? (.ref x) name args) Q E ⟨h, g, d, t, os⟩ := by
  simp only [callSpecialIfBound?, bindSpecialIfBound?]
  refine wpAny_holding (wpAny_bind (wpAny_bind (LS.at ?_)))
  simp only [S.bind]
  refine wpAny_bind (wpAny_askSetting (wpAny_ite ?_))
  have fin : wpAny (model prog w) A (call (.builtin id) ([.ref x] ++ args) >>= fun v => Pure.pure (some v)) Q E ⟨h, g, d, t, os⟩ :=
    wpAny_bind (wpAny_mono hcall (fun v s' h' => wpAny_pure h') fun _ _ h' => h')
  split
  · exact wpAny_bind (wpAny_pure (wpAny_pure fin))
  · exact wpAny_tryCatch (wpAny_bind (wpAny_pure (wpAny_pure fin)))
theorem eq_same (C : SameC K D) (X : K.In h) (I : InstAt h x ox D none) {Q : Option Value → Shared → Prop} (hq : Q (some (.bool true)) ⟨h, g, d, t, os⟩) :
    wpAny (model prog w) A (callSpecialIfBound? (.ref x) "__eq__" [.ref x]) Q E ⟨h, g, d, t, os⟩ := by
  have L0 := I.type (M := model prog w)
  have sub : Looks (model prog w) h (isInstance (.ref x) (.type "object")) true := L0.andThen (looks_subIn X C.sub)
  refine sp_same (L0.andThen (looks_findIn X C.eq)) PySem.F.cmp_object.eq ?_
  refine wpAny_call (codeAny_call_builtin PySem.F.cmp_object.eq.plain PySem.F.cmpEntry_eq ?_)
  exact @check_slot (model prog w) _ _ ⟨h, g, d, t, os⟩ "object.__eq__" "object" "__eq__" (.ref x) [.ref x] [] _ PySem.F.cmpKind_eq PySem.F.cmpSplit_eq sub (PySem.F.cmpArgs_eq _ _) (objEq_entry_same hq)
theorem ne_same (C : SameC K D) (X : K.In h) (I : InstAt h x ox D none) (hu : A.units + 1 < cLine) {Q : Option Value → Shared → Prop} (hq : Q (some (.bool false)) ⟨h, g, d, t, os⟩) :
    wpAny (model prog w) A (callSpecialIfBound? (.ref x) "__ne__" [.ref x]) Q E ⟨h, g, d, t, os⟩ := by
  have L0 := I.type (M := model prog w)
  have sub : Looks (model prog w) h (isInstance (.ref x) (.type "object")) true := L0.andThen (looks_subIn X C.sub)
  refine sp_same (L0.andThen (looks_findIn X C.ne)) PySem.F.cmp_object.ne ?_
  refine wpAny_call (codeAny_call_builtin PySem.F.cmp_object.ne.plain PySem.F.cmpEntry_ne ?_)
  refine @check_slot (model prog w) _ _ ⟨h, g, d, t, os⟩ "object.__ne__" "object" "__ne__" (.ref x) [.ref x] [] _ PySem.F.cmpKind_ne PySem.F.cmpSplit_ne sub (PySem.F.cmpArgs_ne _ _) ?_
  unfold Builtin.«object.__ne__»
  repeat (first | with_reducible refine wpAny_cRoomFor hu ?_ | with_reducible refine eq_same C X I ?_ | wp_step)
  exact hq
theorem compare_ne_same (C : SameC K D) (X : K.In h) (I : InstAt h x ox D none) (hu : A.units + 1 < cLine) {Q : Value → Shared → Prop} (hq : Q (.bool false) ⟨h, g, d, t, os⟩) :
    wpAny (model prog w) A (compareOp .NotEq (.ref x) (.ref x)) Q E ⟨h, g, d, t, os⟩ := by
  have hu0 : A.units < cLine := Nat.lt_of_succ_lt hu
  show wpAny (model prog w) A (richCompare .NotEq (.ref x) (.ref x)) Q E ⟨h, g, d, t, os⟩
  simp only [richCompare, cmpInfo_NotEq, oneThing_ref]
  have L0 := I.type (M := model prog w)
  have tc : ∀ {Q : Option Value → Shared → Prop}, Q (some (.bool false)) ⟨h, g, d, t, os⟩ → wpAny (model prog w) A (tryCompare (.ref x) "__ne__" (.ref x)) Q E ⟨h, g, d, t, os⟩ := fun hq => by
    simp only [tryCompare]
    exact wpAny_bind (ne_same C X I hu (wpAny_pure hq))
  repeat (first | with_reducible refine wpAny_cRoomFor hu0 ?_ | with_reducible refine L0.at ?_ | with_reducible refine tc ?_ | wp_step)
  exact hq
end
end PySem.W
namespace Pv
open PySem PySem.Spec PyProof.Rows L2 Pg
/-- x != x, any value -/
def rNeV (K : PySem.W.Frag) : R2 := fun x y H Q => x = y ∧ ∃ (S : List Addr) (d : D), Rv K S H x d ∧ (∀ C, d = .obj C → PySem.W.SameC K C) ∧ Q (.bl false) H
/-- kept != due: lists of the same values, or one value -/
def rNeK (K : PySem.W.Frag) : R2 := fun x y H Q => rNeL K x y H Q ∨ rNeV K x y H Q
theorem op_neK {X : Cx} (hu : X.A.units + 64 < cLine) : OpR X (compareOp .NotEq) (rNeK X.K) := by
  intro pins s σ H x y v u Q I rx ry h
  rcases h with h | ⟨rfl, S, d, rv, ob, q⟩
  · exact op_neL hu pins s σ H x y v u Q I rx ry h
  · have sc := fun e => op_ne pins s σ H x x v u Q I rx ry ⟨e, by rw [decide_eq_true rfl]; exact q⟩
    cases rv with
    | non => exact sc rfl
    | bl b => exact sc rfl
    | int i => exact sc rfl
    | str l hl => exact sc rfl
    | lst ha hn hl rl => exact op_neL hu pins s σ H _ _ v u Q I rx ry ⟨S, _, _, _, _, rfl, rfl, SqL.of ha, SqL.of ha, rl, q⟩
    | tup hs hl rl =>
      cases rx
      cases ry
      obtain ⟨its, r, pl, _⟩ := I.tuple hs
      refine SeqAt.RcNeAt.tuples (e := fun _ => true) pl pl (by omega) (fun j h1 h2 => SeqAt.EqAt.same _) _ _ _ _ ?_
      refine ⟨.bl _, H, I, rfl, ?_⟩
      have e : ∀ n : Nat, ((List.range n).all fun _ => true) = true := fun n => List.all_eq_true.mpr fun _ _ => rfl
      rw [e]
      simpa using q
    | obj ho ok =>
      rename_i a C
      cases rx
      cases ry
      obtain ⟨⟨oe, vs, e1, ⟨e2, e3⟩, e4, _⟩, _⟩ := I.hok _ _ ho
      have J : PySem.W.InstAt s.heap a oe C none := by
        obtain ⟨oc, od, oda, osl⟩ := oe
        dsimp only at e2 e3 e4
        subst e2 e3 e4
        exact ⟨e1, rfl, rfl, trivial⟩
      obtain ⟨hp, g, d, t, os⟩ := s
      refine PySem.W.compare_ne_same (ob C rfl) I.kIn J (by omega) ⟨.bl false, H, I, rfl, q⟩
end Pv
namespace Pg
open PySem PySem.Spec PyProof.Rows L2 PySem.Froz
/-! ### sets of texts, with what their order leans on -/
/-- the payload D holds the texts l; its table rises, and its order is to be told -/
structure TxR (P : Program) (w : World) (D : SD) (l : List Str) : Prop where
  ok : TxOk P w D l
  all : ∃ us : List Tok, us.length = l.length ∧ D.1.toList.Perm ((l.zip us).map fun p => (hashStr w p.1, Value.str p.1 p.2))
  nd : l.Nodup
  ris : Ris D.2.2.place.toList
  led : w.params.followText "set-order" = true ∨ D.2.2.led = true
section
variable {P : Program} {w : World} {A : Around} {E : Value → Shared → Prop} {s : Shared}
theorem tail_ris {ep : Nat} {xs : Array (Int × Value)} {t : SetTable} {b : Bool} (h : Ris t.place.toList) : Ris (tailTx ep xs t b).2.2.place.toList := by
  unfold tailTx
  by_cases c : (!b && t.tooFull) = true
  · rw [if_pos c]; exact relayAll_ris _ _ _
  · rw [if_neg c]; exact h
theorem tail_led {ep : Nat} {xs : Array (Int × Value)} {t : SetTable} {b : Bool} : (tailTx ep xs t b).2.2.led = t.led := by
  unfold tailTx
  by_cases c : (!b && t.tooFull) = true
  · rw [if_pos c]; exact relayAll_led _ _ _
  · rw [if_neg c]
theorem tail_all {ep : Nat} {xs : Array (Int × Value)} {t : SetTable} {b : Bool} : (tailTx ep xs t b).1.toList.Perm xs.toList := by
  unfold tailTx
  by_cases c : (!b && t.tooFull) = true
  · rw [if_pos c]; exact relayAll_perm _ _ _
  · rw [if_neg c]
theorem TxR.add {D : SD} {l : List Str} {k : Str} (u : Tok) (R : TxR P w D l) (hk : k ∉ l) : TxR P w (addTx (hashStr w k) (.str k u) D) (k :: l) := by
  obtain ⟨us, hu, hp⟩ := R.all
  refine ⟨add_ok u R.ok, ⟨u :: us, by rw [List.length_cons, List.length_cons, hu], ?_⟩, List.nodup_cons.mpr ⟨hk, R.nd⟩, ?_, ?_⟩
  · have p1 : (addTx (hashStr w k) (.str k u) D).1.toList.Perm (D.1.push (hashStr w k, .str k u)).toList := tail_all.trans (layNew_perm _ _ _ _)
    rw [Array.toList_push] at p1
    exact p1.trans ((List.perm_append_singleton _ _).trans (hp.cons _))
  · refine tail_ris ?_
    have q := layNew_ris D.2.2 D.1 (hashStr w k) (.str k u) R.ris
    split
    · exact q
    · exact q
  · have e1 : (addTx (hashStr w k) (.str k u) D).2.2.led = D.2.2.led := by
      unfold addTx
      rw [tail_led]
      have q := layNew_led D.2.2 D.1 (hashStr w k) (.str k u)
      split
      · exact q
      · exact q
    exact R.led.imp id fun z => e1.trans z
/-- a text that is there already is put in -/
theorem add_old {a : Addr} {T : String} {D : SD} {l : List Str} {k : Str} {u : Tok} {Q : Bool → Shared → Prop} (at_ : s.heap.get? a = some (sObj T D)) (F : TxOk P w D l) (hk : k ∈ l) (hb : l.length < scanBound)
    (h : Q false s) : wpAny (model P w) A (setAddHashed a (.str k u) (hashStr w k)) Q E s := by
  obtain ⟨xs, ep, t⟩ := D
  obtain ⟨e, he, hq⟩ := (F.mem k).mp hk
  have size : xs.size < scanBound := by have e : xs.size = l.length := F.sz; omega
  obtain ⟨j, hj⟩ : ∃ j, List.findIdx? (fun e => (strKind P w).is k e.2) xs.toList = some j := by
    cases c : List.findIdx? (fun e => (strKind P w).is k e.2) xs.toList with
    | some j => exact ⟨j, rfl⟩
    | none =>
      have := List.findIdx?_eq_none_iff.mp c e he
      rw [hq] at this
      cases this
  have dat : (sObj T (xs, ep, t)).data = .set xs ep t := rfl
  unfold setAddHashed setAddHashedIn
  refine wpAny_holding (wpAny_bind (wpAny_setState_of at_ dat F.fit ?_)); dsimp only
  rw [byScan_of rfl size F.el]; simp only [↓reduceIte]
  unfold setAddByScan
  refine wpAny_bind (wpAny_bind (wpAny_rule (wpAny_bind (wpAny_setScan_of (knd := strKind P w) (k := k) (is_str k u) at_ dat F.fit F.el ?_))))
  rw [hj]; dsimp only
  exact wpAny_pure (wpAny_pure h)
end
end Pg
namespace Pg
open PySem PySem.Spec PyProof.Rows L2 PySem.Froz
/-- of some texts each once: in the order in which a set takes them -/
def onceL (acc : List Str) : List Str → List Str
  | [] => acc
  | x :: xs => onceL (if x ∈ acc then acc else x :: acc) xs
theorem once_mem : ∀ (xs acc : List Str) (k : Str), k ∈ onceL acc xs ↔ k ∈ acc ∨ k ∈ xs
  | [], acc, k => by show k ∈ acc ↔ _; simp
  | x :: xs, acc, k => by
    show k ∈ onceL (if x ∈ acc then acc else x :: acc) xs ↔ _
    rw [once_mem xs]
    by_cases h : x ∈ acc
    · rw [if_pos h, List.mem_cons]
      constructor
      · rintro (q | q)
        · exact .inl q
        · exact .inr (.inr q)
      · rintro (q | rfl | q)
        · exact .inl q
        · exact .inl h
        · exact .inr q
    · rw [if_neg h, List.mem_cons, List.mem_cons]
      constructor
      · rintro ((q | q) | q)
        · exact .inr (.inl q)
        · exact .inl q
        · exact .inr (.inr q)
      · rintro (q | q | q)
        · exact .inl (.inr q)
        · exact .inl (.inl q)
        · exact .inr q
theorem once_len : ∀ (xs acc : List Str), (onceL acc xs).length ≤ acc.length + xs.length
  | [], acc => Nat.le_refl _
  | x :: xs, acc => by
    have h := once_len xs (if x ∈ acc then acc else x :: acc)
    show (onceL (if x ∈ acc then acc else x :: acc) xs).length ≤ _
    have e : (if x ∈ acc then acc else x :: acc).length ≤ acc.length + 1 := by split <;> simp
    rw [List.length_cons]
    omega
/-- a set of these texts stands at a -/
def SetS (P : Program) (w : World) (h : Heap) (a : Addr) (l : List Str) : Prop := ∃ D, h.get? a = some (sObj "set" D) ∧ TxR P w D l
section
variable {P : Program} {w : World} {A : Around} {E : Value → Shared → Prop} {s : Shared}
/-- one text is put in, new or not -/
theorem put_txt {a : Addr} {l : List Str} {k : Str} {u : Tok} {Q : Bool → Shared → Prop} (R : SetS P w s.heap a l) (hb : l.length + 1 < scanBound)
    (h : ∀ (b : Bool) h', Heap.SameBut a s.heap h' → SetS P w h' a (if k ∈ l then l else k :: l) → Q b { s with heap := h' }) : wpAny (model P w) A (setAddHashed a (.str k u) (hashStr w k)) Q E s := by
  obtain ⟨D, at_, R⟩ := R
  by_cases hk : k ∈ l
  · refine add_old at_ R.ok hk (by omega) ?_
    exact h false s.heap (Heap.SameBut.refl _ _) (by rw [if_pos hk]; exact ⟨D, at_, R⟩)
  · refine add_x at_ R.ok hk hb ?_
    refine h true _ (Heap.SameBut.update s.heap a _) ?_
    rw [if_neg hk]
    exact ⟨_, get_upd _ at_ rfl, R.add u hk⟩
end
section
variable {prog : Program} {w : World} {A : Around} {R : Result → Shared → Prop} {I : Addr} {fp wr : List Addr} {G : Array GenState → Array GenState → Prop} {n : Nat} {P : Nat → Value → Prop} {St : Nat → Shared → Prop}
theorem SetS.moved {h h' : Heap} {a : Addr} {l : List Str} (R : SetS prog w h a l) (k : ∀ o, h.get? a = some o → h'.get? a = some o) : SetS prog w h' a l := by
  obtain ⟨D, at_, q⟩ := R
  exact ⟨D, k _ at_, q⟩
/-- the loop that puts the items of a walk in -/
theorem puts (W : WalksS prog w A.in1 I fp wr G n P St) {D : Addr} (out : D ∉ fp) (xs : List Str) (len : xs.length = n) (few : n + 1 < scanBound) (is : ∀ i v, P i v → ∃ t, v = .str (xs.getD i Str.empty) t) :
    ∀ (m i : Nat) (s : Shared) (acc : List Str), n - i = m → i ≤ n → acc.length ≤ i → St i s → SetS prog w s.heap D acc →
      (∀ s', Moved (D :: wr) G s s' → SetS prog w s'.heap D (onceL acc (xs.drop i)) → R (.ok (.ret .none)) s') →
      codeAny (model prog w) A (.builtin "set.update.loop" ⟨[.ref D, .ref I], []⟩) R s := by
  have offw : D ∉ wr := fun q => out (W.sub _ q)
  have up : ∀ b ∈ wr, b ∈ D :: wr := fun b q => List.mem_cons_of_mem _ q
  intro m
  induction m with
  | zero =>
    intro i s acc hm hi _ st S fin
    obtain rfl : i = n := by omega
    refine codeAny_builtin PyProof.Rows.F.entry_set_update_loop ?_
    rw [Around.under_plainId PyProof.Rows.F.plain_set_update_loop _]
    refine wpAny_bind (W.done s _ _ st fun s' mv => wpAny_pure (fin s' (mv.mono up) ?_))
    rw [List.drop_of_length_le (by omega)]
    exact S.moved fun o e => mv.heap D o offw e
  | succ m ih =>
    intro i s acc hm hi ha st S fin
    have lt : i < n := by omega
    refine codeAny_builtin PyProof.Rows.F.entry_set_update_loop ?_
    rw [Around.under_plainId PyProof.Rows.F.plain_set_update_loop _]
    refine wpAny_bind (W.item i s _ _ lt st fun v s' pv st' mv => ?_)
    obtain ⟨t, rfl⟩ := is i v pv
    have S' : SetS prog w s'.heap D acc := S.moved fun o e => mv.heap D o offw e
    show wpAny _ A.in1 (holding [Value.str (xs.getD i Str.empty) t] (setAdd D (.str (xs.getD i Str.empty) t)) >>= _) _ _ s'
    refine wpAny_bind (wpAny_holding ?_)
    unfold setAdd
    refine wpAny_holding (wpAny_bind ((PySem.strKind prog w).pyHash (k := xs.getD i Str.empty) (strKind_is _ _ _ _) ?_))
    refine put_txt (s := { s' with toks := s'.toks + 1 }) S' (by omega) fun b h' sb S2 => ?_
    have dr : xs.drop i = xs.getD i Str.empty :: xs.drop (i + 1) := by
      rw [List.drop_eq_getElem_cons (by omega), List.getD_eq_getElem?_getD, List.getElem?_eq_getElem (by omega)]
      rfl
    refine wpAny_pure ⟨plainId_quiet PyProof.Rows.F.plain_set_update_loop _, ih (i + 1) _ (if xs.getD i Str.empty ∈ acc then acc else xs.getD i Str.empty :: acc) (by omega) lt ?_ (W.frame _ s' _ _ st' (Nat.le_succ _) fun b hb o e => ?_) S2 fun s'' mv2 S3 => ?_⟩
    · split
      · omega
      · rw [List.length_cons]; omega
    · rw [sb.2 b fun z => out (z ▸ hb)]; exact e
    · refine fin s'' (Moved.trans W.gtrans ((mv.mono up).then_heap (Nat.le_succ _) fun b o hb e => ?_) mv2) ?_
      · rw [sb.2 b fun z => hb (z ▸ List.mem_cons_self)]; exact e
      · rw [dr]; exact S3
end
end Pg
namespace Pg
open PySem PySem.Spec PyProof.Rows L2 PySem.Froz
section
variable {prog : Program} {w : World} {A : Around} {E : Value → Shared → Prop} {s : Shared}
/-- an empty set as it is laid -/
abbrev set0 (w : World) : Obj := { cls := .type "set", dict := none, data := .set #[] 0 (.fresh 0 0 (!w.params.followText "set-order")) }
theorem code_new1 (x : Value) {Z : Value → Shared → Prop} (h : Z (.ref s.heap.objs.size) { s with heap := s.heap.push (set0 w) }) : codeAny (model prog w) A (.call (.builtin "set.__new__") ⟨[.type "set", x], []⟩) (wants Z E) s := by
  refine codeAny_of_tree ?_
  show wpAny _ A.in1 (do checkBuiltinCall "set.__new__" ⟨[.type "set", x], []⟩; again (.builtin "set.__new__" ⟨[.type "set", x], []⟩)) _ _ s
  refine wpAny_bind (wpAny_of_eq (PySem.F.newCall_set_1 x) (wpAny_pure ⟨plainId_quiet PySem.F.plain_set_new _, codeAny_builtin PySem.F.entry_set_new ?_⟩)); rw [Around.under_plainId PySem.F.plain_set_new _]
  unfold Builtin.«set.__new__» Builtin.Frozenset.newClass
  have _sub := sub_set_self
  obtain ⟨heap, gens, drawn, toks, os⟩ := s; dsimp only; wp_walk
  refine wpAny_askSetting (wpAny_pure ?_); dsimp only; simp only [newObj]
  exact wpAny_bind (wpAny_alloc (wpAny_pure (wpAny_pure h)))
theorem set0_ok {h : Heap} : SetS prog w (h.push (set0 w)) h.objs.size [] := by
  refine ⟨(#[], 0, .fresh 0 0 (!w.params.followText "set-order")), Heap.get?_push_size _ rfl, TxOk.nil (by rfl), ⟨[], rfl, List.Perm.refl _⟩, List.nodup_nil, List.Pairwise.nil, ?_⟩
  show _ ∨ (!w.params.followText "set-order") = true
  cases w.params.followText "set-order" with
  | true => exact .inl rfl
  | false => exact .inr rfl
theorem str_at : ∀ {vs : List Value} {xs : List Str}, StrsAre vs xs → ∀ (i : Nat) (v : Value), vs[i]? = some v → ∃ t, v = .str (xs.getD i Str.empty) t
  | _, _, .nil, i, v, h => by simp at h
  | _, _, .cons n t r, 0, v, h => by
    rw [List.getElem?_cons_zero] at h
    exact ⟨t, (Option.some.inj h).symm⟩
  | _, _, .cons n t r, i + 1, v, h => str_at r i v h
set_option maxHeartbeats 4000000 in
/-- set(xs), xs a list of texts -/
theorem call_set_txt {l : Addr} {items : Array Value} {xs : List Str} {Q : Value → Shared → Prop} (hh : A.handled = none) (hl : s.heap.IsList l items) (his : StrsAre items.toList xs) (few : xs.length + 1 < scanBound)
    (h : ∀ (h' : Heap) (tk : Nat), SetS prog w h' s.heap.objs.size (onceL [] xs) → (∀ b o, s.heap.get? b = some o → h'.get? b = some o) → Q (.ref s.heap.objs.size) { s with heap := h', toks := tk }) :
    wpAny (model prog w) A (call (.type "set") [.ref l]) Q E s := by
  obtain ⟨cc, tt, mro⟩ := PySem.F.called_set.mro
  have g1 := PySem.F.called_set.made; have g2 := PySem.F.called_set.sub
  refine wpAny_call (codeAny_of_tree (wpAny_pure ⟨Code.quiet_builtin _ (by decide +kernel), codeAny_builtin PySem.F.entry_type_call ?_⟩))
  rw [Around.under_plain (weight_type_call_type "set" [.ref l] []) rfl]
  have g3 := PySem.F.called_set.notType; have g4 := PySem.F.called_set.canCreate; have g5 := PySem.F.typeCall_set_1 (.ref l)
  repeat (any_goals (first | assumption | wp_step))
  refine codeAny_mono (code_new1 (prog := prog) (.ref l) (E := E) (Z := fun obj z => obj = .ref s.heap.objs.size ∧ z = { s with heap := s.heap.push (set0 w) }) ⟨rfl, rfl⟩) fun r z hr => ?_
  cases r with
  | error e => exact hr
  | ok fl =>
    cases fl with
    | ret obj =>
      obtain ⟨rfl, rfl⟩ := hr
      have at0 : (s.heap.push (set0 w)).get? s.heap.objs.size = some (set0 w) := Heap.get?_push_size _ rfl
      have ty : Shared.TypeIs { s with heap := s.heap.push (set0 w) } (.ref s.heap.objs.size) "set" := ⟨_, at0, rfl⟩
      have g6 := PySem.F.called_set.init.lookup; have g7 := PySem.F.called_set.init.bind (.ref s.heap.objs.size)
      repeat (any_goals (first | assumption | wp_step))
      refine codeAny_mono (codeAny_call_builtin (R := wants (fun r z => r = .none ∧ ∃ h' tk, z = { s with heap := h', toks := tk } ∧ SetS prog w h' s.heap.objs.size (onceL [] xs) ∧ (∀ b o, s.heap.get? b = some o → h'.get? b = some o)) E)
        PySem.F.called_set.init.plain PySem.F.entry_set_init (check_set_init_1 ty ?_)) fun r2 z2 hr2 => ?_
      · obtain ⟨⟨oc, od, odata, osl⟩, hol, hcl, nl, hdl⟩ := hl
        simp only at hcl hdl
        subst hcl hdl
        have hol2 : (s.heap.push (set0 w)).get? l = some { cls := .type "list", dict := od, data := .seq items nl, slots := osl } := Heap.get?_push_of_some _ hol
        have hl2 : (s.heap.push (set0 w)).IsList l items := ⟨_, hol2, rfl, nl, rfl⟩
        have q1 := PySem.F.sub_list_set; have q2 := PySem.F.sub_list_frozenset
        have q3 : (Value.type "list" == Value.type "dict") = false := by decide
        unfold Builtin.«set.__init__» noKeywords Builtin.Frozenset.updateFrom
        generalize hp : pyIter = pi
        wp_walk
        subst hp
        refine wpAny_pyIter_list hl2 (wpAny_bind (wpAny_runValue ?_))
        have lt : l < s.heap.objs.size := Heap.lt_size hol
        have handled : A.in1.in1.in1.handled = none := by simp [hh]
        have sz1 : (s.heap.push (set0 w)).objs.size = s.heap.objs.size + 1 := Heap.size_push _ _
        have ne : l ≠ (s.heap.push (set0 w)).objs.size := by rw [sz1]; exact Nat.ne_of_lt (Nat.lt_succ_of_lt lt)
        have out : s.heap.objs.size ∉ [(s.heap.push (set0 w)).objs.size, l] := by
          rw [sz1]
          intro m
          rcases List.mem_cons.mp m with m | m
          · exact absurd m (Nat.ne_of_lt (Nat.lt_succ_self _))
          · exact absurd (List.mem_singleton.mp m) (Nat.ne_of_gt lt)
        have len : xs.length = items.size := by rw [← StrsAre.len_eq his, Array.length_toList]
        have is : ∀ (i : Nat) (v : Value), items[i]? = some v → ∃ t, v = .str (xs.getD i Str.empty) t := fun i v hv => str_at his i v (by rw [Array.getElem?_toList]; exact hv)
        refine puts ((Walks.list handled _ l ne items).toS) out xs len (by rw [← len]; exact few) is (items.size - 0) 0 _ [] (by omega) (Nat.zero_le _) (Nat.le_refl _) ⟨⟨_, Heap.get?_push_size _ rfl, rfl, rfl⟩, hl2.push _⟩ (set0_ok.moved fun o e => Heap.get?_push_of_some _ e) ?_
        rintro ⟨h', g', d', tk', os'⟩ mv S
        obtain rfl : g' = s.gens := mv.gens
        obtain rfl : d' = s.drawn := mv.drawn
        obtain rfl : os' = s.os := mv.os
        refine wpAny_pure ?_
        refine wpAny_pure ⟨rfl, h', tk', rfl, S, fun b o e => ?_⟩
        have hb : b < s.heap.objs.size := Heap.lt_size e
        refine mv.heap b o (fun m => ?_) (Heap.get?_push_of_some _ (Heap.get?_push_of_some _ e))
        rcases List.mem_cons.mp m with m | m
        · exact absurd m (Nat.ne_of_lt hb)
        · have q := List.mem_singleton.mp m
          rw [sz1] at q
          exact absurd q (Nat.ne_of_lt (Nat.lt_succ_of_lt hb))
      · cases r2 with
        | error e => exact hr2
        | ok fl2 =>
          cases fl2 with
          | ret r =>
            obtain ⟨rfl, h', tk, rfl, a1, a2⟩ := hr2
            repeat (any_goals (first | assumption | wp_step))
            exact h _ _ a1 a2
          | _ => exact hr2.elim
    | _ => exact hr.elim
end
end Pg
namespace Pg
open PySem PySem.Spec PyProof.Rows L2 PySem.Froz
section
variable {prog : Program} {w : World} {A : Around} {E : Value → Shared → Prop} {s : Shared}
/-- the values of a set of texts, in some order, are texts -/
theorem vals_strs : ∀ {vs : List Value} {ps : List (Str × Tok)}, vs.Perm (ps.map fun p => Value.str p.1 p.2) → StrsAre vs (vs.map strOf) ∧ (vs.map strOf).Perm (ps.map Prod.fst) := fun {vs ps} h => by
  refine ⟨strsAre_map vs fun v m => ?_, ?_⟩
  · obtain ⟨p, _, rfl⟩ := List.mem_map.mp (h.mem_iff.mp m)
    exact ⟨p.1, p.2, rfl⟩
  · have q := h.map strOf
    rw [List.map_map] at q
    exact q.trans (List.Perm.of_eq rfl)
theorem zip_fst {α β : Type} : ∀ (l : List α) (us : List β), us.length = l.length → (l.zip us).map Prod.fst = l
  | [], _, _ => rfl
  | x :: l, [], h => by simp at h
  | x :: l, u :: us, h => by rw [List.zip_cons_cons, List.map_cons, zip_fst l us (by simpa using h)]
/-- sorted(a), a set of texts -/
theorem sorted_txt {a : Addr} {l : List Str} {Q : Value → Shared → Prop} (R : SetS prog w s.heap a l) (hh : A.handled = none) (few : l.length < 4000)
    (h : ∀ z p (out : Array Value) (n : Nat) (ys : List Str), (∀ b o, s.heap.get? b = some o → z.heap.get? b = some o) → z.gens = s.gens → z.os = s.os → s.heap.objs.size ≤ p → z.heap.get? p = some (seqObj "list" out n) →
      StrsAre out.toList ys → ys.Perm l → sortedS ys = true → Q (.ref p) z) : wpAny (model prog w) A (call (.builtin "sorted") [.ref a]) Q E s := by
  obtain ⟨⟨es, ep, t⟩, at_, R⟩ := R
  obtain ⟨us, hu, pm⟩ := R.all
  have sz : es.size = l.length := R.ok.sz
  have scan : es.size < scanBound := by rw [sz]; exact Nat.lt_of_lt_of_le few (by decide)
  refine Calls.call_function_entry kind_sorted plain_sorted entry_sorted (args_sorted1 _) ?_
  unfold Builtin.«sorted»
  refine wpAny_bind (m := checkCount "sorted" 1 1 _) (wpAny_pure (wpAny_bind (collect_set (A := A.in1) hh ⟨_, at_, rfl, rfl⟩ R.ok.fit scan R.ris R.led fun z vs k1 hz g1 o1 pv => ?_)))
  have pv2 : vs.Perm ((l.zip us).map fun p => Value.str p.1 p.2) := by
    have q := pv.trans (pm.map (·.2))
    rw [List.map_map] at q
    exact q
  obtain ⟨st, ps⟩ := vals_strs pv2
  rw [zip_fst l us hu] at ps
  have vlen : vs.length = l.length := by
    have := ps.length_eq
    rwa [List.length_map] at this
  refine wpAny_bind (wpAny_newList ?_ (by rw [vlen, sizeLine_eq]; omega))
  have new : (z.heap.push (seqObj "list" vs.toArray 0)).get? z.heap.objs.size = some (seqObj "list" vs.toArray 0) := Heap.get?_push_size _ rfl
  refine wpAny_bind (wpAny_holding (wpAny_call_entry slot_list_sort ⟨_, new, rfl⟩ entry_list_sort (list_sort_treeKAny strKind_oneLt new st.keysOf (fun v1 v2 rest e => keyKind_strs (by rw [← e]; exact st)) (by rw [vlen, sizeLine_eq]; omega) fun st' hp hs => ?_) (args_list_sort _)))
  obtain ⟨ys, y1, y2, y3⟩ := sorted_out_str st hp hs
  obtain ⟨n, hn⟩ := sortedHeap_at (vs := vs) (out := (arrOf st').map (·.2)) new
  refine ⟨_, rfl, wpAny_pure ⟨_, rfl, h _ z.heap.objs.size _ n ys (fun b o e => ?_) g1 o1 hz hn y1 (y2.trans ps) y3⟩⟩
  have q := k1 b o e
  have lt := Heap.lt_size q
  show (sortedHeap (z.heap.push (seqObj "list" vs.toArray 0)) z.heap.objs.size vs _).get? b = some o
  rw [sortedHeap_old (Nat.ne_of_lt lt) (by rw [size_push']; exact Nat.lt_succ_of_lt lt)]
  exact Heap.get?_push_of_some _ q
end
end Pg
namespace Pg
open PySem PySem.Spec PyProof.Rows L2
/-! ### defs that are called where no text is being written of anything -/
structure FnG (P : Program) (w : World) (K : PySem.W.Frag) (mg : Str → Option Value) (base : Heap) (k : Nat) (f : Addr) (fd : FuncData) (ps : List Str) (sp : Sp) : Prop where
  ln : ∀ vs H Q E, sp vs H Q E → vs.length = ps.length
  go : ∀ (A : Around), A.guards = some [] → Room k A → ∀ (outer : List Env) (s : Shared) (H : Hp), Env0 P w K mg base A outer s H →
    ∀ (args : Args) (us : List Value) (vs : List V) (Q : VK) (E : XK), BindsTo s fd args (ps.zip us) → Vals vs us → sp vs H Q E →
    codeAny (model P w) A (.call (.ref f) args) (CR CX0 outer P w H s Q E) s
section
variable {P : Program} {w : World} {K : PySem.W.Frag} {mg : Str → Option Value} {base : Heap}
theorem FnG.of {k : Nat} {f : Addr} {fd : FuncData} {ps : List Str} {sp : Sp} (F : FnOk P w K mg base CX0 k f fd ps sp) : FnG P w K mg base k f fd ps sp :=
  ⟨F.len, fun A _ r outer s H e args us vs Q E b v h => F.run A outer s H args us vs Q E r e b v h⟩
theorem FnG.mono {j k : Nat} {f : Addr} {fd : FuncData} {ps : List Str} {sp : Sp} (F : FnG P w K mg base j f fd ps sp) (h : j ≤ k) : FnG P w K mg base k f fd ps sp :=
  ⟨F.ln, fun A g r => F.go A g (r.mono h)⟩
/-- a def by its body -/
theorem Df.g {x : Str} {st : Stmt} {f : Addr} {fd : FuncData} {N ps : List Str} {k : Nat} {sp : Sp} (D : Df K mg x st ps f fd) (S : FnScope N ps (defScope st)) (len : ∀ vs H Q E, sp vs H Q E → vs.length = ps.length)
    (hb : ∀ (cdv : Value) (A : Around) (outer : List Env) (s : Shared) (H : Hp) (vs : List V) (Q : VK) (E : XK), (A.deeper (envOfC x (defScope st) s.heap.objs.size f cdv)).guards = some [] →
      Room k (A.deeper (envOfC x (defScope st) s.heap.objs.size f cdv)) → sp vs H Q E →
      ∃ t, PSs (cxOf CX0 P w K mg base N x (defScope st) f cdv A outer s H E).nox (defBody st) t ∧ t { nx := fun _ H' => Q .non H', rt := Q } (start N vs) H) : FnG P w K mg base (k + 1) f fd ps sp := by
  obtain ⟨oc, od, kV, doc, pm, an, cdv, ct, osl, rfl, lk, hcd⟩ := D.fn.ex
  refine ⟨len, fun A g hr outer s H e0 args us vs Q E bt rv hsp => ?_⟩
  have hlen := len _ _ _ _ hsp
  have KX : K.In s.heap := e0.mod.kin.keeps fun b o e => (e0.bs b o e).1
  have lim : s.heap.NoLimit := e0.mod.nolimit.keeps fun b o e => (e0.bs b o e).1
  refine codeAny_call_function hr.depth (KX _ _ lk) rfl S.co S.gen rfl (PySem.W.codeRec_of KX hcd) (bt _ _ _ _ ?_)
  refine wpAny_newFunctionEnv_cells S.kind (fun y hy => ?_) fun env he s1 x1 => ?_
  · have hp : y.1 ∈ ps := (List.of_mem_zip (show (y.1, y.2) ∈ ps.zip us from hy)).1
    refine (S.par y.1 hp).imp id fun q => ⟨q, ?_⟩
    exact PySem.W.cellsFrom_some _ _ _ (.inl q)
  subst he
  refine ⟨lim.keeps x1.toInCall.keep, codeAny_func ?_⟩
  obtain ⟨t, ht, hq⟩ := hb cdv A outer s H vs Q E (by rw [← g]; rfl) (hr.deeper _) hsp
  refine wpAny_mono (ht.nox.run [] s1 (start N vs) H _ (inv_start S hr.hd e0 hlen rv x1) hq) (fun fl s' hs => ?_) fun e s' hs => hs
  cases fl with
  | ret u =>
    obtain ⟨v, σ', H', J, rv', q⟩ := hs
    exact ⟨v, H', J.os, J.bare, J.base, J.hok, rv', q⟩
  | next =>
    obtain ⟨σ', H', J, q⟩ := hs
    exact ⟨.non, H', J.os, J.bare, J.base, J.hok, rfl, q⟩
  | brk =>
    obtain ⟨_, _, _, q⟩ := hs
    exact q.elim
  | cont =>
    obtain ⟨_, _, _, q⟩ := hs
    exact q.elim
end
/-- a def of the text with such a promise -/
structure ClG (P : Program) (w : World) (K : PySem.W.Frag) (mg : Str → Option Value) (base : Heap) (k : Nat) (x : Str) (st : Stmt) (ps : List Str) (sp : Sp) : Prop where
  ex : ∃ f fd, Df K mg x st ps f fd ∧ FnG P w K mg base k f fd ps sp
section
variable {X : Cx} {j k : Nat} {st : Stmt} {f : Addr} {fd : FuncData} {ps : List Str} {sp : Sp} {x : Str} {p pos : Pos} {e : Expr} {es : List Expr} {t : TA}
theorem run_g {pins : List (Addr × Obj)} {σ : L2.St} {H : Hp} {s : Shared} {Q : VK} {us : List Value} {vs : List V} (F : FnG X.prog X.w X.K X.mg X.base k f fd ps sp) (hG : X.A.guards = some []) (hr : Room k X.A) (hb : Binds X.K fd ps [])
    (I : Inv X pins σ H s) (r : Vals vs us) (h : sp vs H Q E0) : wpAny (model X.prog X.w) X.A (call (.ref f) us) (EP X pins σ Q) X.xe s := by
  have hl : (us ++ []).length = ps.length := by rw [List.append_nil, ← r.length]; exact F.ln _ _ _ _ h
  have bt := hb s us I.kIn hl
  rw [List.append_nil] at bt
  refine wpAny_call (codeAny_mono (F.go X.A hG hr X.stack s H I.env0 ⟨us, []⟩ us vs Q E0 bt r h) fun r s' hq => ?_)
  cases r with
  | error e => exact (pass0 (X := X) pins σ H s e s' I hq)
  | ok fl =>
    cases fl with
    | ret u => exact I.after hq
    | next => exact hq.elim
    | brk => exact hq.elim
    | cont => exact hq.elim
theorem pe_clG (c : ClG X.prog X.w X.K X.mg X.base k x st ps sp) (hG : X.A.guards = some []) (hr : Room j X.A) (hk : k ≤ j) (ha : PA X (e :: es) t) (hg : Gl X x := by rfl) (hdb : (x == ("__debug__" : Str)) = false := by decide)
    (he : starEach (e :: es) X.env = (false, eval e X.env) :: starEach es X.env := by rfl) (hpl : (backTo pos (starEach es X.env)).any (·.1) = false := by rfl) :
    PE X (.Call (.Name x p) (e :: es) [] pos) (tCl sp t) := by
  obtain ⟨f, fd, D, F⟩ := c.ex
  refine ⟨fun pins s σ H Q I h => ?_⟩
  refine wpAny_Call_Name_kw (ld_glob I hg D.at_ ?_ hdb)
  refine PySem.W.callWith_K (h₀ := X.base) I.ok.mod.kin D.fn.kp (thn (ha.run pos pins s σ H _ I h) fun us s1 ⟨vs, H1, I1, r, q⟩ => ⟨I1.kIn, ?_⟩) he hpl
  exact run_g (F.mono hk) hG hr D.bd I1 r q
end
end Pg
namespace Pg
open PySem PySem.Spec PyProof.Rows L2
/-! ### the end of a law, from a promise that is kept where no text is being written -/
section
variable {P : Program} {w : World} {K : PySem.W.Frag} {mg mb : Str → Option Value} {h : Heap} {a : Addr} {ob : Obj} {xs : List V}
/-- what is known of the store at first: the script, where it is no object of the module -/
def H0 (K : PySem.W.Frag) (a : Addr) (ob : Obj) (xs : List V) : Hp := fun b => if b = a ∧ K.lookup a = none then some (.frz ob (.lst xs)) else none
theorem h0_cases (b : Addr) : H0 K a ob xs b = none ∨ (b = a ∧ K.lookup a = none ∧ H0 K a ob xs b = some (.frz ob (.lst xs))) := by
  by_cases c : b = a ∧ K.lookup a = none
  · exact .inr ⟨c.1, c.2, if_pos c⟩
  · exact .inl (if_neg c)
theorem h0_none {b : Addr} (n : b ≠ a) : H0 K a ob xs b = none := if_neg fun c => n c.1
theorem h0_base {b : Addr} {o : Obj} (e : h.get? b = some o) (n : H0 K a ob xs b = none) : (hidT h (H0 K a ob xs)).get? b = some o := hidT_get e n
theorem h0_ns {b : Addr} {m : Str → Option Value} {l : List Value} {n : Nat} (ha : h.get? a = some { cls := .type "list", data := .seq l.toArray n }) (q : h.Ns b m) : (hidT h (H0 K a ob xs)).Ns b m := by
  obtain ⟨o, es, ep, e, d, r⟩ := q
  refine ⟨o, es, ep, h0_base e (h0_none fun z => ?_), d, r⟩
  subst z
  rw [ha] at e
  cases e
  exact Data.noConfusion d
theorem law_g {k : Nat} {fa : Addr} {fd : FuncData} {x : Str} {sp : Sp} {s₁ : Shared} {vs : List Value} {ns : List Int}
    (KX : K.In s₁.heap) (hns : s₁.heap.Ns mainGlobals mg) (hb : s₁.heap.Ns builtinsNs mb) (hbb : ∀ x : Str, x ≠ "__name__" → mb x = bootBuiltins x) (hlim : s₁.heap.NoLimit) (hg : s₁.gens = #[])
    (ha : s₁.heap.get? a = some { cls := .type "list", data := .seq vs.toArray }) (hi : IntsAre vs ns) (hl : ns.length ≤ sizeLine) (hr : Room k callerA)
    (F : ∀ base : Heap, K.In base → base.Ns mainGlobals mg → FnG P w K mg base k fa fd [x] sp) (hbind : ∀ (s : Shared) (u : Value), BindsTo s fd ⟨[u], []⟩ [(x, u)])
    (hsp : ∀ H : Hp, L2.Only H → SqL K H a (ns.map V.int) → sp [.ref a] H (fun v _ => v = .bl true) fun _ _ _ => False) :
    codeAny (model P w) callerA (.call (.ref fa) ⟨[.ref a], []⟩) (fun r s' => r = .ok (.ret (.bool true)) ∧ OldK s₁.heap s'.heap ∧ s'.os = s₁.os ∧ AllBare s'.gens) s₁ := by
  have rv := vals_ints hi
  have hlen : (ns.map V.int).length ≤ sizeLine := by rw [List.length_map]; exact hl
  have hK : K.In (hidT s₁.heap (H0 K a { cls := .type "list", data := .seq vs.toArray } (ns.map V.int))) := fun b o e => h0_base (KX b o e) (by
    rcases h0_cases (K := K) (a := a) (ob := { cls := .type "list", data := .seq vs.toArray }) (xs := ns.map V.int) b with q | ⟨rfl, q, _⟩
    · exact q
    · rw [q] at e
      cases e)
  have hM : Mod K mg (hidT s₁.heap (H0 K a { cls := .type "list", data := .seq vs.toArray } (ns.map V.int))) := by
    obtain ⟨mc, l1, l2⟩ := hlim
    exact ⟨hK, h0_ns ha hns, ⟨mb, h0_ns ha hb, hbb⟩, ⟨mc, h0_ns ha l1, l2⟩⟩
  have hok : HOk P w (H0 K a { cls := .type "list", data := .seq vs.toArray } (ns.map V.int)) s₁.heap := fun b u z => by
    rcases h0_cases (K := K) (a := a) (ob := { cls := .type "list", data := .seq vs.toArray }) (xs := ns.map V.int) b with q | ⟨rfl, _, q⟩
    · rw [q] at z
      cases z
    · rw [q] at z
      cases z
      exact ⟨ha, hlen, vs, _, rv, ha⟩
  have e0 : Env0 P w K mg (hidT s₁.heap (H0 K a { cls := .type "list", data := .seq vs.toArray } (ns.map V.int))) callerA [] s₁ (H0 K a { cls := .type "list", data := .seq vs.toArray } (ns.map V.int)) :=
    ⟨rfl, hM, fun b o e => of_hidT e, Nat.le_of_eq (hidT_size _ _), trivial, fun b z => absurd (show b ∈ ([] : List Addr) from z) (by simp), hok, .of_eq hg⟩
  have hO : L2.Only (H0 K a { cls := .type "list", data := .seq vs.toArray } (ns.map V.int)) := fun b => by
    rcases h0_cases (K := K) (a := a) (ob := { cls := .type "list", data := .seq vs.toArray }) (xs := ns.map V.int) b with q | ⟨_, _, q⟩
    · exact .inl q
    · exact .inr ⟨_, _, q⟩
  have hS : SqL K (H0 K a { cls := .type "list", data := .seq vs.toArray } (ns.map V.int)) a (ns.map V.int) := by
    cases hk : K.lookup a with
    | none => exact .inl (.inr ⟨_, if_pos ⟨rfl, hk⟩⟩)
    | some o =>
      have e := KX a o hk
      rw [ha] at e
      cases e
      exact .inr ⟨_, vs.toArray, _, hk, rfl, rfl, rfl, by rw [List.size_toArray, hi.length]; exact hl, by simpa using rv⟩
  refine codeAny_mono ((F _ hK (h0_ns ha hns)).go callerA rfl hr [] s₁ _ e0 ⟨[.ref a], []⟩ [.ref a] [.ref a] _ _ (hbind s₁ (.ref a)) (.cons rfl .nil) (hsp _ hO hS)) fun r s' q => ?_
  cases r with
  | error e => exact q.elim
  | ok fl =>
    cases fl with
    | next => exact q.elim
    | brk => exact q.elim
    | cont => exact q.elim
    | ret u =>
      obtain ⟨v, H', os, bare, un, hok', r', q⟩ := q
      have q' : v = .bl true := q
      subst q'
      obtain rfl : u = Value.bool true := r'
      refine ⟨rfl, OldK.of_keep fun b o e => ?_, os, bare⟩
      rcases h0_cases (K := K) (a := a) (ob := { cls := .type "list", data := .seq vs.toArray }) (xs := ns.map V.int) b with z | ⟨_, _, z⟩
      · exact un.keep b o e z (fun z => absurd (show b ∈ ([] : List Addr) from z) (by simp)) (by simp)
      · obtain ⟨e1, _⟩ := hok b _ z
        obtain ⟨e2, _⟩ := hok' b _ (un.frzs b _ _ z)
        rw [e] at e1
        cases e1
        exact e2
end
/-- the goal that the end of a law leaves -/
theorem walk_g {l : PySem.W.OpenLaw} {n k : Nat} {q : Program} {loose : List Str} {XP : (Str → Option Value) → Heap → Prop} {YP : World → Heap → Prop} {d : DefRec} {K : Params → PySem.W.Frag} {sp : World → Sp} {x : Str}
    (hn : l.most = some n) (hn2 : n ≤ sizeLine) (hdf : d.params.defaults = []) (hr : Room k callerA) (hY : ∀ (w : World) (h : Heap), YP w h → (K w.params).In h)
    (F : ∀ (w : World) (mg : Str → Option Value) (fa : Addr) (h : Heap), (K w.params).In h → h.Ns mainGlobals mg → mg d.name = some (.ref fa) →
      ∃ fd : FuncData, (∀ (s : Shared) (u : Value), BindsTo s fd ⟨[u], []⟩ [(x, u)]) ∧ ∀ base : Heap, (K w.params).In base → base.Ns mainGlobals mg → FnG l.prog w (K w.params) mg base k fa fd [x] (sp w))
    (hsp : ∀ (w : World) (H : Hp) (a : Addr) (ns : List Int), ns.length ≤ n → L2.Only H → SqL (K w.params) H a (ns.map V.int) → sp w [.ref a] H (fun v _ => v = .bl true) fun _ _ _ => False) :
    PySem.W.WalkO q loose XP YP l.row.toRowW d [] (fun f vs => PySem.call f vs) :=
  Att.attach_call hn hdf fun w _ s₁ mg _ fa _ _ _ _ a _ ns G Y _ _ _ hmg hobj hints hlen hg => by
    obtain ⟨fd, hb, hF⟩ := F w mg fa _ (hY w _ Y) G.T.g hmg
    exact law_g (hY w _ Y) G.T.g G.T.b G.T.builtins G.T.nolimit hg hobj hints (Nat.le_trans hlen hn2) hr hF hb fun H hO hS => hsp w H a ns hlen hO hS
end Pg
namespace Pg
open PySem PySem.Spec PyProof.Rows L2
/-! ### repr of data -/
mutual
theorem dp_plain {K : PySem.W.Frag} {H : Hp} : ∀ (d : PyData) {v : V}, Dp K H v d → d.hasDict = false
  | .none, _, _ => by simp only [PyData.hasDict]
  | .bool _, _, _ => by simp only [PyData.hasDict]
  | .int _, _, _ => by simp only [PyData.hasDict]
  | .str _, _, _ => by simp only [PyData.hasDict]
  | .list ds, _, h => by
    cases h with
    | lst _ q =>
      simp only [PyData.hasDict]
      exact dps_plain ds q
  | .tuple ds, _, h => by
    cases h with
    | tup _ q =>
      simp only [PyData.hasDict]
      exact dps_plain ds q
  | .dict _, _, h => by cases h
theorem dps_plain {K : PySem.W.Frag} {H : Hp} : ∀ (ds : List PyData) {vs : List V}, DpAll K H vs ds → PyData.hasDictAll ds = false
  | [], _, _ => by simp only [PyData.hasDictAll]
  | d :: ds, _, h => by
    cases h with
    | cons a b => simp only [PyData.hasDictAll, dp_plain d a, dps_plain ds b, Bool.or_self]
end
def rRepr (K : PySem.W.Frag) : List V → Hp → VK → Prop := fun xs H Q => ∃ v d, xs = [v] ∧ Dp K H v d ∧ d.showable = true ∧ d.depth ≤ 100 ∧ d.shown.length ≤ sizeLine ∧ Q (.str d.shown) H
theorem call_repr {X : Cx} {j : Nat} (hG : X.A.guards = some []) (hr : Room j X.A) : CallR X (.builtin "repr") (rRepr X.K) := by
  intro pins s σ H xs us Q I r h
  obtain ⟨v, d, rfl, dp, sh, dd, sz, q⟩ := h
  obtain ⟨u, rfl, rv⟩ := vals1 r
  have hu : X.A.units + (d.depth + 1) < cLine := by have := hr.un; omega
  obtain ⟨as, rd⟩ := Dp.reads I d v u dp rv
  have nd : d.hasDict = true → sysModules ∉ as := PyData.noDict_hsm (dp_plain d dp)
  have deep : ∀ a, u = .ref a → wpAny (model X.prog X.w) X.A (call (.builtin "repr") [u]) (EP X pins σ Q) X.xe s := fun a e => by
    subst e
    exact repr_of_reads' rd sh nd hG hu (fun _ _ e => e) (fun h' t tk k => ⟨.str d.shown, H, I.kept k, ⟨t, rfl⟩, q⟩) sz
  cases rd with
  | none => exact PySem.P.repr_of_none ⟨.str _, H, I.tok _, ⟨_, rfl⟩, by simpa only [PyData.shown] using q⟩
  | bool b => exact PySem.P.repr_of_bool ⟨.str _, H, I.tok _, ⟨_, rfl⟩, by simpa only [PyData.shown] using q⟩
  | int i t => exact PySem.P.repr_of_int (by simpa [PyData.showable] using sh) ⟨.str _, H, I.tok _, ⟨_, rfl⟩, by simpa only [PyData.shown] using q⟩
  | str x t => exact PySem.P.repr_of_str ⟨.str _, H, I.tok _, ⟨_, rfl⟩, by simpa only [PyData.shown] using q⟩ (by simpa only [PyData.shown] using sz)
  | list _ _ _ _ => exact deep _ rfl
  | tuple _ _ _ _ => exact deep _ rfl
  | dict _ _ _ _ _ => exact deep _ rfl
-- a bound for the signs of data whose texts are short: 4 more for every part, 122 for a text
mutual
def dW : PyData → Nat
  | .none => 4
  | .bool _ => 5
  | .int _ => 30
  | .str _ => 122
  | .list ds => dWs ds + 4
  | .tuple ds => dWs ds + 4
  | .dict _ => 0
def dWs : List PyData → Nat
  | [] => 0
  | d :: ds => dW d + 2 + dWs ds
end
-- no ints, texts of 12 letters at most
mutual
inductive Neat : PyData → Prop
  | non : Neat .none
  | bl (b : Bool) : Neat (.bool b)
  | str {x : Str} (h : x.length ≤ 12) (c : ∀ n ∈ x.cps.toList, n < 16 ^ 8) : Neat (.str x)
  | lst {ds : List PyData} : Neats ds → Neat (.list ds)
  | tup {ds : List PyData} : Neats ds → Neat (.tuple ds)
inductive Neats : List PyData → Prop
  | nil : Neats []
  | cons {d : PyData} {ds : List PyData} : Neat d → Neats ds → Neats (d :: ds)
end
mutual
theorem neat_sh : ∀ (d : PyData), Neat d → d.showable = true
  | .none, _ => by simp only [PyData.showable]
  | .bool _, _ => by simp only [PyData.showable]
  | .str _, _ => by simp only [PyData.showable]
  | .int _, h => by cases h
  | .list ds, .lst q => by
    simp only [PyData.showable]
    exact neats_sh ds q
  | .tuple ds, .tup q => by
    simp only [PyData.showable]
    exact neats_sh ds q
  | .dict _, h => by cases h
theorem neats_sh : ∀ (ds : List PyData), Neats ds → PyData.showableAll ds = true
  | [], _ => by simp only [PyData.showableAll]
  | d :: ds, .cons a b => by simp only [PyData.showableAll, neat_sh d a, neats_sh ds b, Bool.and_self]
end
theorem textFrom_le : ∀ (ts : List Str) (k : Nat) (acc : Str), (textFrom k acc ts).length ≤ acc.length + (ts.map fun t => t.length + 2).sum
  | [], k, acc => by
    show acc.length ≤ _
    simp
  | t :: ts, k, acc => by
    have ih := textFrom_le ts (k + 1) (acc ++ (if k > 0 then ", " else "" : String) ++ t)
    have e : (acc ++ (if k > 0 then ", " else "" : String) ++ t).length ≤ acc.length + 2 + t.length := by
      rw [strLen_append, strLen_append]
      by_cases c : k > 0
      · rw [if_pos c]
        have : (Str.ofString ", ").length = 2 := rfl
        omega
      · rw [if_neg c]
        have : (Str.ofString "").length = 0 := rfl
        omega
    rw [List.map_cons, List.sum_cons]
    show (textFrom (k + 1) (acc ++ (if k > 0 then ", " else "" : String) ++ t) ts).length ≤ _
    omega
theorem piled_sum : ∀ ts : List Str, piled ts = (ts.map fun t => t.length + 2).sum
  | [] => rfl
  | t :: ts => by simp [piled, piled_sum ts]
theorem tupleText_le (ts : List Str) : (tupleText ts).length ≤ (ts.map fun t => t.length + 2).sum + 4 := by
  have e1 : (Str.ofString "(").length = 1 := rfl
  have e2 : (Str.ofString (if ts.length == 1 then ",)" else ")")).length ≤ 2 := by split <;> decide
  have e3 : (Str.join (Str.ofString ", ") ts).length ≤ (ts.map fun t => t.length + 2).sum := by
    cases ts with
    | nil => exact Nat.zero_le _
    | cons t ts =>
      have q := join_length_add (t :: ts) (by simp)
      rw [piled_sum] at q
      omega
  unfold tupleText
  rw [strLen_append, strLen_append]
  omega
theorem listText_le (ts : List Str) : (listText ts).length ≤ (ts.map fun t => t.length + 2).sum + 4 := by
  have e1 : (Str.ofString "[").length = 1 := rfl
  have e2 : (Str.ofString "]").length = 1 := rfl
  have q := textFrom_le ts 0 (Str.ofString "[")
  show (textFrom 0 "[" ts ++ "]").length ≤ _
  rw [strLen_append]
  omega
mutual
theorem neat_le : ∀ (d : PyData), Neat d → d.shown.length ≤ dW d
  | .none, _ => by
    simp only [PyData.shown, dW]
    decide
  | .bool b, _ => by
    cases b <;> simp only [PyData.shown, dW] <;> decide
  | .str x, .str h c => by
    simp only [PyData.shown, dW]
    have := StrLaws.reprText_len x c
    omega
  | .int _, h => by cases h
  | .list ds, .lst q => by
    simp only [PyData.shown, dW]
    have a := listText_le (PyData.shownAll ds)
    have b := neats_le ds q
    omega
  | .tuple ds, .tup q => by
    simp only [PyData.shown, dW]
    have a := tupleText_le (PyData.shownAll ds)
    have b := neats_le ds q
    omega
  | .dict _, h => by cases h
theorem neats_le : ∀ (ds : List PyData), Neats ds → ((PyData.shownAll ds).map fun t => t.length + 2).sum ≤ dWs ds
  | [], _ => by
    simp only [PyData.shownAll, dWs]
    decide
  | d :: ds, .cons a b => by
    have p := neat_le d a
    have q := neats_le ds b
    simp only [PyData.shownAll, dWs, List.map_cons, List.sum_cons]
    omega
end
/-- repr of data with short texts and no ints -/
def rNeat (K : PySem.W.Frag) : List V → Hp → VK → Prop := fun xs H Q => ∃ v d, xs = [v] ∧ Dp K H v d ∧ Neat d ∧ d.depth ≤ 100 ∧ dW d ≤ 1000000 ∧ Q (.str d.shown) H
theorem call_repr_neat {X : Cx} {j : Nat} (hG : X.A.guards = some []) (hr : Room j X.A) : CallR X (.builtin "repr") (rNeat X.K) := fun pins s σ H xs us Q I r h => by
  obtain ⟨v, d, e, dp, n, dd, sz, q⟩ := h
  exact call_repr hG hr pins s σ H xs us Q I r ⟨v, d, e, dp, neat_sh d n, dd, Nat.le_trans (neat_le d n) (Nat.le_trans sz (by decide)), q⟩
end Pg
namespace Pg
open PySem PySem.Spec PyProof.Rows L2
/-! ### sorted(set(xs)), texts -/
theorem once_nodup : ∀ (xs acc : List Str), acc.Nodup → (onceL acc xs).Nodup
  | [], _, h => h
  | x :: xs, acc, h => by
    show (onceL (if x ∈ acc then acc else x :: acc) xs).Nodup
    refine once_nodup xs _ ?_
    by_cases c : x ∈ acc
    · rw [if_pos c]
      exact h
    · rw [if_neg c]
      exact List.nodup_cons.mpr ⟨c, h⟩
theorem txt_lt_of {a b : List Nat} (n : ¬ b < a) (d : a ≠ b) : a < b := by
  by_cases h : a < b
  · exact h
  · exact absurd (List.le_antisymm (List.not_lt.mp n) (List.not_lt.mp h)) d
theorem rising_pw : ∀ (zs : List (List Nat)) (p : List Nat), (p :: zs).Nodup → risingS (tx p) (zs.map tx) = true → (p :: zs).Pairwise (· < ·)
  | [], p, _, _ => List.pairwise_singleton _ _
  | z :: zs, p, nd, h => by
    have h' : (!ltCps z p && risingS (tx z) (zs.map tx)) = true := by simpa [risingS] using h
    rw [ltCps_eq] at h'
    obtain ⟨h1, h2⟩ := Bool.and_eq_true_iff.mp h'
    obtain ⟨n1, n2⟩ := List.nodup_cons.mp nd
    have ih := rising_pw zs z n2 h2
    have pz : p < z := txt_lt_of (by simpa using h1) fun e => n1 (by rw [e]; exact List.mem_cons_self)
    refine List.pairwise_cons.mpr ⟨fun y m => ?_, ih⟩
    rcases List.mem_cons.mp m with rfl | m
    · exact pz
    · exact List.lt_trans pz ((List.pairwise_cons.mp ih).1 y m)
theorem sorted_pw {ls : List (List Nat)} {ys : List Str} (pm : ys.Perm (onceL [] (ls.map tx))) (so : sortedS ys = true) : ∃ zs : List (List Nat), ys = zs.map tx ∧ zs.Pairwise (· < ·) ∧ (∀ l, l ∈ zs ↔ l ∈ ls) ∧ zs.length ≤ ls.length := by
  have e : ys = (ys.map fun s => s.cps.toList).map tx := by
    rw [List.map_map]
    conv => lhs; rw [← List.map_id ys]
    rfl
  have nd : ys.Nodup := pm.nodup_iff.mpr (once_nodup _ _ List.nodup_nil)
  have mem : ∀ s, s ∈ ys ↔ s ∈ ls.map tx := fun s => by
    rw [pm.mem_iff, once_mem]
    simp
  refine ⟨ys.map fun s => s.cps.toList, e, ?_, fun l => ?_, ?_⟩
  · have nd2 : (ys.map fun s => s.cps.toList).Nodup := by
      rw [e] at nd
      exact List.Pairwise.of_map tx (fun a b h e => h (by rw [e])) nd
    revert nd2
    rw [e] at so
    generalize (ys.map fun s => s.cps.toList) = zs at so
    intro nd2
    cases zs with
    | nil => exact List.Pairwise.nil
    | cons z zs => exact rising_pw zs z nd2 so
  · constructor
    · intro m
      obtain ⟨s, m1, rfl⟩ := List.mem_map.mp m
      obtain ⟨l, m2, rfl⟩ := List.mem_map.mp ((mem s).mp m1)
      simpa using m2
    · intro m
      exact List.mem_map.mpr ⟨tx l, (mem _).mpr (List.mem_map.mpr ⟨l, m, rfl⟩), by simp⟩
  · rw [List.length_map, pm.length_eq]
    have := once_len (ls.map tx) []
    simpa using this
/-- sorted(set(xs)): xs texts, under 64 of them; strictly ascending -/
def tSS (K : PySem.W.Frag) (te : TE) : TE := fun σ H Q => te σ H fun v H1 => ∃ (a : Addr) (ls : List (List Nat)), v = .ref a ∧ SqL K H1 a (ls.map Tx) ∧ ls.length < 4000 ∧
  ∀ (zs : List (List Nat)) (p : Addr), zs.Pairwise (· < ·) → (∀ l, l ∈ zs ↔ l ∈ ls) → zs.length ≤ ls.length → H1 p = none → Q (.ref p) (upd H1 p (.lst (zs.map Tx)))
theorem pe_sortset {X : Cx} {e : Expr} {te : TE} {p p2 pos pos2 : Pos} (hh : X.A.handled = none) (g1 : Gl X "sorted") (m1 : X.mg "sorted" = none) (g2 : Gl X "set") (m2 : X.mg "set" = none) (he : PE X e te)
    (hs : starEach [e] X.env = (false, eval e X.env) :: starEach [] X.env := by rfl)
    (hs2 : starEach [Expr.Call (.Name "set" p2) [e] [] pos2] X.env = (false, eval (Expr.Call (.Name "set" p2) [e] [] pos2) X.env) :: starEach [] X.env := by rfl) :
    PE X (.Call (.Name "sorted" p) [.Call (.Name "set" p2) [e] [] pos2] [] pos) (tSS X.K te) := by
  refine ⟨fun pins s σ H Q I h => ?_⟩
  refine wpAny_Call_Name_kw (ld_blt I g1 m1 (by rfl) ?_ (by decide) (by decide))
  refine PyProof.Rows.callWith_builtin1 ?_ hs2 (by rfl)
  rw [hs2]
  show wpAny _ _ (spliced ((false, eval (Expr.Call (.Name "set" p2) [e] [] pos2) X.env) :: backTo pos (starEach [] X.env))) _ _ s
  refine Calls.spliced_cons ?_
  refine wpAny_Call_Name_kw (ld_blt I g2 m2 (by rfl) ?_ (by decide) (by decide))
  refine PyProof.Rows.callWith_type1 ?_ hs (by rfl)
  rw [hs]
  show wpAny _ _ (spliced ((false, eval e X.env) :: backTo pos2 (starEach [] X.env))) _ _ s
  refine Calls.spliced_cons (thn (he.run pins s σ H _ I h) fun u s1 ⟨v, H1, I1, r1, q1⟩ => Calls.spliced_nil ?_)
  obtain ⟨a, ls, rfl, hl, few, q⟩ := q1
  obtain rfl : u = .ref a := r1
  obtain ⟨its, rv, pl, _⟩ := I1.list hl
  have st : StrsAre its.toArray.toList (ls.map tx) := by
    have : ls.map Tx = (ls.map tx).map V.str := by rw [List.map_map]; rfl
    rw [this] at rv
    exact rv.strs
  refine call_set_txt hh pl.isList st (by rw [List.length_map]; exact Nat.lt_of_lt_of_le (Nat.succ_lt_succ few) (by decide)) fun h' tk S k => ?_
  refine Calls.spliced_nil ?_
  have few2 : (onceL [] (ls.map tx)).length < 4000 := by
    have := once_len (ls.map tx) []
    rw [List.length_map] at this
    simp at this
    omega
  refine sorted_txt (s := { s1 with heap := h', toks := tk }) S hh few2 fun z p out n ys k2 hg ho hp hat hst pm so => ?_
  obtain ⟨zs, rfl, pw, mem, len⟩ := sorted_pw pm so
  have k3 : ∀ b u, s1.heap.get? b = some u → z.heap.get? b = some u := fun b u e => k2 b u (k b u e)
  have sz : s1.heap.objs.size ≤ p := by
    obtain ⟨D, at_, _⟩ := S
    exact Nat.le_trans (Nat.le_of_lt (Heap.lt_size at_)) hp
  have fr := I1.hok.fresh sz
  refine ⟨.ref p, upd H1 p (.lst (zs.map Tx)), ?_, rfl, q zs p pw mem len fr⟩
  have ok : ObjOk X.prog X.w (upd H1 p (.lst (zs.map Tx))) z.heap p (.lst (zs.map Tx)) :=
    ⟨by rw [List.length_map]; exact Nat.le_trans len (Nat.le_of_lt (Nat.lt_of_lt_of_le few (by decide))), out.toList, n, by
      have := vals_of_strs hst
      rw [List.map_map] at this
      exact this, hat⟩
  exact I1.call' (ch := []) ho (Un.laid k3 sz fr) (I1.hok.laid k3 sz ok) (by rw [hg]; exact I1.bare) (fun b z => absurd z (by simp))
end Pg
namespace Pg
open PySem PySem.Spec PyProof.Rows L2
/-! ### comprehensions that give values -/
theorem sql_up {K : PySem.W.Frag} {H H' : Hp} {a : Addr} {xs : List V} (s : Stp [] H H') (h : SqL K H a xs) : SqL K H' a xs := by
  rcases h with (h | ⟨o, h⟩) | h
  · exact .inl (.inl (s.kp _ _ (fun m => nomatch m) h))
  · exact .inl (.inr ⟨o, s.kp _ _ (fun m => nomatch m) h⟩)
  · exact .inr h
theorem ix_listK {X : Cx} {K : PySem.W.Frag} (hK : X.K = K) : IxR X (rIxL K) := by
  subst hK
  exact ix_list
theorem tn {σ : L2.St} {H : Hp} {Q : List V → Hp → Prop} (h : Q [] H) : tNil σ H Q := h
theorem RpL.snoc {K : PySem.W.Frag} {H : Hp} {vs : List V} {ds : List Dt} {i : Nat} {v : V} {d : Dt} (r : RpL K H vs (ds.take i)) (e : ds[i]? = some d) (h : Rp K H v d) : RpL K H (vs ++ [v]) (ds.take (i + 1)) := by
  rw [List.take_add_one, e]
  exact r.app (.cons h .nil)
theorem rpl_strs {K : PySem.W.Frag} {H : Hp} : ∀ {ls : List (List Nat)} {vs : List V}, RpL K H vs (ls.map Dt.str) → vs = ls.map Tx
  | [], _, .nil => rfl
  | l :: ls, _, .cons h r => by
    cases h
    rw [List.map_cons, rpl_strs r]
theorem rpl_bls {K : PySem.W.Frag} {H : Hp} : ∀ {bs : List Bool} {vs : List V}, RpL K H vs (bs.map Dt.bl) → vs = bs.map V.bl
  | [], _, .nil => rfl
  | b :: bs, _, .cons h r => by
    cases h
    rw [List.map_cons, rpl_bls r]
section
variable {K : PySem.W.Frag} {a : Addr} {xs : List V} {ds : List Dt} {g : TG} {te : TE} {vs : List Nat} {σ : L2.St} {H1 : Hp} {D : Addr} {Qd : Hp → Prop}
theorem lc_mapL (nD : H1 D = none) (hs : SqL K H1 a xs) (hl : ds.length = xs.length) (hz : xs.length ≤ 90000)
    (step : ∀ (i : Nat) x d H, xs[i]? = some x → ds[i]? = some d → Stp [] H1 H → ∀ Q : VK, (∀ y H', Stp [] H H' → Rp K H' y d → Q y H') → g x (wipe σ vs) H fun σ2 H2 => wipe σ2 vs = wipe σ vs ∧ te σ2 H2 Q)
    (hd : ∀ ws H, Stp [] H1 H → H D = some (.lst ws) → RpL K H ws ds → Qd H) :
    ∃ W : Nat → Nat → Hp → Prop, (∃ m, W 0 m (upd H1 D (.lst []))) ∧ ∀ i m H, W i m H →
      ((Itl K a).stop i H ∧ Qd H) ∨ ((Itl K a).go i H ∧ ∃ Nx : Hp → Prop, (∀ H', Nx H' → ∃ m', m' < m ∧ W (i + 1) m' H') ∧ ∀ x H', (Itl K a).yld i H x H' → g x (wipe σ vs) H' fun σ2 H2 => wipe σ2 vs = wipe σ vs ∧ tYes σ2 H2 fun b H3 =>
        if b = true then te σ2 H3 fun y H4 => ∃ acc, H4 D = some (.lst acc) ∧ acc.length < sizeLine ∧ Nx (upd H4 D (.lst (acc ++ [y]))) else Nx H3) := by
  refine lc_list (a := a) (xs := xs) (fun i H => ∃ ws, H D = some (.lst ws) ∧ RpL K H ws (ds.take i) ∧ Stp [] H1 H) ⟨[], upd_same, .nil, Stp.new nD _⟩ (fun i H _ ⟨_, _, _, S⟩ => sql_up S hs) ?_ ?_
  · rintro i x H hi ⟨ws, hL, rv, S⟩
    have il : i < ds.length := by rw [hl]; exact (List.getElem?_eq_some_iff.mp hi).1
    refine step i x ds[i] H hi (List.getElem?_eq_getElem il) S _ fun y H' S' ry => ?_
    refine ⟨ws, S'.kp _ _ (fun m => nomatch m) hL, ?_, ws ++ [y], upd_same, ?_, (S.trans S').mut nD⟩
    · rw [rv.len, List.length_take]
      exact Nat.lt_of_le_of_lt (show min i ds.length ≤ 90000 by omega) (by decide)
    · have s4 : Stp [D] H' (upd H' D (.lst (ws ++ [y]))) := Stp.put (by simp)
      have hL' := S'.kp _ _ (fun m => nomatch m) hL
      exact RpL.snoc ((rv.stp S' Lsts.nil).stp s4 (.one hL')) (List.getElem?_eq_getElem il) (ry.stp s4 (.one hL'))
  · rintro H ⟨ws, hL, rv, S⟩
    rw [← hl, List.take_length] at rv
    exact hd ws H S hL rv
theorem lc_mapT (nD : H1 D = none) (hs : SqT K H1 a xs) (hl : ds.length = xs.length) (hz : xs.length ≤ 90000)
    (step : ∀ (i : Nat) x d H, xs[i]? = some x → ds[i]? = some d → Stp [] H1 H → ∀ Q : VK, (∀ y H', Stp [] H H' → Rp K H' y d → Q y H') → g x (wipe σ vs) H fun σ2 H2 => wipe σ2 vs = wipe σ vs ∧ te σ2 H2 Q)
    (hd : ∀ ws H, Stp [] H1 H → H D = some (.lst ws) → RpL K H ws ds → Qd H) :
    ∃ W : Nat → Nat → Hp → Prop, (∃ m, W 0 m (upd H1 D (.lst []))) ∧ ∀ i m H, W i m H →
      ((Itt K a).stop i H ∧ Qd H) ∨ ((Itt K a).go i H ∧ ∃ Nx : Hp → Prop, (∀ H', Nx H' → ∃ m', m' < m ∧ W (i + 1) m' H') ∧ ∀ x H', (Itt K a).yld i H x H' → g x (wipe σ vs) H' fun σ2 H2 => wipe σ2 vs = wipe σ vs ∧ tYes σ2 H2 fun b H3 =>
        if b = true then te σ2 H3 fun y H4 => ∃ acc, H4 D = some (.lst acc) ∧ acc.length < sizeLine ∧ Nx (upd H4 D (.lst (acc ++ [y]))) else Nx H3) := by
  refine lc_tup (a := a) (xs := xs) (fun i H => ∃ ws, H D = some (.lst ws) ∧ RpL K H ws (ds.take i) ∧ Stp [] H1 H) ⟨[], upd_same, .nil, Stp.new nD _⟩ (fun i H _ ⟨_, _, _, S⟩ => sqt_stp S Lsts.nil hs) ?_ ?_
  · rintro i x H hi ⟨ws, hL, rv, S⟩
    have il : i < ds.length := by rw [hl]; exact (List.getElem?_eq_some_iff.mp hi).1
    refine step i x ds[i] H hi (List.getElem?_eq_getElem il) S _ fun y H' S' ry => ?_
    refine ⟨ws, S'.kp _ _ (fun m => nomatch m) hL, ?_, ws ++ [y], upd_same, ?_, (S.trans S').mut nD⟩
    · rw [rv.len, List.length_take]
      exact Nat.lt_of_le_of_lt (show min i ds.length ≤ 90000 by omega) (by decide)
    · have s4 : Stp [D] H' (upd H' D (.lst (ws ++ [y]))) := Stp.put (by simp)
      have hL' := S'.kp _ _ (fun m => nomatch m) hL
      exact RpL.snoc ((rv.stp S' Lsts.nil).stp s4 (.one hL')) (List.getElem?_eq_getElem il) (ry.stp s4 (.one hL'))
  · rintro H ⟨ws, hL, rv, S⟩
    rw [← hl, List.take_length] at rv
    exact hd ws H S hL rv
theorem lc_mapR {n : Nat} (nD : H1 D = none) (hl : ds.length = n) (hz : n ≤ 90000)
    (step : ∀ (i : Nat) d H, ds[i]? = some d → Stp [] H1 H → ∀ Q : VK, (∀ y H', Stp [] H H' → Rp K H' y d → Q y H') → g (.int ((0 : Int) + (i : Int))) (wipe σ vs) H fun σ2 H2 => wipe σ2 vs = wipe σ vs ∧ te σ2 H2 Q)
    (hd : ∀ ws H, Stp [] H1 H → H D = some (.lst ws) → RpL K H ws ds → Qd H) :
    ∃ W : Nat → Nat → Hp → Prop, (∃ m, W 0 m (upd H1 D (.lst []))) ∧ ∀ i m H, W i m H →
      ((Itr 0 n).stop i H ∧ Qd H) ∨ ((Itr 0 n).go i H ∧ ∃ Nx : Hp → Prop, (∀ H', Nx H' → ∃ m', m' < m ∧ W (i + 1) m' H') ∧ ∀ x H', (Itr 0 n).yld i H x H' → g x (wipe σ vs) H' fun σ2 H2 => wipe σ2 vs = wipe σ vs ∧ tYes σ2 H2 fun b H3 =>
        if b = true then te σ2 H3 fun y H4 => ∃ acc, H4 D = some (.lst acc) ∧ acc.length < sizeLine ∧ Nx (upd H4 D (.lst (acc ++ [y]))) else Nx H3) := by
  refine lc_range (lo := 0) (n := n) (fun i H => ∃ ws, H D = some (.lst ws) ∧ RpL K H ws (ds.take i) ∧ Stp [] H1 H) ⟨[], upd_same, .nil, Stp.new nD _⟩ ?_ ?_
  · rintro i H hi ⟨ws, hL, rv, S⟩
    have il : i < ds.length := by rw [hl]; exact hi
    refine step i ds[i] H (List.getElem?_eq_getElem il) S _ fun y H' S' ry => ?_
    refine ⟨ws, S'.kp _ _ (fun m => nomatch m) hL, ?_, ws ++ [y], upd_same, ?_, (S.trans S').mut nD⟩
    · rw [rv.len, List.length_take]
      exact Nat.lt_of_le_of_lt (show min i ds.length ≤ 90000 by omega) (by decide)
    · have s4 : Stp [D] H' (upd H' D (.lst (ws ++ [y]))) := Stp.put (by simp)
      have hL' := S'.kp _ _ (fun m => nomatch m) hL
      exact RpL.snoc ((rv.stp S' Lsts.nil).stp s4 (.one hL')) (List.getElem?_eq_getElem il) (ry.stp s4 (.one hL'))
  · rintro H ⟨ws, hL, rv, S⟩
    rw [← hl, List.take_length] at rv
    exact hd ws H S hL rv
end
end Pg
namespace Pg
open PySem PySem.Spec PyProof.Rows L2
/-- a new object is changed -/
theorem Stp.mutO {S : List Addr} {H H' : Hp} {p : Addr} {o : HO} (a : Stp S H H') (h : H p = none) : Stp S H (upd H' p o) :=
  ⟨fun x u n q => by
    rw [upd_ne (ne_of_none q h)]
    exact a.kp x u n q, fun x xs q => by
    rw [upd_ne (ne_of_none q h)]
    exact a.ls x xs q⟩
/-- sorted(xs), texts, any number of them -/
def rSortedSA (K : PySem.W.Frag) : List V → Hp → VK → Prop := fun vs H Q => ∃ (a : Addr) (ls : List (List Nat)), vs = [V.ref a] ∧ SqL K H a (ls.map Tx) ∧
  ∀ (zs : List (List Nat)) (p : Addr), zs.Perm ls → zs.Pairwise (· ≤ ·) → H p = none → Q (.ref p) (upd H p (.lst (zs.map Tx)))
theorem rising_le : ∀ (zs : List (List Nat)) (p : List Nat), risingS (tx p) (zs.map tx) = true → (p :: zs).Pairwise (· ≤ ·)
  | [], p, _ => List.pairwise_singleton _ _
  | z :: zs, p, h => by
    have h' : (!ltCps z p && risingS (tx z) (zs.map tx)) = true := by simpa [risingS] using h
    rw [ltCps_eq] at h'
    obtain ⟨h1, h2⟩ := Bool.and_eq_true_iff.mp h'
    have ih := rising_le zs z h2
    have pz : p ≤ z := List.not_lt.mp (by simpa using h1)
    refine List.pairwise_cons.mpr ⟨fun y m => ?_, ih⟩
    rcases List.mem_cons.mp m with rfl | m
    · exact pz
    · exact List.le_trans pz ((List.pairwise_cons.mp ih).1 y m)
theorem cr_sortedSA {X : Cx} : CallR X (.builtin "sorted") (rSortedSA X.K) := by
  intro pins s σ H vs us Q I r h
  obtain ⟨a, ls, rfl, hs, q⟩ := h
  obtain ⟨its, rv, hl, hz⟩ := I.list hs
  rw [Vals.ref1 r]
  have st : StrsAre its (ls.map tx) := by
    have : ls.map Tx = (ls.map tx).map V.str := by rw [List.map_map]; rfl
    rw [this] at rv
    exact rv.strs
  refine sorted_strsAny hl.isList st (by rw [← rv.length]; exact hz) fun out ys h1 h2 h3 => ?_
  have e : ys = (ys.map fun s => s.cps.toList).map tx := by
    rw [List.map_map]
    conv => lhs; rw [← List.map_id ys]
    rfl
  have pm : (ys.map fun s => s.cps.toList).Perm ls := by
    have := h2.map fun s : Str => s.cps.toList
    rw [List.map_map] at this
    refine this.trans (List.Perm.of_eq ?_)
    conv => rhs; rw [← List.map_id ls]
    refine List.map_congr_left fun l _ => ?_
    simp
  have so : (ys.map fun s => s.cps.toList).Pairwise (· ≤ ·) := by
    rw [e] at h3
    generalize (ys.map fun s => s.cps.toList) = zs at h3
    cases zs with
    | nil => exact List.Pairwise.nil
    | cons z zs => exact rising_le zs z h3
  obtain ⟨ep, he'⟩ := PyProof.Rows.sortedAll_at s.heap its out
  rw [e] at h1
  have hv := vals_of_strs h1
  rw [List.map_map] at hv
  have hv : Vals ((ys.map fun s => s.cps.toList).map Tx) out.toList := hv
  have hlen : ((ys.map fun s => s.cps.toList).map Tx).length ≤ sizeLine := by
    rw [List.length_map, pm.length_eq]
    rw [List.length_map] at hz
    exact hz
  exact ⟨.ref _, upd H (s.heap.objs.size + 1) (.lst ((ys.map fun s => s.cps.toList).map Tx)), I.laid (t' := s.toks) (fun _ _ => PyProof.Rows.sortedAll_old) (Nat.le_succ _) ⟨hlen, out.toList, ep, hv, he'⟩, rfl, q _ _ pm so (I.hok.fresh (Nat.le_succ _))⟩
end Pg
namespace Pg
open PySem PySem.Spec PyProof.Rows L2
theorem RpL.rev {K : PySem.W.Frag} {H : Hp} : ∀ {vs : List V} {ds : List Dt}, RpL K H vs ds → RpL K H vs.reverse ds.reverse
  | _, [], .nil => .nil
  | _, _ :: _, .cons h r => by
    rw [List.reverse_cons, List.reverse_cons]
    exact RpL.app (RpL.rev r) (.cons h .nil)
theorem RpL.erase {K : PySem.W.Frag} {H : Hp} {α : Type} {f : α → Dt} : ∀ {vs : List V} {ps : List α} {k : Nat}, RpL K H vs (ps.map f) → RpL K H (vs.eraseIdx k) ((ps.eraseIdx k).map f)
  | _, [], _, .nil => .nil
  | _, _ :: _, 0, .cons _ r => r
  | _, _ :: _, k + 1, .cons h r => .cons h (RpL.erase (k := k) r)
theorem seqIx {n : Nat} {d : Int} (h0 : 0 ≤ d) (h1 : d < (n : Int)) : seqIndex? d n = some d.toNat := (ixN_seq (by unfold ixN; rw [if_pos h0, if_pos h1])).1
/-! ### t[::-1] -/
section
variable {prog : Program} {w : World} {A : Around} {E : Value → Shared → Prop} {s : Shared}
open HT
theorem sliceApplied_rev {sl : Addr} {vl vu vs : Value} {n : Nat} {Q : Int × Int × Nat → Shared → Prop} (hs : s.heap.IsSliceOf sl vl vu vs) (pl : IsPart vl none) (pu : IsPart vu none) (ps : IsPart vs (some (-1)))
    (h : Q ((n : Int) - 1, -1, n) s) : wpAny (model prog w) A (Builtin.Slice.sliceApplied (.ref sl) (pure (n : Int))) Q E s := by
  obtain ⟨os, hos, hcs, hds⟩ := id hs
  unfold Builtin.Slice.sliceApplied Builtin.Slice.sliceFields
  refine wpAny_bind (wpAny_bind (wpAny_field hos hds (x := vl) rfl (wpAny_bind (wpAny_field hos hds (x := vu) rfl (wpAny_bind (wpAny_field hos hds (x := vs) rfl (wpAny_pure ?_)))))))
  refine wpAny_bind (slicePart_ ps ?_)
  show wpAny _ _ (if ((-1 : Int) == 0) = true then _ else _) _ _ s
  rw [if_neg (by decide)]
  refine wpAny_bind (slicePart_ pl (wpAny_bind (slicePart_ pu (wpAny_bind (wpAny_pure ?_)))))
  show wpAny _ _ (pure ((n : Int) - 1, (-1 : Int), Builtin.Slice.slicePlaces ((n : Int) - 1) (-1) (-1))) _ _ s
  have e : Builtin.Slice.slicePlaces ((n : Int) - 1) (-1) (-1) = n := by
    unfold Builtin.Slice.slicePlaces
    rw [if_neg (by decide)]
    by_cases c : (n : Int) - 1 > -1
    · rw [if_pos c, show (- -1 : Int) = 1 by decide, Int.ediv_one]
      omega
    · rw [if_neg c]
      omega
  rw [e]
  exact wpAny_pure h
theorem pick_rev (xs : Array Value) : ((List.range xs.size).filterMap fun (k : Nat) => xs[((xs.size : Int) - 1 + (k : Int) * (-1)).toNat]?).toArray = xs.toList.reverse.toArray := by
  have e : (fun (k : Nat) => xs[((xs.size : Int) - 1 + (k : Int) * (-1)).toNat]?) = (fun k => xs[xs.size - 1 - k]?) := by
    funext k
    have : ((xs.size : Int) - 1 + (k : Int) * (-1)).toNat = xs.size - 1 - k := by omega
    rw [this]
  rw [e]
  have e2 : (fun k => xs[xs.size - 1 - k]?) = (fun k => xs[k]?) ∘ fun k => xs.size - 1 - k := rfl
  rw [e2, ← List.filterMap_map, PySem.W.krv_range, List.filterMap_reverse, PySem.W.krv_all]
theorem getItem_tuple_rev {t sl : Addr} {items : Array Value} {vl vu vs : Value} {Q : Value → Shared → Prop} (ht : IsTup s.heap t items) (hs : s.heap.IsSliceOf sl vl vu vs) (pl : IsPart vl none) (pu : IsPart vu none) (ps : IsPart vs (some (-1)))
    (h : Q (.ref s.heap.objs.size) { s with heap := s.heap.push { cls := .type "tuple", data := .seq items.toList.reverse.toArray } })
    (hsz : items.size ≤ sizeLine) : wpAny (model prog w) A (getItem (.ref t) (.ref sl)) Q E s := by
  have htake : sizeOk (.seq items.toList.reverse.toArray) := by
    show items.toList.reverse.toArray.size ≤ sizeLine
    rw [List.size_toArray, List.length_reverse, Array.length_toList]
    exact hsz
  obtain ⟨os, hos, hcs, hds⟩ := id hs
  have hTs : s.TypeIs (.ref sl) "slice" := ⟨os, hos, hcs⟩
  unfold getItem
  try with_reducible refine wpAny_holding ?_
  first | refine wpAny_bind (wpAny_pure ?_) | skip
  refine wpAny_bind (wpAny_sequenceKey ht.typeIs (by decide) ?_)
  refine wpAny_bind (wpAny_callSpecial?_slot (name := Str.ofString "__getitem__") ht.typeIs PyProof.Rows.slot_tuple_getitem
    (wpAny_call_entry PyProof.Rows.slot_tuple_getitem ht.typeIs entry_tuple_getitem ?_ (args_tuple_getitem _ _)))
  show wpAny _ _ (Builtin.Tuple.tupleItemsOf (.ref t) >>= _) _ _ s
  refine wpAny_bind (tupleItemsOf_ ht ?_)
  refine wpAny_bind (wpAny_typeOf hTs ?_)
  rw [if_pos (by decide)]
  refine wpAny_bind (sliceApplied_rev hs pl pu ps ?_)
  have hno : ¬ ((((items.size : Int) - 1) == 0 && (-1 : Int) == 1 && items.size == items.size) = true) := by
    intro q
    rw [Bool.and_eq_true, Bool.and_eq_true] at q
    exact absurd q.1.2 (by decide)
  show wpAny _ _ (if (((items.size : Int) - 1) == 0 && (-1 : Int) == 1 && items.size == items.size) = true then _ else _) _ _ s
  rw [if_neg hno, pick_rev]
  first
    | exact wpAny_bind (m := Builtin.Tuple.tupleExact _) (wpAny_newObj_type (wpAny_pure ⟨_, rfl, wpAny_pure h⟩) htake)
    | exact wpAny_bind (m := Builtin.Tuple.tupleExact _) (wpAny_newObj_type (wpAny_bind (wpAny_pure (wpAny_pure ⟨_, rfl, wpAny_pure h⟩))) htake)
    | exact wpAny_bind (wpAny_bind (m := Builtin.Tuple.tupleExact _) (wpAny_newObj_type (wpAny_pure (wpAny_pure ⟨_, rfl, wpAny_pure h⟩)) htake))
    | exact wpAny_bind (wpAny_bind (m := Builtin.Tuple.tupleExact _) (wpAny_newObj_type (wpAny_pure ⟨_, rfl, wpAny_pure h⟩) htake))
end
section
variable {X : Cx}
def tRevT (K : PySem.W.Frag) (te : TE) : TE := fun σ H Q => te σ H fun x H1 => ∃ a xs, x = .ref a ∧ SqT K H1 a xs ∧ ∀ p, H1 p = none → Q (.ref p) (upd H1 p (.tup xs.reverse))
theorem pe_revT {e : Expr} {te : TE} {k : Nat} {p1 p2 p3 pos : Pos} (he : PE X e te) : PE X (.Subscript e (.Slice none none (some (.UnaryOp .USub (.Constant (.int 1) k p1) p2)) p3) pos) (tRevT X.K te) := by
  refine ⟨fun pins s σ H Q I h => ?_⟩
  refine Subscript_ (thn (he.run pins s σ H _ I h) fun v s1 ⟨x, H1, I1, r1, q1⟩ => ?_)
  obtain ⟨a, xs, ex, hx, q⟩ := q1
  subst ex
  cases r1
  have hst : PO X (some (.UnaryOp .USub (.Constant (.int 1) k p1) p2)) (tPart (tUn (rU fun i => .int (-i)) (tC (.int 1)))) := po_some (pe_un un_neg pe_int)
  refine wpAny_Slice (thn (po_none.run pins s1 σ H1 (fun o H2 => o = none ∧ H2 = H1) I1 ⟨rfl, rfl⟩) fun vl s2 ⟨l, H2, I2, pl, el, e2⟩ => ?_)
  subst el e2
  refine thn (po_none.run pins s2 σ H2 (fun o H3 => o = none ∧ H3 = H2) I2 ⟨rfl, rfl⟩) fun vu s3 ⟨u, H3, I3, pu, eu, e3⟩ => ?_
  subst eu e3
  refine thn (hst.run pins s3 σ H3 (fun o H4 => o = some (-1) ∧ H4 = H3) I3 ⟨1, rfl, -1, rfl, rfl, rfl⟩) fun vs s4 ⟨o, H4, I4, ps, eo, e4⟩ => ?_
  subst eo e4
  have I5 : Inv X pins σ H4 { s4 with heap := s4.heap.push { cls := .type "slice", data := .fields #[vl, vu, vs] } } := I4.kept (t' := s4.toks) fun b ob q => Heap.get?_push_of_some _ q
  obtain ⟨its, r, ht, hz⟩ := I5.tuple hx
  have hlen := r.length
  show wpAny (model X.prog X.w) X.A (subscriptTail e (.Slice none none (some (.UnaryOp .USub (.Constant (.int 1) k p1) p2)) p3) (.ref a) (.ref s4.heap.objs.size)) (EP X pins σ Q) X.xe { s4 with heap := s4.heap.push { cls := .type "slice", data := .fields #[vl, vu, vs] } }
  refine tail_any (ops := [.ref a, .ref s4.heap.objs.size]) ht.typeIs (PyProof.Rows.slot_tuple_getitem.lookup) ?_ (by with_unfolding_all rfl)
  refine getItem_tuple_rev ht (Heap.IsSliceOf.new _ vl vu vs) pl pu ps ?_ (by rw [List.size_toArray]; omega)
  refine ⟨.ref _, _, I5.laid (t' := s4.toks) (o := .tup xs.reverse) (fun b ob q => Heap.get?_push_of_some _ q) (Nat.le_refl _) ?_, rfl, q _ (I5.hok.fresh (Nat.le_refl _))⟩
  exact ⟨by rw [List.length_reverse]; exact hz, _, r.reverse, IsTup.new _ _⟩
end
end Pg
namespace Pg
open PySem PySem.Spec PyProof.Rows L2
theorem pe_clG0 {X : Cx} {j k : Nat} {st : Stmt} {ps : List Str} {sp : Sp} {x : Str} {p pos : Pos} (c : ClG X.prog X.w X.K X.mg X.base k x st ps sp) (hG : X.A.guards = some []) (hr : Room j X.A) (hk : k ≤ j) (hg : Gl X x := by rfl) (hdb : (x == ("__debug__" : Str)) = false := by decide) :
    PE X (.Call (.Name x p) [] [] pos) (tCl sp tNil) := by
  obtain ⟨f, fd, D, F⟩ := c.ex
  refine ⟨fun pins s σ H Q I h => ?_⟩
  refine wpAny_Call_Name_kw (ld_glob I hg D.at_ ?_ hdb)
  exact PySem.W.callWith_K0 I.kIn D.fn.kp (run_g (us := []) (F.mono hk) hG hr D.bd I .nil h)
end Pg
namespace Pv
open PySem PySem.Spec PyProof.Rows L2 Pg
/-! ### values as data, told by repr -/
mutual
def D.py : D → PyData
  | .non => .none
  | .bl b => .bool b
  | .int i => .int i
  | .str l => .str (tx l)
  | .tup ds => .tuple (D.pys ds)
  | .lst ds => .list (D.pys ds)
  | .obj _ => .none
def D.pys : List D → List PyData
  | [] => []
  | d :: ds => d.py :: D.pys ds
end
mutual
/-- signs at most -/
def D.wt : D → Nat
  | .non => 4
  | .bl _ => 5
  | .int _ => 12
  | .str l => 10 * l.length + 2
  | .tup ds => D.wts ds + 4
  | .lst ds => D.wts ds + 4
  | .obj _ => 0
def D.wts : List D → Nat
  | [] => 0
  | d :: ds => d.wt + 2 + D.wts ds
end
mutual
def D.deep : D → Nat
  | .tup ds => D.deeps ds + 1
  | .lst ds => D.deeps ds + 1
  | _ => 0
def D.deeps : List D → Nat
  | [] => 0
  | d :: ds => max d.deep (D.deeps ds)
end
mutual
/-- no objects, small numbers, signs that are signs -/
def D.fair : D → Bool
  | .non => true
  | .bl _ => true
  | .int i => decide (i.natAbs < 10 ^ 10)
  | .str l => l.all fun n => decide (n < 16 ^ 8)
  | .tup ds => D.fairs ds
  | .lst ds => D.fairs ds
  | .obj _ => false
def D.fairs : List D → Bool
  | [] => true
  | d :: ds => d.fair && D.fairs ds
end
section
variable {K : PySem.W.Frag} {S : List Addr} {H : Hp}
mutual
theorem rv_dp : ∀ {v : V} {d : D}, Rv K S H v d → d.fair = true → Dp K H v d.py
  | _, .non, .non, _ => by unfold D.py; exact .non
  | _, .bl _, .bl b, _ => by unfold D.py; exact .bl b
  | _, .int _, .int i, _ => by unfold D.py; exact .int i
  | _, .str _, .str x h, _ => by unfold D.py; exact .str _
  | _, .tup ds, .tup h n r, f => by
    unfold D.py
    unfold D.fair at f
    exact .tup h (rvs_dp r f)
  | _, .lst ds, .lst h o n r, f => by
    unfold D.py
    unfold D.fair at f
    exact .lst (SqL.of h) (rvs_dp r f)
  | _, .obj _, .obj _ _, f => by
    unfold D.fair at f
    cases f
theorem rvs_dp : ∀ {vs : List V} {ds : List D}, RvL K S H vs ds → D.fairs ds = true → DpAll K H vs (D.pys ds)
  | _, [], .nil, _ => by unfold D.pys; exact .nil
  | _, _ :: _, .cons h r, f => by
    unfold D.pys
    unfold D.fairs at f
    obtain ⟨f1, f2⟩ := Bool.and_eq_true_iff.mp f
    exact .cons (rv_dp h f1) (rvs_dp r f2)
end
end
mutual
theorem D.shw : ∀ (d : D), d.fair = true → d.py.showable = true
  | .non, _ => by unfold D.py; simp only [PyData.showable]
  | .bl _, _ => by unfold D.py; simp only [PyData.showable]
  | .int i, f => by
    unfold D.py
    unfold D.fair at f
    simp only [PyData.showable]
    have h := of_decide_eq_true f
    refine decide_eq_true ?_
    by_cases z : i.natAbs = 0
    · rw [z]; decide
    · exact (Nat.log2_lt z).mpr (Nat.lt_trans h (by decide +kernel))
  | .str _, _ => by unfold D.py; simp only [PyData.showable]
  | .tup ds, f => by
    unfold D.py
    unfold D.fair at f
    simp only [PyData.showable]
    exact D.shws ds f
  | .lst ds, f => by
    unfold D.py
    unfold D.fair at f
    simp only [PyData.showable]
    exact D.shws ds f
  | .obj _, f => by
    unfold D.fair at f
    cases f
theorem D.shws : ∀ (ds : List D), D.fairs ds = true → PyData.showableAll (D.pys ds) = true
  | [], _ => by unfold D.pys; simp only [PyData.showableAll]
  | d :: ds, f => by
    unfold D.pys
    unfold D.fairs at f
    obtain ⟨f1, f2⟩ := Bool.and_eq_true_iff.mp f
    simp only [PyData.showableAll, D.shw d f1, D.shws ds f2, Bool.and_self]
end
mutual
theorem D.dpt : ∀ (d : D), d.py.depth = d.deep
  | .non => by unfold D.py D.deep; rfl
  | .bl _ => by unfold D.py D.deep; rfl
  | .int _ => by unfold D.py D.deep; rfl
  | .str _ => by unfold D.py D.deep; rfl
  | .obj _ => by unfold D.py D.deep; rfl
  | .tup ds => by
    unfold D.py D.deep
    show PyData.depthAll _ + 1 = _
    rw [D.dpts ds]
  | .lst ds => by
    unfold D.py D.deep
    show PyData.depthAll _ + 1 = _
    rw [D.dpts ds]
theorem D.dpts : ∀ (ds : List D), PyData.depthAll (D.pys ds) = D.deeps ds
  | [] => by unfold D.pys D.deeps; rfl
  | d :: ds => by
    unfold D.pys D.deeps
    show max d.py.depth (PyData.depthAll (D.pys ds)) = _
    rw [D.dpt d, D.dpts ds]
end
mutual
theorem D.sgn : ∀ (d : D), d.fair = true → d.py.shown.length ≤ d.wt
  | .non, _ => by
    unfold D.py D.wt
    simp only [PyData.shown]
    decide
  | .bl b, _ => by
    unfold D.py D.wt
    cases b <;> simp only [PyData.shown] <;> decide
  | .int i, f => by
    unfold D.py D.wt
    unfold D.fair at f
    simp only [PyData.shown]
    have h := int_text_length_le10 (k := 10) (by decide) (of_decide_eq_true f)
    show (Str.ofString (toString i)).length ≤ 12
    rw [PySem.ofString_length]
    omega
  | .str l, f => by
    unfold D.py D.wt
    unfold D.fair at f
    simp only [PyData.shown]
    have := StrLaws.reprText_len (tx l) (fun c m => of_decide_eq_true (List.all_eq_true.mp f c (by simpa using m)))
    rw [tx_len] at this
    exact this
  | .tup ds, f => by
    unfold D.py D.wt
    unfold D.fair at f
    simp only [PyData.shown]
    have a := tupleText_le (PyData.shownAll (D.pys ds))
    have b := D.sgns ds f
    omega
  | .lst ds, f => by
    unfold D.py D.wt
    unfold D.fair at f
    simp only [PyData.shown]
    have a := listText_le (PyData.shownAll (D.pys ds))
    have b := D.sgns ds f
    omega
  | .obj _, f => by
    unfold D.fair at f
    cases f
theorem D.sgns : ∀ (ds : List D), D.fairs ds = true → ((PyData.shownAll (D.pys ds)).map fun t => t.length + 2).sum ≤ D.wts ds
  | [], _ => by
    unfold D.pys D.wts
    simp only [PyData.shownAll]
    decide
  | d :: ds, f => by
    unfold D.pys D.wts
    unfold D.fairs at f
    obtain ⟨f1, f2⟩ := Bool.and_eq_true_iff.mp f
    have p := D.sgn d f1
    have q := D.sgns ds f2
    simp only [PyData.shownAll, List.map_cons, List.sum_cons]
    omega
end
/-- what repr tells of a value -/
def D.told (d : D) : Str := d.py.shown
structure D.Fine (d : D) : Prop where
  fair : d.fair = true
  deep : d.deep ≤ 100
  wt : d.wt ≤ 1000000
/-- repr of values -/
def rReprD (K : PySem.W.Frag) : List V → Hp → VK → Prop := fun xs H Q => ∃ (S : List Addr) (v : V) (d : D), xs = [v] ∧ Rv K S H v d ∧ d.Fine ∧ Q (.str d.told) H
theorem call_reprD {X : Cx} {j : Nat} (hG : X.A.guards = some []) (hr : Room j X.A) : CallR X (.builtin "repr") (rReprD X.K) := fun pins s σ H xs us Q I r h => by
  obtain ⟨S, v, d, e, rv, ⟨f, dd, sz⟩, q⟩ := h
  exact call_repr hG hr pins s σ H xs us Q I r ⟨v, d.py, e, rv_dp rv f, D.shw d f, by rw [D.dpt]; exact dd, Nat.le_trans (D.sgn d f) (Nat.le_trans sz (by decide)), q⟩
/-! ### list.count of flat items -/
def rCntF (K : PySem.W.Frag) : V → List V → Hp → VK → Prop := fun x xs H Q => ∃ (p : Addr) (ys : List V) (y : V), x = .ref p ∧ xs = [y] ∧ SqL K H p ys ∧ flatV y = true ∧ ys.all flatV = true ∧ Q (.int ((ys.countP fun z => eqV z y : Nat) : Int)) H
theorem count_eqU {x : V} : ∀ {ys : List V} {us : List Value}, Vals ys us → ys.all flatV = true → us.countP (eqU x) = ys.countP fun z => eqV z x
  | [], _, .nil, _ => rfl
  | y :: ys, _, .cons r t, f => by
    rw [List.all_cons, Bool.and_eq_true] at f
    rw [List.countP_cons, List.countP_cons, count_eqU t f.2, eqU_of r f.1]
theorem mt_lcountF {X : Cx} : MtR X "list.count" (rCntF X.K) := by
  intro pins s σ H x xs v us Q I rx rxs h
  obtain ⟨p, ys, y, rfl, rfl, hs, fy, fys, q⟩ := h
  cases rx
  obtain ⟨u, rfl, ru⟩ := rxs.one
  obtain ⟨its, rv, ⟨⟨cls, dd, data, sl⟩, n, ho, hc, hdn, hd⟩, hlen⟩ := I.list hs
  simp only at hc hd
  subst hc hd
  refine call_meets PySem.F.slot_list_count ⟨_, ho, rfl⟩ PySem.F.entry_list_count (PySem.F.args_list_count_2 _ _)
    (SeqAt.list_countAt p its.toArray n dd sl u (eqU y)) ⟨ho, fun u' hu' => mem_eqAt ru fy rv fys u' (by simpa using hu'), ?_⟩
  have ec : its.toArray.toList.countP (eqU y) = ys.countP fun z => eqV z y := count_eqU rv fys
  refine ⟨.int ((ys.countP fun z => eqV z y : Nat) : Int), H, I.tok _, ⟨s.toks, ?_⟩, q⟩
  show Value.int ((its.toArray.toList.countP (eqU y) : Nat) : Int) s.toks = _
  rw [ec]
/-! ### str.index of what is there -/
def rIdxS : V → List V → Hp → VK → Prop := fun x xs H Q => ∃ (a b : Str) (k : Nat), x = .str a ∧ xs = [.str b] ∧ Txt.index0 a b = some k ∧ Q (.int (k : Int)) H
theorem mt_idxS {X : Cx} : MtR X "str.index" rIdxS := by
  intro pins s σ H x xs v us Q I rx rs h
  obtain ⟨a, b, k, rfl, rfl, hk, w⟩ := h
  obtain ⟨t, rfl⟩ := rx
  cases rs with
  | cons r1 rs =>
    cases rs
    obtain ⟨u, rfl⟩ := r1
    cases q : Builtin.Str.occurrences a b 0 a.length 1 with
    | nil =>
      unfold Txt.index0 at hk
      rw [q] at hk
      cases hk
    | cons k' rest =>
      unfold Txt.index0 at hk
      rw [q] at hk
      cases hk
      exact PySem.SC.index q ⟨.int (k : Nat), H, I.tok _, ⟨_, rfl⟩, w⟩
/-! ### xs == ys, both hold the same values -/
def rEqL (K : PySem.W.Frag) : R2 := fun x y H Q => ∃ (S : List Addr) (a b : Addr) (xs : List V) (ds : List D), x = .ref a ∧ y = .ref b ∧ SqL K H a xs ∧ SqL K H b xs ∧ RvL K S H xs ds ∧ Q (.bl true) H
theorem op_eqL {X : Cx} (hu : X.A.units + 64 < cLine) : OpR X (compareOp .Eq) (rEqL X.K) := by
  intro pins s σ H x y v u Q I rx ry h
  obtain ⟨S, a, b, xs, ds, rfl, rfl, hH, hB, rv, q⟩ := h
  cases rx
  cases ry
  obtain ⟨its, r, pl, _⟩ := I.list hH
  obtain ⟨its2, r2, pl2, _⟩ := I.list hB
  have e1 := Vals.length r
  have e2 := Vals.length r2
  refine SeqAt.RcAt.lists (e := fun _ => true) pl.isList pl2.isList (by simp; omega) (by omega) (fun j h1 h2 => ?_) _ _ _ _ ?_
  · have := vals_at rv r r2 X.A.in1 s j (by simpa using h1) (by simpa using h2)
    simpa using this
  · refine ⟨.bl _, H, I, rfl, ?_⟩
    rw [show ((List.range its.toArray.size).all fun _ => true) = true from by simp]
    exact q
/-! ### letters c at the end -/
/-- without the letters c at its end -/
def cOff (l : List Nat) : List Nat := l.take (l.length - (l.reverse.takeWhile fun c => c == 99).length)
theorem cOff_rev (l : List Nat) : cOff l = (l.reverse.dropWhile fun c => c == 99).reverse := by
  unfold cOff
  have e := List.takeWhile_append_dropWhile (p := fun c => c == 99) (l := l.reverse)
  have e2 : l = (l.reverse.dropWhile fun c => c == 99).reverse ++ (l.reverse.takeWhile fun c => c == 99).reverse := by
    rw [← List.reverse_append, e, List.reverse_reverse]
  have hl : l.length = (l.reverse.dropWhile fun c => c == 99).length + (l.reverse.takeWhile fun c => c == 99).length := by
    have := congrArg List.length e2
    simpa using this
  generalize (l.reverse.dropWhile fun c => c == 99) = A at *
  generalize (l.reverse.takeWhile fun c => c == 99) = B at *
  rw [e2, List.length_append, List.length_reverse, List.length_reverse, Nat.add_sub_cancel, ← List.length_reverse (as := A), List.take_left]
theorem contains_c (n : Nat) : (tx [99]).cps.contains n = (n == 99) := by
  by_cases h : n = 99
  · subst h
    decide +kernel
  · rw [show (n == 99) = false from beq_eq_false_iff_ne.mpr h]
    simp [tx]
    exact fun q => h (by omega)
theorem rstrip_c (l : List Nat) : Txt.rstripChars (tx l) (tx [99]) = tx (cOff l) := by
  unfold Txt.rstripChars
  rw [PyProof.Rows.stripBy_eq]
  have e : (tx [99]).cps.contains = fun n => n == 99 := funext contains_c
  rw [e]
  unfold stripLo stripHi Builtin.Str.strSub cOff
  simp [tx, Str.length]
theorem drop_all : ∀ {l : List Nat}, (l.dropWhile fun c => c == 99) = [] → ∀ c ∈ l, c = 99
  | x :: l, h, c, m => by
    rw [List.dropWhile_cons] at h
    by_cases z : (x == 99) = true
    · rw [if_pos z] at h
      rcases List.mem_cons.mp m with rfl | m
      · exact beq_iff_eq.mp z
      · exact drop_all h c m
    · rw [if_neg z] at h
      cases h
theorem cOff_nil {l : List Nat} (h : cOff l = []) : ∀ c ∈ l, c = 99 := fun c m => by
  rw [cOff_rev] at h
  exact drop_all (List.reverse_eq_nil_iff.mp h) c (List.mem_reverse.mpr m)
theorem cOff_last {l : List Nat} (h : cOff l ≠ []) : ∃ i c, cOff l = i ++ [c] ∧ c ≠ 99 := by
  rw [cOff_rev] at h ⊢
  cases e : (l.reverse.dropWhile fun c => c == 99) with
  | nil => rw [e] at h; exact absurd rfl h
  | cons c t =>
    refine ⟨t.reverse, c, by rw [List.reverse_cons], fun z => ?_⟩
    have := List.head?_dropWhile_not (fun c => c == 99) l.reverse
    rw [e] at this
    simp at this
    exact this z
theorem abc_cOff {l : List Nat} (h : Abc l) : Abc (cOff l) := h.take _
theorem cOff_len (l : List Nat) : (cOff l).length ≤ l.length := by
  unfold cOff
  rw [List.length_take]
  omega
/-- the text beyond -/
def bey (l : List Nat) : Option (List Nat) := if cOff l = [] then none else some ((cOff l).dropLast ++ [(cOff l).getLastD 0 + 1])
theorem abc_bey {l m : List Nat} (h : Abc l) (e : bey l = some m) : Abc m ∧ m.length ≤ l.length := by
  unfold bey at e
  by_cases z : cOff l = []
  · rw [if_pos z] at e; cases e
  · rw [if_neg z] at e
    obtain ⟨i, c, hc, n⟩ := cOff_last z
    have hl := cOff_len l
    have ha := abc_cOff h
    rw [hc] at e hl ha
    simp at e
    subst e
    refine ⟨Abc.app (fun x m => ha x (List.mem_append_left _ m)) (Abc.one ?_), by simpa using hl⟩
    rcases ha c (List.mem_append_right _ List.mem_cons_self) with q | q | q <;> omega
end Pv
namespace Pv
open PySem PySem.Spec PyProof.Rows L2 Pg
theorem bag_ls {H : Hp} {b : Addr} {n : Nat} (B : Bag H b n) : Lsts H [b] := by
  obtain ⟨x, y, z, hb, _⟩ := B
  exact .one hb
theorem catle {a b : List Nat} (h : a.length ≤ 12) (g : b.length ≤ 1000) : a.length + b.length ≤ 100000 := by omega
theorem catle' {a b : List Nat} (h : a.length ≤ 1000) (g : b.length ≤ 12) : a.length + b.length ≤ 100000 := by omega
theorem EvD.cat {K : PySem.W.Frag} {S : List Addr} {te tb : TE} {σ : L2.St} {H : Hp} {a b : List Nat} (h : EvD K S te σ H (.str a)) (g : EvD K S tb σ H (.str b)) (hl : a.length + b.length ≤ 100000) : EvD K S (tOp (fun x y H Q => ∃ i j, x = .str i ∧ y = .str j ∧ i.length + j.length ≤ sizeLine ∧ Q (.str (i ++ j)) H) te tb) σ H (.str (a ++ b)) := fun H1 s Q k =>
  h H1 s _ fun v H2 s2 r => g H2 (s.trans s2) _ fun u H3 s3 q => by
    cases r with
    | str _ h1 =>
      cases q with
      | str _ h2 =>
        refine ⟨tx a, tx b, rfl, rfl, by rw [tx_len, tx_len]; exact sz hl, ?_⟩
        rw [tx_app]
        exact k _ _ (s2.trans s3) (.str _ (by rw [List.length_append]; exact hl))
/-! ### t == () -/
def rEqNilT (K : PySem.W.Frag) : R2 := fun x y H Q => ∃ a b xs, x = .ref a ∧ y = .ref b ∧ SqT K H a xs ∧ SqT K H b [] ∧ Q (.bl xs.isEmpty) H
theorem op_eqNilT {X : Cx} (hu : X.A.units + 64 < cLine) : OpR X (compareOp .Eq) (rEqNilT X.K) := by
  intro pins s σ H x y v u Q I rx ry h
  obtain ⟨a, b, xs, rfl, rfl, hH, hB, q⟩ := h
  cases rx
  cases ry
  obtain ⟨its, r, pl, _⟩ := I.tuple hH
  obtain ⟨its2, r2, pl2, _⟩ := I.tuple hB
  cases r2
  have e1 := Vals.length r
  refine SeqAt.RcAt.tuples (e := fun _ => true) pl pl2 (by omega) (fun j h1 h2 => absurd h2 (by simp)) _ _ _ _ ?_
  refine ⟨.bl _, H, I, rfl, ?_⟩
  have e : ((List.range (min its.toArray.size ([] : List Value).toArray.size)).all (fun _ => true) && its.toArray.size == ([] : List Value).toArray.size) = xs.isEmpty := by
    cases r with
    | nil => rfl
    | cons _ _ => simp
  rw [e]
  exact q
end Pv
namespace Pg
open PySem PySem.Spec PyProof.Rows L2
/-! ### min, max of a list of ints with default= -/
theorem ints_reads {h : Heap} : ∀ {its : List Value} {ns : List Int}, IntsAre its ns → ∃ as, ReadsAll h its (ns.map PyData.int) as
  | _, _, .nil => ⟨_, ReadsAll.nil⟩
  | _, _, .cons a t hi => by
    obtain ⟨as, r⟩ := ints_reads (h := h) hi
    exact ⟨_, ReadsAll.cons (Reads.int a t) r⟩
def foldMin (ns : List Int) (d : Int) : Int := match ns with | [] => d | n :: r => r.foldl min n
def foldMax (ns : List Int) (d : Int) : Int := match ns with | [] => d | n :: r => r.foldl max n
theorem alike_ints (ns : List Int) : PySem.W.AlikeAll (ns.map PyData.int) := by
  refine ⟨fun x hx y hy => ?_, fun x hx => ?_⟩
  · obtain ⟨i, _, rfl⟩ := List.mem_map.mp hx
    obtain ⟨j, _, rfl⟩ := List.mem_map.mp hy
    rfl
  · obtain ⟨i, _, rfl⟩ := List.mem_map.mp hx
    exact fun e => nomatch e
theorem depth_ints : ∀ ns : List Int, PyData.depthAll (ns.map PyData.int) ≤ 1
  | [] => Nat.zero_le _
  | n :: ns => Nat.max_le.mpr ⟨(Nat.zero_le 1 : PyData.depth (.int n) ≤ 1), depth_ints ns⟩
section
variable {X : Cx}
def rMinDf (K : PySem.W.Frag) : List V → List V → Hp → VK → Prop := fun vs zs H Q => ∃ (a : Addr) (ns : List Int) (d : Int), vs = [V.ref a] ∧ zs = [.int d] ∧ SqL K H a (ns.map V.int) ∧ Q (.int (foldMin ns d)) H
def rMaxDf (K : PySem.W.Frag) : List V → List V → Hp → VK → Prop := fun vs zs H Q => ∃ (a : Addr) (ns : List Int) (d : Int), vs = [V.ref a] ∧ zs = [.int d] ∧ SqL K H a (ns.map V.int) ∧ Q (.int (foldMax ns d)) H
theorem cr_minDf (hc : X.calm = true) (hu : X.A.units + 64 < cLine) : CallRK X (.builtin "min") [Str.ofString "default"] (rMinDf X.K) := by
  intro pins s σ H vs zs us ws Q I r rz h
  obtain ⟨a, ns, d, rfl, rfl, hs, q⟩ := h
  obtain rfl := Vals.ref1 r
  obtain ⟨w1, rfl, e1⟩ := vals1 rz
  obtain ⟨t1, rfl⟩ := e1
  obtain ⟨its, rv, hl, _⟩ := I.list hs
  obtain ⟨as, ra⟩ := ints_reads (h := s.heap) rv.ints
  refine PySem.W.min_list_default (I.ok.hd hc) hl.isList ra ?_ ?_ (fun e h' tk hk => ?_) fun y ys i v h' tk bs e hv rd hk => ?_
  · exact alike_ints ns
  · have := depth_ints ns
    omega
  · have : ns = [] := List.map_eq_nil_iff.mp e
    subst this
    exact ⟨.int _, H, I.kept hk, ⟨_, rfl⟩, q⟩
  · cases ns with
    | nil => cases e
    | cons n ns =>
      cases e
      rw [PySem.W.minD_ints] at rd
      cases rd
      exact ⟨.int _, H, I.kept hk, ⟨_, rfl⟩, q⟩
theorem cr_maxDf (hc : X.calm = true) (hu : X.A.units + 64 < cLine) : CallRK X (.builtin "max") [Str.ofString "default"] (rMaxDf X.K) := by
  intro pins s σ H vs zs us ws Q I r rz h
  obtain ⟨a, ns, d, rfl, rfl, hs, q⟩ := h
  obtain rfl := Vals.ref1 r
  obtain ⟨w1, rfl, e1⟩ := vals1 rz
  obtain ⟨t1, rfl⟩ := e1
  obtain ⟨its, rv, hl, _⟩ := I.list hs
  obtain ⟨as, ra⟩ := ints_reads (h := s.heap) rv.ints
  refine PySem.W.max_list_default (I.ok.hd hc) hl.isList ra ?_ ?_ (fun e h' tk hk => ?_) fun y ys i v h' tk bs e hv rd hk => ?_
  · exact alike_ints ns
  · have := depth_ints ns
    omega
  · have : ns = [] := List.map_eq_nil_iff.mp e
    subst this
    exact ⟨.int _, H, I.kept hk, ⟨_, rfl⟩, q⟩
  · cases ns with
    | nil => cases e
    | cons n ns =>
      cases e
      rw [PySem.W.maxD_ints] at rd
      cases rd
      exact ⟨.int _, H, I.kept hk, ⟨_, rfl⟩, q⟩
end
section
variable {K : PySem.W.Frag} {a : Addr} {xs : List V} {ds : List Dt} {g : TG} {te : TE} {vs : List Nat} {σ : L2.St} {H1 : Hp} {D : Addr} {Qd : Hp → Prop}
theorem lc_mapT9 (nD : H1 D = none) (hs : SqT K H1 a xs) (hl : ds.length = xs.length) (hz : xs.length ≤ 100000)
    (step : ∀ (i : Nat) x d H, xs[i]? = some x → ds[i]? = some d → Stp [] H1 H → ∀ Q : VK, (∀ y H', Stp [] H H' → Rp K H' y d → Q y H') → g x (wipe σ vs) H fun σ2 H2 => wipe σ2 vs = wipe σ vs ∧ te σ2 H2 Q)
    (hd : ∀ ws H, Stp [] H1 H → H D = some (.lst ws) → RpL K H ws ds → Qd H) :
    ∃ W : Nat → Nat → Hp → Prop, (∃ m, W 0 m (upd H1 D (.lst []))) ∧ ∀ i m H, W i m H →
      ((Itt K a).stop i H ∧ Qd H) ∨ ((Itt K a).go i H ∧ ∃ Nx : Hp → Prop, (∀ H', Nx H' → ∃ m', m' < m ∧ W (i + 1) m' H') ∧ ∀ x H', (Itt K a).yld i H x H' → g x (wipe σ vs) H' fun σ2 H2 => wipe σ2 vs = wipe σ vs ∧ tYes σ2 H2 fun b H3 =>
        if b = true then te σ2 H3 fun y H4 => ∃ acc, H4 D = some (.lst acc) ∧ acc.length < sizeLine ∧ Nx (upd H4 D (.lst (acc ++ [y]))) else Nx H3) := by
  refine lc_tup (a := a) (xs := xs) (fun i H => ∃ ws, H D = some (.lst ws) ∧ RpL K H ws (ds.take i) ∧ Stp [] H1 H) ⟨[], upd_same, .nil, Stp.new nD _⟩ (fun i H _ ⟨_, _, _, S⟩ => sqt_stp S Lsts.nil hs) ?_ ?_
  · rintro i x H hi ⟨ws, hL, rv, S⟩
    have il : i < ds.length := by rw [hl]; exact (List.getElem?_eq_some_iff.mp hi).1
    refine step i x ds[i] H hi (List.getElem?_eq_getElem il) S _ fun y H' S' ry => ?_
    refine ⟨ws, S'.kp _ _ (fun m => nomatch m) hL, ?_, ws ++ [y], upd_same, ?_, (S.trans S').mut nD⟩
    · rw [rv.len, List.length_take]
      exact Nat.lt_of_lt_of_le (show min i ds.length < 100000 by omega) (by decide)
    · have s4 : Stp [D] H' (upd H' D (.lst (ws ++ [y]))) := Stp.put (by simp)
      have hL' := S'.kp _ _ (fun m => nomatch m) hL
      exact RpL.snoc ((rv.stp S' Lsts.nil).stp s4 (.one hL')) (List.getElem?_eq_getElem il) (ry.stp s4 (.one hL'))
  · rintro H ⟨ws, hL, rv, S⟩
    rw [← hl, List.take_length] at rv
    exact hd ws H S hL rv
end
end Pg
namespace Kq
open PySem PySem.Spec PyProof.Rows L2 Pg Pv
def topS (i : Nat) : Stmt := PySem.Challenge.pw_pageskips_k11_answers_and_picks.main.body.getD i (.Pass ⟨0, 0, 0, 0⟩)
structure Nm (mg : Str → Option Value) : Prop where
  n_int : mg "int" = none
  n_len : mg "len" = none
  n_max : mg "max" = none
  n_min : mg "min" = none
  n_range : mg "range" = none
  n_type : mg "type" = none
  n_tuple : mg "tuple" = none
  n_list : mg "list" = none
  n_str : mg "str" = none
  n_bool : mg "bool" = none
  n_all : mg "all" = none
  n_sorted : mg "sorted" = none
  n_repr : mg "repr" = none
  n_enumerate : mg "enumerate" = none
section
variable {P : Program} {w : World} {K : PySem.W.Frag} {mg : Str → Option Value} {base : Heap}
abbrev s__law_bag : Stmt := topS 23
abbrev N__law_bag : List Str := ["cell"]
theorem sc__law_bag : FnScope ["cell"] ["cell"] (defScope s__law_bag) := ⟨rfl, rfl, rfl, by decide +kernel, rfl, by decide +kernel, by decide +kernel⟩

abbrev s__law_draw : Stmt := topS 24
abbrev N__law_draw : List Str := ["bag", "upto", "digit", "turn", "mixed"]
theorem sc__law_draw : FnScope ["bag", "upto", "digit", "turn", "mixed"] ["bag", "upto"] (defScope s__law_draw) := ⟨rfl, rfl, rfl, by decide +kernel, rfl, by decide +kernel, by decide +kernel⟩

/-! ### the bag, the draws -/
def spBag : Sp := fun vs H Q _ => ∃ c : Int, vs = [.int c] ∧ ∀ b H', H b = none → Stp [] H H' → Bag H' b 0 → Q (.ref b) H'
theorem cl__law_bag {f : Addr} {fd : FuncData} (D : Df K mg "_law_bag" s__law_bag ["cell"] f fd) (T : Nm mg) : Cl P w K mg base 1 "_law_bag" s__law_bag ["cell"] spBag := by
  refine D.cl sc__law_bag (fun vs H Q E h => ?_) (fun cdv A outer s H vs Q E hr h => ?_)
  · obtain ⟨c, rfl, _⟩ := h
    rfl
  · obtain ⟨c, rfl, k⟩ := h
    refine ⟨_, (pss_one (ps_ret (pe_lst (pa_cons (pe_callB (call_max2 rfl) (by rfl) T.n_max (by decide +kernel) (pa_cons pe_int (pa_cons (pe_op op_sub (pe_callTy call_int1 (by rfl) T.n_int (by decide +kernel) (pa_cons (pv 0) pa_nil)) (pe_op op_pow pe_int pe_int)) pa_nil))) (pa_cons (pe_op op_mod (pe_callTy call_int1 (by rfl) T.n_int (by decide +kernel) (pa_cons (pv 0) pa_nil)) pe_int) (pa_cons pe_int pa_nil)))))), ?_⟩
    refine ⟨_, rfl, .inl ⟨c, rfl, _, _, rfl, rfl, ⟨by decide, by decide, by decide⟩, _, _, rfl, rfl, _, _, rfl, ?_⟩⟩
    refine ⟨_, rfl, .inl ⟨c, rfl, _, _, rfl, rfl, (by show (0 : Int) < 999999999989; decide), (by show 3 ≤ sizeLine; decide), fun b nb => ?_⟩⟩
    refine k b _ nb (Stp.new nb _) ⟨_, _, _, upd_same, ?_⟩
    have m1 : 0 ≤ c % 999999999989 := Int.emod_nonneg _ (by decide)
    have m2 : c % 999999999989 < 999999999989 := Int.emod_lt_of_pos _ (by decide)
    refine ⟨?_, m1, by omega, by omega, by omega⟩
    split <;> omega
def spDraw : Sp := fun vs H Q _ => ∃ (b : Addr) (up : Int) (n : Nat), vs = [.ref b, .int up] ∧ Bag H b n ∧ n < 2 ^ 30 ∧ 0 < up ∧ up < 2 ^ 30 ∧
  ∀ d H', 0 ≤ d → d < up → Only b H H' → Bag H' b (n + 1) → Q (.int d) H'
theorem cl__law_draw {f : Addr} {fd : FuncData} (D : Df K mg "_law_draw" s__law_draw ["bag", "upto"] f fd) (T : Nm mg) : Cl P w K mg base 1 "_law_draw" s__law_draw ["bag", "upto"] spDraw := by
  refine D.cl sc__law_draw (fun vs H Q E h => ?_) (fun cdv A outer s H vs Q E hr h => ?_)
  · obtain ⟨b, up, n, rfl, _⟩ := h
    rfl
  · obtain ⟨b, up, n, rfl, ⟨x, y, z, hb, x0, y0, y1, z0, z1⟩, hn, u0, u1, k⟩ := h
    refine ⟨_, (pss_cons (ps_if (pt_cmpR op_gt (pe_ix ix_list (pv 0) pe_int (fun _ _ => rfl)) pe_int (by first | exact nomark _ | rfl)) (pss_cons (ps_set (i := 2) sc__law_draw.nd rfl (by first | exact Or.inl rfl | exact Or.inr rfl) (pe_op op_mod (pe_callTy call_int1 (by rfl) T.n_int (by decide +kernel) (pa_cons (pe_ix ix_list (pv 0) pe_int (fun _ _ => rfl)) pa_nil)) (pv 1)))
      (pss_cons (ps_asg (pe_op op_fdivW (pe_ix ix_list (pv 0) pe_int (fun _ _ => rfl)) (pv 1)) (pg_sub (pv 0) pe_int set_list))
      (pss_one (ps_ret (pv 2))))) pss_nil)
      (pss_cons (ps_set (i := 3) sc__law_draw.nd rfl (by first | exact Or.inl rfl | exact Or.inr rfl) (pe_op op_add (pe_ix ix_list (pv 0) pe_int (fun _ _ => rfl)) pe_int))
      (pss_cons (ps_asg (pv 3) (pg_sub (pv 0) pe_int set_list))
      (pss_cons (ps_set (i := 4) sc__law_draw.nd rfl (by first | exact Or.inl rfl | exact Or.inr rfl) (pe_op op_add (pe_op op_mulW (pe_op op_add (pe_ix ix_list (pv 0) pe_int (fun _ _ => rfl)) pe_int) (pe_op op_add (pe_op op_add (pe_op op_mulW (pv 3) (pv 3)) (pe_op op_mulW pe_int (pv 3))) pe_int)) (pe_op op_mulW pe_int (pv 3))))
      (pss_cons (ps_set (i := 4) sc__law_draw.nd rfl (by first | exact Or.inl rfl | exact Or.inr rfl) (pe_op op_fdivW (pe_op op_mod (pe_callTy call_int1 (by rfl) T.n_int (by decide +kernel) (pa_cons (pe_op op_add (pe_op op_add (pe_op op_mulW (pv 4) (pv 4)) (pe_op op_mulW pe_int (pv 4))) (pv 3)) pa_nil)) pe_int) pe_int))
      (pss_one (ps_ret (pe_op op_mod (pe_op op_fdivW (pe_op op_mod (pe_callTy call_int1 (by rfl) T.n_int (by decide +kernel) (pa_cons (pe_op op_add (pe_op op_add (pe_op op_mulW (pv 4) (pv 4)) (pe_op op_mulW pe_int (pv 4))) (pv 3)) pa_nil)) pe_int) pe_int) (pv 1))))))))), ?_⟩
    refine ⟨_, rfl, b, _, 0, .int x, rfl, rfl, SqL.of hb, rfl, _, _, rfl, rfl, _, rfl, ite2 (fun hx => ?_) (fun hx => ?_)⟩
    · refine ⟨_, rfl, b, _, 0, .int x, rfl, rfl, SqL.of hb, rfl, .inl ⟨x, rfl, _, rfl, _, _, rfl, rfl, u0, ?_⟩⟩
      refine ⟨_, rfl, b, _, 0, .int x, rfl, rfl, SqL.of hb, rfl, _, rfl, _, _, rfl, rfl, cdiv 30 u0 u1 (by decide) (by decide), ?_⟩
      refine ⟨_, rfl, b, _, 0, 0, rfl, rfl, hb, rfl, ?_⟩
      refine ⟨_, rfl, k _ _ (Int.emod_nonneg _ (by omega)) (Int.emod_lt_of_pos _ u0) ⟨_, rfl⟩ ⟨_, _, _, upd_same, ?_⟩⟩
      exact ⟨Int.ediv_nonneg x0 (by omega), y0, y1, z0, by omega⟩
    · refine ⟨_, rfl, b, _, 2, .int z, rfl, rfl, SqL.of hb, rfl, _, _, rfl, rfl, ?_⟩
      obtain ⟨t, et⟩ : ∃ t, t = z + 1 := ⟨_, rfl⟩
      dsimp only
      rw [← et]
      have t0 : 0 ≤ t := by omega
      have t1 : t < 2 ^ 31 := by omega
      refine ⟨_, rfl, _, rfl, b, _, 2, 2, rfl, rfl, hb, rfl, ?_⟩
      have a1 := mul_lt (a := 31) (b := 31) t0 t1 t0 t1
      have a2 := mul_lt (i := 1009) (a := 10) (b := 31) (by decide) (by decide) t0 t1
      have a3 := mul_lt (i := y + 5) (j := t * t + 1009 * t + 61) (a := 41) (b := 63) (by omega) (by omega) (by omega) (by omega)
      have a4 := mul_lt (i := 9176) (a := 14) (b := 31) (by decide) (by decide) t0 t1
      refine ⟨_, rfl, b, _, 1, .int y, rfl, rfl, SqL.of upd_same, rfl, _, _, rfl, rfl,
        _, rfl, _, rfl, _, _, rfl, rfl, cmul 31 31 t0 t1 t0 t1 (by decide) (by decide) (by decide),
        _, rfl, _, _, rfl, rfl, cmul 10 31 (by decide) (by decide) t0 t1 (by decide) (by decide) (by decide), _, _, rfl, rfl, _, _, rfl, rfl,
        _, _, rfl, rfl, cmul 41 63 (by omega) (by omega) (by omega) (by omega) (by decide) (by decide) (by decide),
        _, rfl, _, _, rfl, rfl, cmul 14 31 (by decide) (by decide) t0 t1 (by decide) (by decide) (by decide), _, _, rfl, rfl, ?_⟩
      obtain ⟨m, em⟩ : ∃ m, m = (y + 5) * (t * t + 1009 * t + 61) + 9176 * t := ⟨_, rfl⟩
      dsimp only
      rw [← em]
      have m0 : 0 ≤ m := by omega
      have m1 : m < 2 ^ 105 := by omega
      refine ⟨_, rfl, _, rfl, _, _, rfl, rfl, cmul 105 105 m0 m1 m0 m1 (by decide) (by decide) (by decide),
        _, rfl, _, _, rfl, rfl, cmul 20 105 (by decide) (by decide) m0 m1 (by decide) (by decide) (by decide), _, _, rfl, rfl,
        _, rfl, _, _, rfl, rfl, .inl ⟨_, rfl, _, _, rfl, rfl, (by show (0 : Int) < 1000000000039; decide), _, _, rfl, rfl, cdiv 8 (by decide) (by decide) (by decide) (by decide), ?_⟩⟩
      obtain ⟨v, ev⟩ : ∃ v, v = (m * m + 524287 * m + t) % 1000000000039 / 131 := ⟨_, rfl⟩
      dsimp only
      rw [← ev]
      have w0 : 0 ≤ (m * m + 524287 * m + t) % 1000000000039 := Int.emod_nonneg _ (by decide)
      have w1 : (m * m + 524287 * m + t) % 1000000000039 < 1000000000039 := Int.emod_lt_of_pos _ (by decide)
      have v0 : 0 ≤ v := by omega
      have v1 : v < 2 ^ 40 := by omega
      refine ⟨_, rfl, _, rfl, _, _, rfl, rfl, cmul 40 40 v0 v1 v0 v1 (by decide) (by decide) (by decide),
        _, rfl, _, _, rfl, rfl, cmul 13 40 (by decide) (by decide) v0 v1 (by decide) (by decide) (by decide), _, _, rfl, rfl,
        _, rfl, _, _, rfl, rfl, .inl ⟨_, rfl, _, _, rfl, rfl, (by show (0 : Int) < 2147483587; decide), _, _, rfl, rfl, cdiv 5 (by decide) (by decide) (by decide) (by decide), _, rfl, _, _, rfl, rfl, u0, ?_⟩⟩
      exact k _ _ (Int.emod_nonneg _ (by omega)) (Int.emod_lt_of_pos _ u0) ⟨_, rfl⟩ ⟨_, _, _, upd_same, x0, y0, y1, by omega, by omega⟩
abbrev s__law_text : Stmt := topS 25
abbrev N__law_text : List Str := ["bag", "size", "k"]
theorem sc__law_text : FnScope ["bag", "size", "k"] ["bag"] (defScope s__law_text) := ⟨rfl, rfl, rfl, by decide +kernel, rfl, by decide +kernel, by decide +kernel⟩

/-! ### drawn texts -/
def spText : Sp := fun vs H Q _ => ∃ (b : Addr) (n : Nat), vs = [.ref b] ∧ Bag H b n ∧ n + 20 < 2 ^ 30 ∧ ∀ l H', Abc l → l.length ≤ 12 → Stp [b] H H' → Bag H' b (n + 14) → Q (Tx l) H'
theorem cl__law_text {f : Addr} {fd : FuncData} (D : Df K mg "_law_text" s__law_text ["bag"] f fd) (T : Nm mg) (c__law_draw : Cl P w K mg base 1 "_law_draw" s__law_draw ["bag", "upto"] spDraw) : Cl P w K mg base 2 "_law_text" s__law_text ["bag"] spText := by
  refine D.cl sc__law_text (fun vs H Q E h => ?_) (fun cdv A outer s H vs Q E hr h => ?_)
  · obtain ⟨b, n, rfl, _⟩ := h
    rfl
  · obtain ⟨b, n, rfl, B, hn, k⟩ := h
    refine ⟨_, (pss_cons (ps_set (i := 1) sc__law_text.nd rfl (by first | exact Or.inl rfl | exact Or.inr rfl) (pe_cl c__law_draw hr (by omega) (pa_cons (pv 0) (pa_cons (pe_ix ix_list (pe_lst (pa_cons pe_int (pa_cons pe_int (pa_cons pe_int (pa_cons pe_int pa_nil))))) (pe_cl c__law_draw hr (by omega) (pa_cons (pv 0) (pa_cons pe_int pa_nil))) (fun _ _ => rfl)) pa_nil))))
      (pss_one (ps_ret (pe_join pe_str (pe_lc (own := [("k", 2)]) rfl sc__law_text.nd (pi_range1 (by rfl) T.n_range (pa_cons (pv 1) pa_nil)) (blkOk_by (own := [("k", 2)]) (N := N__law_text) (sc := defScope s__law_text) (by decide +kernel)) (fun _ _ _ _ _ => (pg_name (i := 2) sc__law_text.nd rfl (by first | exact Or.inl rfl | exact Or.inr rfl))) (fun _ _ _ _ _ => pts_nil) (fun _ _ _ _ _ => (pe_ix ix_str pe_str (pe_cl c__law_draw hr (by omega) (pa_cons (pv 0) (pa_cons pe_int pa_nil))) (fun _ _ => rfl)))))))), ?_⟩
    refine ⟨_, rfl, (by show 4 ≤ sizeLine; decide), fun l nl => ?_⟩
    have S1 : Stp [b] H (upd H l (.lst [.int 3, .int 4, .int 6, .int 13])) := Stp.new nl _
    refine ⟨_, rfl, b, 4, n, rfl, B.upd (B.ne nl), by omega, by decide, by decide, fun d H2 d0 d1 o1 B1 => ?_⟩
    have S2 : Stp [b] H H2 := S1.trans (o1.stp (List.mem_singleton.mpr rfl))
    have hl : H2 l = some (.lst [.int 3, .int 4, .int 6, .int 13]) := o1.at upd_same (B.ne nl).symm
    obtain ⟨u, mu, eu⟩ := pick_int (ns := [3, 4, 6, 13]) d0 d1
    have u0 : 0 < u ∧ u ≤ 13 := by
      simp at mu
      omega
    refine ⟨l, _, d, .int u, rfl, rfl, SqL.of hl, eu, b, u, n + 1, rfl, B1, by omega, u0.1, by omega, fun z H3 z0 z1 o2 B2 => ?_⟩
    have S3 : Stp [b] H H3 := S2.trans (o2.stp (List.mem_singleton.mpr rfl))
    refine ⟨⟨_, rfl⟩, _, rfl, z, rfl, by omega, by omega, fun L nL => ?_⟩
    refine lc_range (lo := 0) (n := z.toNat) (fun i H4 => ∃ cs : List Nat, Abc cs ∧ cs.length = i ∧ H4 L = some (.lst (cs.map fun c => Tx [c])) ∧ Stp [b] H3 H4 ∧ Bag H4 b (n + 2 + i))
      ⟨[], Abc.nil, rfl, upd_same, Stp.new nL _, B2.upd (B2.ne nL)⟩ ?_ ?_
    · rintro i H4 hi ⟨cs, ha, hcl, hL, S4, B4⟩
      refine ⟨rfl, _, rfl, b, 3, _, rfl, B4, by omega, by decide, by decide, fun d H5 d0 d1 o3 B5 => ?_⟩
      obtain ⟨c, mc, ec⟩ := pick (xs := [97, 98, 99]) d0 d1
      have nLb : L ≠ b := (B2.ne nL).symm
      have hL5 : H5 L = some (.lst (cs.map fun c => Tx [c])) := o3.at hL nLb
      have S5 : Stp [b] H4 H5 := o3.stp (List.mem_singleton.mpr rfl)
      have hc : c = 97 ∨ c = 98 ∨ c = 99 := by
        simp at mc
        exact mc
      refine ⟨("abc" : Str), d, c, rfl, rfl, (by rw [abc_lit]; exact szt (by decide)), (by rw [abc_lit]; exact ec), cs.map fun c => Tx [c], hL5, ?_, ?_⟩
      · rw [List.length_map, hcl]
        exact Nat.lt_of_lt_of_le (show i < 100000 by omega) (by decide)
      · refine ⟨cs ++ [c], ha.app (Abc.one hc), by simp [hcl], ?_, ?_, ?_⟩
        · rw [List.map_append]
          exact upd_same
        · exact (S4.trans S5).mut nL
        · exact B5.upd nLb.symm
    · rintro H4 ⟨cs, ha, hcl, hL, S4, B4⟩
      refine ⟨_, L, cs.map (fun c => tx [c]), rfl, rfl, .inl (SqL.of (by rw [List.map_map]; exact hL)), ?_, ?_⟩
      · rw [List.map_map, nil_lit]
        have e : ∀ l : List Nat, (l.map ((fun x : Str => x.length) ∘ fun c => tx [c])).sum = l.length := by
          intro l
          induction l with
          | nil => rfl
          | cons x l ih =>
            rw [List.map_cons, List.sum_cons, ih, List.length_cons]
            show (tx [x]).length + l.length = l.length + 1
            rw [tx_len]
            simp
            omega
        rw [e, List.length_map, tx_len]
        simp
        omega
      · rw [nil_lit, join_abc]
        exact k _ _ ha (by omega) (S3.trans S4) (B4.mono (by omega))
abbrev s__law_near : Stmt := topS 26
abbrev N__law_near : List Str := ["bag", "word", "way", "sign"]
theorem sc__law_near : FnScope ["bag", "word", "way", "sign"] ["bag", "word"] (defScope s__law_near) := ⟨rfl, rfl, rfl, by decide +kernel, rfl, by decide +kernel, by decide +kernel⟩

abbrev s__law_some : Stmt := topS 28
abbrev N__law_some : List Str := ["bag", "pool"]
theorem sc__law_some : FnScope ["bag", "pool"] ["bag", "pool"] (defScope s__law_some) := ⟨rfl, rfl, rfl, by decide +kernel, rfl, by decide +kernel, by decide +kernel⟩

theorem a_lit : ("a" : Str) = tx [97] := by decide +kernel
theorem atx {l m : List Nat} (h : Abc l) (e : l = m) : Abc m := e ▸ h
def spNear : Sp := fun vs H Q _ => ∃ (b : Addr) (n : Nat) (l : List Nat), vs = [.ref b, Tx l] ∧ Bag H b n ∧ n + 10 < 2 ^ 30 ∧ Abc l ∧ l.length ≤ 12 ∧ ∀ m H', Abc m → m.length ≤ 12 → Stp [b] H H' → Bag H' b (n + 3) → Q (Tx m) H'
theorem cl__law_near {f : Addr} {fd : FuncData} (D : Df K mg "_law_near" s__law_near ["bag", "word"] f fd) (T : Nm mg) (c__law_draw : Cl P w K mg base 1 "_law_draw" s__law_draw ["bag", "upto"] spDraw) : Cl P w K mg base 2 "_law_near" s__law_near ["bag", "word"] spNear := by
  refine D.cl sc__law_near (fun vs H Q E h => ?_) (fun cdv A outer s H vs Q E hr h => ?_)
  · obtain ⟨b, n, l, rfl, _⟩ := h
    rfl
  · obtain ⟨b, n, l, rfl, B, hn, ha, hl, k⟩ := h
    refine ⟨_, (pss_cons (ps_par (i := 2) (j := 3) rfl sc__law_near.nd rfl rfl (by decide) rfl rfl (pa_cons (pe_cl c__law_draw hr (by omega) (pa_cons (pv 0) (pa_cons pe_int pa_nil))) (pa_cons (pe_ix ix_str pe_str (pe_cl c__law_draw hr (by omega) (pa_cons (pv 0) (pa_cons pe_int pa_nil))) (fun _ _ => rfl)) pa_nil)) (by rfl))
      (pss_cons (ps_if (pt_cmpR op_lt (pv 2) pe_int (by first | exact nomark _ | rfl)) (pss_one (ps_ret (pv 1))) pss_nil)
      (pss_cons (ps_if (pt_cmpR op_lt (pv 2) pe_int (by first | exact nomark _ | rfl)) (pss_one (ps_ret (pe_slice sl_str (pe_op op_add_str (pe_op op_add_str (pv 1) (pe_op Pg.op_mul_str pe_str (pe_op op_sub (pv 2) pe_int))) (pv 3)) po_none (po_some pe_int)))) pss_nil)
      (pss_cons (ps_if (pt_cmpR op_eq (pv 2) pe_int (by first | exact nomark _ | rfl)) (pss_one (ps_ret (pe_slice sl_str (pe_op op_add_str (pv 1) (pe_op Pg.op_mul_str (pv 3) pe_int)) po_none (po_some pe_int)))) pss_nil)
      (pss_cons (ps_if (pt_cmpR op_eq (pv 2) pe_int (by first | exact nomark _ | rfl)) (pss_one (ps_ret (pe_op op_add_str (pe_slice sl_str (pv 1) po_none (po_some (pe_un un_neg pe_int))) (pv 3)))) pss_nil)
      (pss_cons (ps_if (pt_cmpR op_eq (pv 2) pe_int (by first | exact nomark _ | rfl)) (pss_one (ps_ret (pe_slice sl_str (pv 1) po_none (po_some (pe_un un_neg pe_int))))) pss_nil)
      (pss_one (ps_ret (pe_slice sl_str (pv 1) po_none (po_some (pe_cl c__law_draw hr (by omega) (pa_cons (pv 0) (pa_cons (pe_op op_add (pe_callB call_len_str (by rfl) T.n_len (by decide +kernel) (pa_cons (pv 1) pa_nil)) pe_int) pa_nil))))))))))))), ?_⟩
    refine ⟨_, rfl, b, 8, n, rfl, B, by omega, by decide, by decide, fun way H1 w0 w1 o1 B1 => ?_⟩
    refine ⟨_, rfl, b, 3, n + 1, rfl, B1, by omega, by decide, by decide, fun d H2 d0 d1 o2 B2 => ?_⟩
    have S2 : Stp [b] H H2 := (o1.stp (List.mem_singleton.mpr rfl)).trans (o2.stp (List.mem_singleton.mpr rfl))
    obtain ⟨c, mc, ec⟩ := pick (xs := [97, 98, 99]) d0 d1
    have hc : c = 97 ∨ c = 98 ∨ c = 99 := by
      simp at mc
      exact mc
    refine ⟨("abc" : Str), d, c, rfl, rfl, (by rw [abc_lit]; exact szt (by decide)), (by rw [abc_lit]; exact ec), _, _, rfl, ?_⟩
    refine ⟨_, rfl, _, _, rfl, rfl, _, rfl, ite2 (fun h1 => ?_) (fun h1 => ?_)⟩
    · exact ⟨_, rfl, k _ _ ha hl S2 (B2.mono (by omega))⟩
    have h1 : ¬ way < 2 := fun q => h1 (decide_eq_true q)
    refine ⟨_, rfl, _, _, rfl, rfl, _, rfl, ite2 (fun h2 => ?_) (fun h2 => ?_)⟩
    · have h2 : way < 4 := of_decide_eq_true h2
      refine ⟨_, rfl, _, rfl, _, _, rfl, rfl, tx [97], way - 2, congrArg V.str a_lit, rfl, mulOk 97 (by omega) (by omega), ?_⟩
      refine ⟨tx l, tx (List.replicate (way - 2).toNat 97), rfl, congrArg V.str (tx_mul _ _), (by rw [tx_len, tx_len, List.length_replicate]; exact sz (by omega)), ?_⟩
      refine ⟨_, rfl, tx (l ++ List.replicate (way - 2).toNat 97), tx [c], congrArg V.str (tx_app _ _), rfl, (by rw [tx_len, tx_len, List.length_append, List.length_replicate, List.length_singleton]; exact sz (by omega)), 12, rfl, ?_⟩
      refine ⟨tx (l ++ List.replicate (way - 2).toNat 97 ++ [c]), congrArg V.str (tx_app _ _), szt (by simp; omega), ?_⟩
      show Q _ _
      rw [show cutS _ none (some 12) = _ from tx_upto _ 12]
      exact k _ _ (((ha.app (Abc.rep _ (.inl rfl))).app (Abc.one hc)).take 12) (by rw [List.length_take]; omega) S2 (B2.mono (by omega))
    have h2 : ¬ way < 4 := fun q => h2 (decide_eq_true q)
    refine ⟨_, rfl, rfl, _, rfl, ite2 (fun h3 => ?_) (fun h3 => ?_)⟩
    · refine ⟨_, rfl, _, rfl, tx [c], 12, rfl, rfl, mulOk c (by decide) (by decide), ?_⟩
      refine ⟨tx l, tx (List.replicate (12 : Int).toNat c), rfl, congrArg V.str (tx_mul _ _), (by rw [tx_len, tx_len, List.length_replicate]; exact sz (by simp; omega)), 12, rfl, ?_⟩
      refine ⟨tx (l ++ List.replicate (12 : Int).toNat c), congrArg V.str (tx_app _ _), szt (by simp; omega), ?_⟩
      show Q _ _
      rw [show cutS _ none (some 12) = _ from tx_upto _ 12]
      exact k _ _ ((ha.app (Abc.rep _ hc)).take 12) (by rw [List.length_take]; omega) S2 (B2.mono (by omega))
    refine ⟨_, rfl, rfl, _, rfl, ite2 (fun h4 => ?_) (fun h4 => ?_)⟩
    · refine ⟨_, rfl, 1, rfl, -1, rfl, tx l, rfl, szt (by omega), _, rfl, tx l.dropLast, tx [c], congrArg V.str (tx_init l), rfl, (by rw [tx_len, tx_len, List.length_dropLast, List.length_singleton]; exact sz (by omega)), ?_⟩
      show Q _ _
      rw [tx_app]
      exact k _ _ (ha.init.app (Abc.one hc)) (by rw [List.length_append, List.length_dropLast, List.length_singleton]; omega) S2 (B2.mono (by omega))
    refine ⟨_, rfl, rfl, _, rfl, ite2 (fun h5 => ?_) (fun h5 => ?_)⟩
    · refine ⟨_, rfl, 1, rfl, -1, rfl, tx l, rfl, szt (by omega), ?_⟩
      show Q _ _
      rw [show cutS _ none (some (-1)) = _ from tx_init l]
      exact k _ _ ha.init (by rw [List.length_dropLast]; omega) S2 (B2.mono (by omega))
    · refine ⟨_, rfl, _, rfl, _, rfl, tx l, rfl, szt (by omega), _, _, rfl, rfl, b, _, n + 2, rfl, B2, by omega, ?_, ?_, fun d H3 d0 d1 o3 B3 => ?_⟩
      · have := tx_len l
        omega
      · have := tx_len l
        omega
      obtain ⟨e, rfl⟩ := Int.eq_ofNat_of_zero_le d0
      refine ⟨_, rfl, tx l, rfl, szt (by omega), ?_⟩
      show Q _ _
      rw [show cutS _ none (some (e : Int)) = _ from tx_upto l e]
      exact k _ _ (ha.take _) (by rw [List.length_take]; omega) (S2.trans (o3.stp (List.mem_singleton.mpr rfl))) B3
/-- a pool: some texts -/
def Pool (H : Hp) (p : Addr) (ls : List (List Nat)) : Prop := H p = some (.lst (ls.map Tx)) ∧ ∀ l ∈ ls, Abc l ∧ l.length ≤ 12
def spSome : Sp := fun vs H Q _ => ∃ (b p : Addr) (n : Nat) (ls : List (List Nat)), vs = [.ref b, .ref p] ∧ Bag H b n ∧ n + 40 < 2 ^ 30 ∧ Pool H p ls ∧ ls.length < 2 ^ 20 ∧ b ≠ p ∧ ∀ m H', Abc m → m.length ≤ 12 → Stp [b] H H' → Bag H' b (n + 20) → Q (Tx m) H'
theorem cl__law_some {f : Addr} {fd : FuncData} (D : Df K mg "_law_some" s__law_some ["bag", "pool"] f fd) (T : Nm mg) (c__law_draw : Cl P w K mg base 1 "_law_draw" s__law_draw ["bag", "upto"] spDraw)
    (c__law_near : Cl P w K mg base 2 "_law_near" s__law_near ["bag", "word"] spNear) (c__law_text : Cl P w K mg base 2 "_law_text" s__law_text ["bag"] spText) : Cl P w K mg base 3 "_law_some" s__law_some ["bag", "pool"] spSome := by
  refine D.cl sc__law_some (fun vs H Q E h => ?_) (fun cdv A outer s H vs Q E hr h => ?_)
  · obtain ⟨b, p, n, ls, rfl, _⟩ := h
    rfl
  · obtain ⟨b, p, n, ls, rfl, B, hn, ⟨hp, ha⟩, hls, ne, k⟩ := h
    refine ⟨_, (pss_cons (ps_if (PW.pt (pw_and (pt_cmpR (op_neD hr.units) (pv 1) (pe_lst pa_nil) (by first | exact nomark _ | rfl)) (pw_and1 (pt_cmpR op_gt (pe_cl c__law_draw hr (by omega) (pa_cons (pv 0) (pa_cons pe_int pa_nil))) pe_int (by first | exact nomark _ | rfl))))) (pss_one (ps_ret (pe_cl c__law_near hr (by omega) (pa_cons (pv 0) (pa_cons (pe_ix ix_list (pv 1) (pe_cl c__law_draw hr (by omega) (pa_cons (pv 0) (pa_cons (pe_callB call_len_seq (by rfl) T.n_len (by decide +kernel) (pa_cons (pv 1) pa_nil)) pa_nil))) (fun _ _ => rfl)) pa_nil))))) pss_nil)
      (pss_one (ps_ret (pe_cl c__law_text hr (by omega) (pa_cons (pv 0) pa_nil))))), ?_⟩
    have npb : p ∉ [b] := fun m => ne (List.mem_singleton.mp m).symm
    have fin : ∀ H1 m, Stp [b] H H1 → Bag H1 b m → m ≤ n + 2 → tRet (tCl spText (tCons (tVar 0) tNil)) { nx := fun _ H' => Q .non H', rt := Q } (start N__law_some [.ref b, .ref p]) H1 := fun H1 m S1 B1 hm => by
      refine ⟨_, rfl, b, m, rfl, B1, by omega, fun l H2 hl hll S2 B2 => ?_⟩
      exact k l H2 hl hll (S1.trans S2) (B2.mono (by omega))
    refine ⟨_, rfl, Nat.zero_le _, fun q hq => ?_⟩
    have S0 : Stp [b] H (upd H q (.lst [])) := Stp.new hq _
    have B0 := B.upd (o := .lst []) (B.ne hq)
    refine ne_nil_strs (SqL.of (S0.kp _ _ npb hp)) (fun l m => (ha l m).1) upd_same ?_
    cases ls with
    | nil => exact ⟨false, rfl, fin _ n S0 B0 (by omega)⟩
    | cons l0 ls =>
    refine ⟨true, rfl, ?_⟩
    refine ⟨_, rfl, b, 3, n, rfl, B0, by omega, by decide, by decide, fun d H1 d0 d1 o1 B1 => ?_⟩
    have S1 : Stp [b] H H1 := S0.trans (o1.stp (List.mem_singleton.mpr rfl))
    refine ⟨_, _, rfl, rfl, _, rfl, ite2 (fun h1 => ?_) (fun h1 => ?_)⟩
    · refine ⟨_, rfl, _, rfl, _, rfl, _, rfl, p, _, rfl, .inl (SqL.of (S1.kp _ _ npb hp)), b, _, n + 1, rfl, B1, by omega, ?_, ?_, fun e H2 e0 e1 o2 B2 => ?_⟩
      · rw [List.length_map, List.length_cons]
        omega
      · rw [List.length_map]
        omega
      have S2 : Stp [b] H H2 := S1.trans (o2.stp (List.mem_singleton.mpr rfl))
      obtain ⟨v, mv, ev⟩ := pick e0 e1
      obtain ⟨m, mm, rfl⟩ := List.mem_map.mp mv
      refine ⟨p, _, e, Tx m, rfl, rfl, SqL.of (S2.kp _ _ npb hp), ev, b, n + 2, m, rfl, B2, by omega, (ha m mm).1, (ha m mm).2, fun m' H3 a3 l3 S3 B3 => ?_⟩
      exact k m' H3 a3 l3 (S2.trans S3) (B3.mono (by omega))
    · exact fin H1 (n + 1) S1 B1 (by omega)
abbrev s_is_text : Stmt := topS 6
abbrev N_is_text : List Str := ["value"]
theorem sc_is_text : FnScope ["value"] ["value"] (defScope s_is_text) := ⟨rfl, rfl, rfl, by decide +kernel, rfl, by decide +kernel, by decide +kernel⟩

abbrev s_is_filter : Stmt := topS 10
abbrev N_is_filter : List Str := ["value"]
theorem sc_is_filter : FnScope ["value"] ["value"] (defScope s_is_filter) := ⟨rfl, rfl, rfl, by decide +kernel, rfl, by decide +kernel, by decide +kernel⟩

abbrev s_can_follow : Stmt := topS 11
abbrev N_can_follow : List Str := ["word", "part", "text", "inner"]
theorem sc_can_follow : FnScope ["word", "part", "text", "inner"] ["word", "part"] (defScope s_can_follow) := ⟨rfl, rfl, rfl, by decide +kernel, rfl, by decide +kernel, by decide +kernel⟩

/-! ### is_text, is_filter -/
def IsTx (d : Dt) : Prop := ∃ l, d = .str l ∧ Abc l
def spIsText (K : PySem.W.Frag) : Sp := fun vs H Q _ => ∃ v d, vs = [v] ∧ Rp K H v d ∧ ∀ b : Bool, (b = true ↔ IsTx d) → Q (.bl b) H
theorem cl_is_text {f : Addr} {fd : FuncData} (D : Df K mg "is_text" s_is_text ["value"] f fd) (T : Nm mg) : Cl P w K mg base 1 "is_text" s_is_text ["value"] (spIsText K) := by
  refine D.cl sc_is_text (fun vs H Q E h => ?_) (fun cdv A outer s H vs Q E hr h => ?_)
  · obtain ⟨v, d, rfl, _⟩ := h
    rfl
  · obtain ⟨v, d, rfl, r, k⟩ := h
    refine ⟨_, (pss_one (ps_ret (pe_and (pe_tyIs (T := "str") Mono.var (pv 0) T.n_type T.n_str (by decide +kernel)) (pe_one (pe_cmpR op_eq (pe_bm PySem.F.plainAttrs_str PySem.F.slot_str_strip PySem.F.type_str_strip mt_stripChars (pv 0) (pa_cons pe_str pa_nil)) pe_str (by first | exact nomark _ | rfl)))))), ?_⟩
    have no : (∀ l, d ≠ .str l) → Q (.bl false) H := fun n => k false ⟨fun e => (nomatch e), fun ⟨l, e, _⟩ => absurd e (n l)⟩
    refine ⟨_, rfl, d, r, _, rfl, ?_⟩
    cases r with
    | str l hl =>
      refine ⟨_, rfl, rfl, tx l, ("abc" : Str), rfl, rfl, szt hl, rfl, ?_⟩
      refine k _ ?_
      rw [abc_lit, nil_lit]
      constructor
      · intro h
        exact ⟨l, rfl, (strip_abc l).mp (V.str.inj (of_decide_eq_true h))⟩
      · rintro ⟨l', e, ha⟩
        cases e
        exact decide_eq_true (congrArg V.str ((strip_abc l).mpr ha))
    | _ => exact no (fun l e => nomatch e)
/-- the filters of the document -/
inductive Flt : Dt → Prop
  | tx {wd : Str} {l : List Nat} (hw : wd = "is" ∨ wd = "below" ∨ wd = "above" ∨ wd = "begins") (h : Abc l) : Flt (.tup [.str wd.cps.toList, .str l])
  | none : Flt (.tup [.str ("none" : Str).cps.toList])
  | say (b : Bool) : Flt (.tup [.str ("say" : Str).cps.toList, .bl b])
  | not {d : Dt} : Flt d → Flt (.tup [.str ("not" : Str).cps.toList, d])
  | among {ds : List Dt} : (∀ d ∈ ds, IsTx d) → Flt (.tup [.str ("among" : Str).cps.toList, .tup ds])
  | many {wd : Str} {ds : List Dt} (hw : wd = "and" ∨ wd = "or") : (∀ d ∈ ds, Flt d) → Flt (.tup [.str wd.cps.toList, .tup ds])
/-! ### what a filter is, by its first part -/
def CanF (wd : Str) (d : Dt) : Prop :=
  ((wd = "is" ∨ wd = "below" ∨ wd = "above" ∨ wd = "begins") ∧ IsTx d) ∨ (wd = "say" ∧ ∃ b, d = .bl b) ∨ (wd = "not" ∧ Flt d) ∨
  (wd = "among" ∧ ∃ ds, d = .tup ds ∧ ∀ e ∈ ds, IsTx e) ∨ ((wd = "and" ∨ wd = "or") ∧ ∃ ds, d = .tup ds ∧ ∀ e ∈ ds, Flt e)
theorem lit_tx (wd : Str) : tx wd.cps.toList = wd := by cases wd <;> simp [tx]
theorem tx_lit {l : List Nat} {wd : Str} (h : tx l = wd) : l = wd.cps.toList := by rw [← h]
theorem flt_two {l : List Nat} {d : Dt} : Flt (.tup [.str l, d]) ↔ CanF (tx l) d := by
  constructor
  · intro h
    cases h with
    | tx hw ha => exact .inl ⟨by rw [lit_tx]; exact hw, _, rfl, ha⟩
    | say b => exact .inr (.inl ⟨lit_tx _, b, rfl⟩)
    | not h => exact .inr (.inr (.inl ⟨lit_tx _, h⟩))
    | among h => exact .inr (.inr (.inr (.inl ⟨lit_tx _, _, rfl, h⟩)))
    | many hw h => exact .inr (.inr (.inr (.inr ⟨by rw [lit_tx]; exact hw, _, rfl, h⟩)))
  · rintro (⟨hw, l', rfl, ha⟩ | ⟨hw, b, rfl⟩ | ⟨hw, h⟩ | ⟨hw, ds, rfl, h⟩ | ⟨hw, ds, rfl, h⟩)
    · have := Flt.tx (wd := tx l) hw ha
      simpa [tx] using this
    · rw [tx_lit hw]
      exact .say b
    · rw [tx_lit hw]
      exact .not h
    · rw [tx_lit hw]
      exact .among h
    · have := Flt.many (wd := tx l) hw h
      simpa [tx] using this
theorem flt_one {l : List Nat} : Flt (.tup [.str l]) ↔ tx l = "none" := by
  constructor
  · intro h
    cases h
    exact lit_tx _
  · intro h
    rw [tx_lit h]
    exact .none
theorem flt_head {d : Dt} (h : Flt d) : ∃ l rest, d = .tup (.str l :: rest) ∧ rest.length ≤ 1 := by
  cases h <;> exact ⟨_, _, rfl, by simp⟩
theorem not_none {d : Dt} : ¬ CanF "none" d := by
  rintro (⟨h | h | h | h, _⟩ | ⟨h, _⟩ | ⟨h, _⟩ | ⟨h, _⟩ | ⟨h | h, _⟩) <;> exact absurd h (by decide +kernel)
theorem flt_none {rest : List Dt} {l : List Nat} (h : tx l = "none") : Flt (.tup (.str l :: rest)) ↔ rest.length = 0 := by
  constructor
  · intro f
    obtain ⟨l', r', e, hl⟩ := flt_head f
    cases e
    cases rest with
    | nil => rfl
    | cons d rest =>
      cases rest with
      | nil =>
        rw [flt_two, h] at f
        exact (not_none f).elim
      | cons _ _ => simp at hl
  · intro e
    rw [List.length_eq_zero_iff.mp e]
    exact flt_one.mpr h
theorem flt_not_none {rest : List Dt} {l : List Nat} (h : tx l ≠ "none") : Flt (.tup (.str l :: rest)) ↔ ∃ p, rest = [p] ∧ CanF (tx l) p := by
  constructor
  · intro f
    obtain ⟨l', r', e, hl⟩ := flt_head f
    cases e
    cases rest with
    | nil => exact absurd (flt_one.mp f) h
    | cons d rest =>
      cases rest with
      | nil => exact ⟨d, rfl, flt_two.mp f⟩
      | cons _ _ => simp at hl
  · rintro ⟨p, rfl, c⟩
    exact flt_two.mpr c
def spIsF (K : PySem.W.Frag) (n : Nat) : Sp := fun vs H Q _ => ∃ v d, vs = [v] ∧ Rp K H v d ∧ d.dep < n ∧ ∀ (b : Bool) H', (b = true ↔ Flt d) → Stp [] H H' → Q (.bl b) H'
def spCan (K : PySem.W.Frag) (n : Nat) : Sp := fun vs H Q _ => ∃ l v d, vs = [Tx l, v] ∧ Rp K H v d ∧ d.dep < n ∧ ∀ (b : Bool) H', (b = true ↔ CanF (tx l) d) → Stp [] H H' → Q (.bl b) H'
theorem isf_step {f : Addr} {fd : FuncData} (D : Df K mg "is_filter" s_is_filter ["value"] f fd) (T : Nm mg) {n m : Nat} (hm : 1 ≤ m) (c_can_follow : Cl P w K mg base m "can_follow" s_can_follow ["word", "part"] (spCan K n)) :
    Cl P w K mg base (m + 1) "is_filter" s_is_filter ["value"] (spIsF K (n + 1)) := by
  refine D.cl sc_is_filter (fun vs H Q E h => ?_) (fun cdv A outer s H vs Q E hr h => ?_)
  · obtain ⟨v, d, rfl, _⟩ := h
    rfl
  · obtain ⟨v, d, rfl, r, hd, k⟩ := h
    refine ⟨_, (pss_cons (ps_if (PW.pt (pw_or (pt_tyNot (T := "tuple") Mono.var (pv 0) T.n_type T.n_tuple (by decide +kernel)) (pw_or (pt_not (pt_truth (pv 0) (by intro _; rfl))) (pw_or1 (pt_tyNot (T := "str") (Mono.ixT Mono.var Mono.c) (pe_ix ix_tup (pv 0) pe_int (fun _ _ => rfl)) T.n_type T.n_str (by decide +kernel)))))) (pss_one (ps_ret pe_bl)) pss_nil)
      (pss_cons (ps_if (pt_cmpR op_eq (pe_ix ix_tup (pv 0) pe_int (fun _ _ => rfl)) pe_str (by first | exact nomark _ | rfl)) (pss_one (ps_ret (pe_cmpR op_eq (pe_callB call_len_seq (by rfl) T.n_len (by decide +kernel) (pa_cons (pv 0) pa_nil)) pe_int (by first | exact nomark _ | rfl)))) pss_nil)
      (pss_one (ps_ret (pe_and (pe_cmpR op_eq (pe_callB call_len_seq (by rfl) T.n_len (by decide +kernel) (pa_cons (pv 0) pa_nil)) pe_int (by first | exact nomark _ | rfl)) (pe_one (pe_cl c_can_follow hr (by omega) (pa_cons (pe_ix ix_tup (pv 0) pe_int (fun _ _ => rfl)) (pa_cons (pe_ix ix_tup (pv 0) pe_int (fun _ _ => rfl)) pa_nil))))))))), ?_⟩
    have no : ¬ Flt d → Q (.bl false) H := fun n => k false H ⟨fun e => (nomatch e), fun f => absurd f n⟩ (Stp.refl _ _)
    refine ⟨_, rfl, d, r, ?_⟩
    cases r with
    | tup hs hn rl =>
      rename_i a xs ds
      rw [if_neg (by simp [Dt.ty])]
      refine ⟨_, rfl, _, .inr (.inl ⟨_, hs, rfl⟩), ?_⟩
      cases rl with
      | nil =>
        refine no fun f => ?_
        obtain ⟨l, rest, e, _⟩ := flt_head f
        cases e
      | cons r0 rr =>
        rename_i v0 vr d0 dr
        refine ⟨_, rfl, a, _, 0, v0, rfl, rfl, hs, at0, d0, r0, ?_⟩
        cases r0 with
        | str l hl =>
          rw [if_neg (by simp [Dt.ty])]
          refine ⟨_, rfl, a, _, 0, Tx l, rfl, rfl, hs, at0, rfl, _, rfl, ite2 (fun h1 => ?_) (fun h1 => ?_)⟩
          · have h1 : tx l = "none" := V.str.inj (of_decide_eq_true h1)
            refine ⟨_, rfl, a, _, rfl, .inr hs, rfl, ?_⟩
            refine k _ H ?_ (Stp.refl _ _)
            rw [flt_none h1, decide_eq_true_iff]
            constructor
            · intro e
              have e := V.int.inj e
              rw [List.length_cons, rr.len] at e
              omega
            · intro e
              rw [List.length_cons, rr.len, e]
              rfl
          · have h1 : tx l ≠ "none" := fun e => h1 (decide_eq_true (congrArg V.str e))
            refine ⟨_, rfl, a, _, rfl, .inr hs, rfl, _, rfl, ite2 (fun h2 => ?_) (fun h2 => ?_)⟩
            · have hlen : vr.length = 1 := by
                have := V.int.inj (of_decide_eq_true h2)
                rw [List.length_cons] at this
                omega
              obtain ⟨v1, d1, rfl, rfl, r1⟩ := rr.one hlen
              refine ⟨_, rfl, a, _, 0, Tx l, rfl, rfl, hs, at0, _, rfl, a, _, 1, v1, rfl, rfl, hs, at1, l, v1, d1, rfl, r1, ?_, fun b H' hb S => ?_⟩
              · have := Dt.dep_mem (ds := [Dt.str l, d1]) (d := d1) (by simp)
                have e : (Dt.tup [Dt.str l, d1]).dep = Dt.depL [Dt.str l, d1] + 1 := rfl
                omega
              · refine k b H' ?_ S
                rw [hb, flt_two]
            · refine k false H ⟨fun e => (nomatch e), fun f => ?_⟩ (Stp.refl _ _)
              rw [flt_not_none h1] at f
              obtain ⟨p, rfl, _⟩ := f
              refine absurd (decide_eq_true ?_) h2
              rw [List.length_cons, rr.len]
              rfl
        | _ =>
          rw [if_pos (by simp [Dt.ty])]
          refine no fun f => ?_
          obtain ⟨l, rest, e, _⟩ := flt_head f
          cases e
    | _ =>
      rw [if_pos (by simp [Dt.ty])]
      refine no fun f => ?_
      obtain ⟨l, rest, e, _⟩ := flt_head f
      cases e
/-- all of them: the truths of a list, one for each part -/
theorem all_iff {P : Dt → Prop} : ∀ {bs : List Bool} {ds : List Dt}, bs.length = ds.length → (∀ (j : Nat) b d, bs[j]? = some b → ds[j]? = some d → (b = true ↔ P d)) → (bs.all id = true ↔ ∀ d ∈ ds, P d)
  | [], [], _, _ => by simp
  | b :: bs, d :: ds, hl, h => by
    have ih := all_iff (P := P) (bs := bs) (ds := ds) (by simpa using hl) fun j b d e1 e2 => h (j + 1) b d (by simpa using e1) (by simpa using e2)
    have h0 := h 0 b d rfl rfl
    rw [List.all_cons, Bool.and_eq_true, ih]
    simp only [id]
    rw [h0]
    simp
/-- one truth more -/
theorem more_iff {P : Dt → Prop} {bs : List Bool} {ds : List Dt} {b : Bool} {d : Dt} (h : ∀ (j : Nat) b d, bs[j]? = some b → ds[j]? = some d → (b = true ↔ P d)) (e : ds[bs.length]? = some d) (hb : b = true ↔ P d) :
    ∀ (j : Nat) b' d', (bs ++ [b])[j]? = some b' → ds[j]? = some d' → (b' = true ↔ P d') := fun j b' d' e1 e2 => by
  by_cases hj : j < bs.length
  · rw [List.getElem?_append_left hj] at e1
    exact h j b' d' e1 e2
  · rw [List.getElem?_append_right (by omega)] at e1
    have hj2 : j - bs.length = 0 := by
      have := (List.getElem?_eq_some_iff.mp e1).1
      simp at this
      omega
    have e3 : j = bs.length := by omega
    subst e3
    rw [e] at e2
    cases e2
    simp at e1
    subst e1
    exact hb
theorem can_is {wd : Str} {d : Dt} (h : wd = "is" ∨ wd = "below" ∨ wd = "above" ∨ wd = "begins") : CanF wd d ↔ IsTx d := by
  refine ⟨fun q => ?_, fun q => .inl ⟨h, q⟩⟩
  rcases q with ⟨_, q⟩ | ⟨e, _⟩ | ⟨e, _⟩ | ⟨e, _⟩ | ⟨e | e, _⟩
  · exact q
  all_goals (subst e; exact absurd h (by decide +kernel))
theorem can_say {d : Dt} : CanF "say" d ↔ ∃ b, d = .bl b := by
  refine ⟨fun q => ?_, fun q => .inr (.inl ⟨rfl, q⟩)⟩
  rcases q with ⟨e, _⟩ | ⟨_, q⟩ | ⟨e, _⟩ | ⟨e, _⟩ | ⟨e, _⟩
  · exact absurd e (by decide +kernel)
  · exact q
  all_goals exact absurd e (by decide +kernel)
theorem can_not {d : Dt} : CanF "not" d ↔ Flt d := by
  refine ⟨fun q => ?_, fun q => .inr (.inr (.inl ⟨rfl, q⟩))⟩
  rcases q with ⟨e, _⟩ | ⟨e, _⟩ | ⟨_, q⟩ | ⟨e, _⟩ | ⟨e, _⟩
  · exact absurd e (by decide +kernel)
  · exact absurd e (by decide +kernel)
  · exact q
  all_goals exact absurd e (by decide +kernel)
theorem can_among {d : Dt} : CanF "among" d ↔ ∃ ds, d = .tup ds ∧ ∀ e ∈ ds, IsTx e := by
  refine ⟨fun q => ?_, fun q => .inr (.inr (.inr (.inl ⟨rfl, q⟩)))⟩
  rcases q with ⟨e, _⟩ | ⟨e, _⟩ | ⟨e, _⟩ | ⟨_, q⟩ | ⟨e, _⟩
  · exact absurd e (by decide +kernel)
  · exact absurd e (by decide +kernel)
  · exact absurd e (by decide +kernel)
  · exact q
  · exact absurd e (by decide +kernel)
theorem can_many {wd : Str} {d : Dt} (h : wd = "and" ∨ wd = "or") : CanF wd d ↔ ∃ ds, d = .tup ds ∧ ∀ e ∈ ds, Flt e := by
  refine ⟨fun q => ?_, fun q => .inr (.inr (.inr (.inr ⟨h, q⟩)))⟩
  rcases q with ⟨e | e | e | e, _⟩ | ⟨e, _⟩ | ⟨e, _⟩ | ⟨e, _⟩ | ⟨_, q⟩
  all_goals first | exact q | (subst e; exact absurd h (by decide +kernel))
theorem can_other {wd : Str} {d : Dt} (h : wd ∉ (["is", "below", "above", "begins"] : List Str)) (h2 : wd ≠ "say") (h3 : wd ≠ "not") (h4 : wd ≠ "among") (h5 : wd ∉ (["and", "or"] : List Str)) : ¬ CanF wd d := by
  rintro (⟨e, _⟩ | ⟨e, _⟩ | ⟨e, _⟩ | ⟨e, _⟩ | ⟨e, _⟩)
  · exact h (by simpa using e)
  · exact h2 e
  · exact h3 e
  · exact h4 e
  · exact h5 (by simpa using e)
theorem can_step {f : Addr} {fd : FuncData} (D : Df K mg "can_follow" s_can_follow ["word", "part"] f fd) (T : Nm mg) {n m : Nat} (hm : 1 ≤ m) (c_is_text : Cl P w K mg base 1 "is_text" s_is_text ["value"] (spIsText K))
    (c_is_filter : Cl P w K mg base m "is_filter" s_is_filter ["value"] (spIsF K n)) : Cl P w K mg base (m + 1) "can_follow" s_can_follow ["word", "part"] (spCan K n) := by
  refine D.cl sc_can_follow (fun vs H Q E h => ?_) (fun cdv A outer s H vs Q E hr h => ?_)
  · obtain ⟨l, v, d, rfl, _⟩ := h
    rfl
  · obtain ⟨l, v, d, rfl, r, hd, k⟩ := h
    refine ⟨_, (pss_cons (ps_if (pt_cmpR op_in_seq (pv 0) (pe_tup (pa_cons pe_str (pa_cons pe_str (pa_cons pe_str (pa_cons pe_str pa_nil))))) (by first | exact nomark _ | rfl)) (pss_one (ps_ret (pe_cl c_is_text hr (by omega) (pa_cons (pv 1) pa_nil)))) pss_nil)
      (pss_cons (ps_if (pt_cmpR op_eq (pv 0) pe_str (by first | exact nomark _ | rfl)) (pss_one (ps_ret (pe_tyIs (T := "bool") Mono.var (pv 1) T.n_type T.n_bool (by decide +kernel)))) pss_nil)
      (pss_cons (ps_if (pt_cmpR op_eq (pv 0) pe_str (by first | exact nomark _ | rfl)) (pss_one (ps_ret (pe_cl c_is_filter hr (by omega) (pa_cons (pv 1) pa_nil)))) pss_nil)
      (pss_cons (ps_if (pt_cmpR op_eq (pv 0) pe_str (by first | exact nomark _ | rfl)) (pss_one (ps_ret (pe_and (pe_tyIs (T := "tuple") Mono.var (pv 1) T.n_type T.n_tuple (by decide +kernel)) (pe_one (pe_callB (cr_all rfl) (by rfl) T.n_all (by decide +kernel) (pa_cons (pe_lc (own := [("text", 2)]) rfl sc_can_follow.nd (pi_tup (pv 1)) (blkOk_by (own := [("text", 2)]) (N := N_can_follow) (sc := defScope s_can_follow) (by decide +kernel)) (fun _ _ _ _ _ => (pg_name (i := 2) sc_can_follow.nd rfl (by first | exact Or.inl rfl | exact Or.inr rfl))) (fun _ _ _ _ _ => pts_nil) (fun _ _ _ _ _ => (pe_cl c_is_text hr (by omega) (pa_cons (pv 2) pa_nil)))) pa_nil)))))) pss_nil)
      (pss_cons (ps_if (pt_cmpR op_in_seq (pv 0) (pe_tup (pa_cons pe_str (pa_cons pe_str pa_nil))) (by first | exact nomark _ | rfl)) (pss_one (ps_ret (pe_and (pe_tyIs (T := "tuple") Mono.var (pv 1) T.n_type T.n_tuple (by decide +kernel)) (pe_one (pe_callB (cr_all rfl) (by rfl) T.n_all (by decide +kernel) (pa_cons (pe_lc (own := [("inner", 3)]) rfl sc_can_follow.nd (pi_tup (pv 1)) (blkOk_by (own := [("inner", 3)]) (N := N_can_follow) (sc := defScope s_can_follow) (by decide +kernel)) (fun _ _ _ _ _ => (pg_name (i := 3) sc_can_follow.nd rfl (by first | exact Or.inl rfl | exact Or.inr rfl))) (fun _ _ _ _ _ => pts_nil) (fun _ _ _ _ _ => (pe_cl c_is_filter hr (by omega) (pa_cons (pv 3) pa_nil)))) pa_nil)))))) pss_nil)
      (pss_one (ps_ret pe_bl))))))), ?_⟩
    refine ⟨_, rfl, (by show 4 ≤ sizeLine; decide), fun t nt => ?_⟩
    have S1 : Stp [] H (upd H t (.tup [.str "is", .str "below", .str "above", .str "begins"])) := Stp.new nt _
    refine ⟨t, _, rfl, .inr (SqT.of upd_same), rfl, rfl, _, rfl, ?_⟩
    generalize upd H t (.tup [.str "is", .str "below", .str "above", .str "begins"]) = H1 at *
    have r1 : Rp K H1 v d := r.stp S1 Lsts.nil
    have i1 := inV_str (tx l) (["is", "below", "above", "begins"] : List Str)
    refine ite2 (fun h1 => ?_) (fun h1 => ?_)
    · refine ⟨_, rfl, v, d, rfl, r1, fun b hb => ?_⟩
      refine k b _ ?_ S1
      have h2 : inV (Tx l) ((["is", "below", "above", "begins"] : List Str).map V.str) = true := h1
      rw [i1] at h2
      rw [hb, can_is (by simpa using of_decide_eq_true h2)]
    have g1 : tx l ∉ (["is", "below", "above", "begins"] : List Str) := fun q => h1 (i1.trans (decide_eq_true q))
    refine ⟨_, rfl, rfl, _, rfl, ite2 (fun h2 => ?_) (fun h2 => ?_)⟩
    · have h2 : tx l = "say" := V.str.inj (of_decide_eq_true h2)
      refine ⟨_, rfl, d, r1, k _ _ ?_ S1⟩
      rw [h2, can_say, Bool.false_xor, decide_eq_true_iff]
      constructor
      · intro e
        cases d <;> simp [Dt.ty] at e
        exact ⟨_, rfl⟩
      · rintro ⟨b, rfl⟩
        rfl
    have g2 : tx l ≠ "say" := fun e => h2 (decide_eq_true (congrArg V.str e))
    refine ⟨_, rfl, rfl, _, rfl, ite2 (fun h3 => ?_) (fun h3 => ?_)⟩
    · have h3 : tx l = "not" := V.str.inj (of_decide_eq_true h3)
      refine ⟨_, rfl, v, d, rfl, r1, hd, fun b H' hb S => k b H' ?_ (S1.trans S)⟩
      rw [hb, h3, can_not]
    have g3 : tx l ≠ "not" := fun e => h3 (decide_eq_true (congrArg V.str e))
    refine ⟨_, rfl, rfl, _, rfl, ite2 (fun h4 => ?_) (fun h4 => ?_)⟩
    · have h4 : tx l = "among" := V.str.inj (of_decide_eq_true h4)
      refine ⟨_, rfl, d, r1, _, rfl, ?_⟩
      cases r1 with
      | tup hs hn rl =>
        rename_i a xs ds
        rw [if_pos (by simp [Dt.ty])]
        refine ⟨_, rfl, a, rfl, ⟨_, hs⟩, fun L nL => ?_⟩
        refine lc_tup (a := a) (xs := xs) (fun i H2 => ∃ bs : List Bool, bs.length = i ∧ H2 L = some (.lst (bs.map V.bl)) ∧ Stp [] H1 H2 ∧ ∀ (j : Nat) b d, bs[j]? = some b → ds[j]? = some d → (b = true ↔ IsTx d))
          ⟨[], rfl, upd_same, Stp.new nL _, fun j b d e => by simp at e⟩ (fun i H2 _ ⟨bs, _, _, S, _⟩ => sqt_stp S Lsts.nil hs) ?_ ?_
        · rintro i x H2 hi ⟨bs, hl, hL, S, hb⟩
          obtain ⟨e, he, re⟩ := rl.get hi
          refine ⟨rfl, _, rfl, x, e, rfl, re.stp S Lsts.nil, fun b hbe => ?_⟩
          refine ⟨bs.map V.bl, hL, ?_, bs ++ [b], by simp [hl], ?_, S.mut nL, more_iff hb (by rw [hl]; exact he) hbe⟩
          · have h1 := (List.getElem?_eq_some_iff.mp hi).1
            rw [List.length_map, hl]
            exact Nat.lt_of_lt_of_le (show i < 100000 by omega) (by decide)
          · rw [List.map_append]
            exact upd_same
        · rintro H2 ⟨bs, hl, hL, S, hb⟩
          refine ⟨L, bs, rfl, SqL.of hL, k _ _ ?_ (S1.trans S)⟩
          rw [all_iff (by rw [hl, rl.len]) hb, h4, can_among]
          exact ⟨fun q => ⟨ds, rfl, q⟩, fun ⟨ds', e, q⟩ => by cases e; exact q⟩
      | _ =>
        rw [if_neg (by simp [Dt.ty])]
        refine k _ _ ⟨fun e => (nomatch e), fun q => ?_⟩ S1
        rw [h4, can_among] at q
        obtain ⟨ds, e, _⟩ := q
        cases e
    have g4 : tx l ≠ "among" := fun e => h4 (decide_eq_true (congrArg V.str e))
    refine ⟨_, rfl, (by show 2 ≤ sizeLine; decide), fun t2 nt2 => ?_⟩
    have S2 : Stp [] H1 (upd H1 t2 (.tup [.str "and", .str "or"])) := Stp.new nt2 _
    refine ⟨t2, _, rfl, .inr (SqT.of upd_same), rfl, rfl, _, rfl, ?_⟩
    generalize upd H1 t2 (.tup [.str "and", .str "or"]) = H2 at *
    have r2 : Rp K H2 v d := r1.stp S2 Lsts.nil
    have i2 := inV_str (tx l) (["and", "or"] : List Str)
    have SS := S1.trans S2
    refine ite2 (fun h5 => ?_) (fun h5 => ?_)
    · have h6 : inV (Tx l) ((["and", "or"] : List Str).map V.str) = true := h5
      rw [i2] at h6
      have h7 : tx l = "and" ∨ tx l = "or" := by simpa using of_decide_eq_true h6
      refine ⟨_, rfl, d, r2, _, rfl, ?_⟩
      cases r2 with
      | tup hs hn rl =>
        rename_i a xs ds
        rw [if_pos (by simp [Dt.ty])]
        refine ⟨_, rfl, a, rfl, ⟨_, hs⟩, fun L nL => ?_⟩
        refine lc_tup (a := a) (xs := xs) (fun i H3 => ∃ bs : List Bool, bs.length = i ∧ H3 L = some (.lst (bs.map V.bl)) ∧ Stp [] H2 H3 ∧ ∀ (j : Nat) b d, bs[j]? = some b → ds[j]? = some d → (b = true ↔ Flt d))
          ⟨[], rfl, upd_same, Stp.new nL _, fun j b d e => by simp at e⟩ (fun i H3 _ ⟨bs, _, _, S, _⟩ => sqt_stp S Lsts.nil hs) ?_ ?_
        · rintro i x H3 hi ⟨bs, hl, hL, S, hb⟩
          obtain ⟨e, he, re⟩ := rl.get hi
          refine ⟨rfl, _, rfl, x, e, rfl, re.stp S Lsts.nil, ?_, fun b H4 hbe S4 => ?_⟩
          · have h1 := Dt.dep_mem (List.mem_of_getElem? he)
            have h2 : (Dt.tup ds).dep = Dt.depL ds + 1 := rfl
            omega
          refine ⟨bs.map V.bl, S4.kp _ _ (fun m => nomatch m) hL, ?_, bs ++ [b], by simp [hl], ?_, (S.trans S4).mut nL, more_iff hb (by rw [hl]; exact he) hbe⟩
          · have h1 := (List.getElem?_eq_some_iff.mp hi).1
            rw [List.length_map, hl]
            exact Nat.lt_of_lt_of_le (show i < 100000 by omega) (by decide)
          · rw [List.map_append]
            exact upd_same
        · rintro H3 ⟨bs, hl, hL, S, hb⟩
          refine ⟨L, bs, rfl, SqL.of hL, k _ _ ?_ (SS.trans S)⟩
          rw [all_iff (by rw [hl, rl.len]) hb, can_many h7]
          exact ⟨fun q => ⟨ds, rfl, q⟩, fun ⟨ds', e, q⟩ => by cases e; exact q⟩
      | _ =>
        rw [if_neg (by simp [Dt.ty])]
        refine k _ _ ⟨fun e => (nomatch e), fun q => ?_⟩ SS
        rw [can_many h7] at q
        obtain ⟨ds, e, _⟩ := q
        cases e
    have g5 : tx l ∉ (["and", "or"] : List Str) := fun q => h5 (i2.trans (decide_eq_true q))
    exact k _ _ ⟨fun e => (nomatch e), fun q => absurd q (can_other g1 g2 g3 g4 g5)⟩ SS
/-- a promise that asks for nothing -/
theorem cl_never {x : Str} {st : Stmt} {ps : List Str} {f : Addr} {fd : FuncData} (D : Df K mg x st ps f fd) {sp : Sp} (h : ∀ vs H Q E, ¬ sp vs H Q E) (k : Nat) : Cl P w K mg base k x st ps sp :=
  ⟨f, fd, D, ⟨fun vs H Q E q => absurd q (h vs H Q E), fun A outer s H args us vs Q E _ _ _ _ q => absurd q (h vs H Q E)⟩⟩
theorem both_filter {f1 f2 f3 : Addr} {fd1 fd2 fd3 : FuncData} (D1 : Df K mg "is_text" s_is_text ["value"] f1 fd1) (D2 : Df K mg "is_filter" s_is_filter ["value"] f2 fd2) (D3 : Df K mg "can_follow" s_can_follow ["word", "part"] f3 fd3) (T : Nm mg) :
    ∀ n : Nat, Cl P w K mg base (2 * n + 1) "is_filter" s_is_filter ["value"] (spIsF K n) ∧ Cl P w K mg base (2 * n + 2) "can_follow" s_can_follow ["word", "part"] (spCan K n)
  | 0 => by
    have h1 : Cl P w K mg base 1 "is_filter" s_is_filter ["value"] (spIsF K 0) := cl_never D2 (fun vs H Q E ⟨v, d, _, _, hd, _⟩ => Nat.not_lt_zero _ hd) 1
    exact ⟨h1, can_step D3 T (Nat.le_refl _) (cl_is_text D1 T) h1⟩
  | n + 1 => by
    obtain ⟨h1, h2⟩ := both_filter D1 D2 D3 T n
    have h3 : Cl P w K mg base (2 * (n + 1) + 1) "is_filter" s_is_filter ["value"] (spIsF K (n + 1)) := (isf_step D2 T (by omega) h2).mono (by omega)
    exact ⟨h3, can_step D3 T (by omega) (cl_is_text D1 T) h3⟩
abbrev s__law_leaf : Stmt := topS 29
abbrev N__law_leaf : List Str := ["bag", "room", "pool", "way", "wide", "many", "words", "k"]
theorem sc__law_leaf : FnScope ["bag", "room", "pool", "way", "wide", "many", "words", "k"] ["bag", "room", "pool"] (defScope s__law_leaf) := ⟨rfl, rfl, rfl, by decide +kernel, rfl, by decide +kernel, by decide +kernel⟩

theorem monoDraw : MonoS spDraw := fun vs H Q Q' E h ⟨b, up, n, e, B, h1, h2, h3, k⟩ => ⟨b, up, n, e, B, h1, h2, h3, fun d H' a b c e => h _ _ (k d H' a b c e)⟩
/-- what a drawn filter is -/
def Made (K : PySem.W.Frag) (H : Hp) (v : V) (m : Nat) : Prop := ∃ d, Rp K H v d ∧ Flt d ∧ d.dep ≤ m
theorem Made.stp {K : PySem.W.Frag} {H H' : Hp} {v : V} {m : Nat} {S : List Addr} (h : Made K H v m) (s : Stp S H H') (l : Lsts H S) : Made K H' v m := by
  obtain ⟨d, r, f, e⟩ := h
  exact ⟨d, r.stp s l, f, e⟩
/-- the bag, the room, the pool -/
structure Sto (H : Hp) (b r p : Addr) (n : Nat) (r0 r1 : Int) (ls : List (List Nat)) : Prop where
  bag : Bag H b n
  room : H r = some (.lst [.int r0, .int r1])
  pool : Pool H p ls
  br : b ≠ r
  bp : b ≠ p
  rp : r ≠ p
  pos : 0 ≤ r1
  few : (ls.length : Int) + r1 ≤ 100
theorem Sto.lsts {H : Hp} {b r p : Addr} {n : Nat} {r0 r1 : Int} {ls : List (List Nat)} (s : Sto H b r p n r0 r1 ls) : Lsts H [b, r, p] := by
  obtain ⟨x, y, z, h, _⟩ := s.bag
  exact .cons h (.cons s.room (.one s.pool.1))
theorem Sto.lb {H : Hp} {b r p : Addr} {n : Nat} {r0 r1 : Int} {ls : List (List Nat)} (s : Sto H b r p n r0 r1 ls) : Lsts H [b] := fun q m => s.lsts q (by rw [List.mem_singleton.mp m]; simp)
/-- behind a step that changes the bag alone -/
theorem Sto.draw {H H' : Hp} {b r p : Addr} {n m : Nat} {r0 r1 : Int} {ls : List (List Nat)} (s : Sto H b r p n r0 r1 ls) (st : Stp [b] H H') (B : Bag H' b m) : Sto H' b r p m r0 r1 ls :=
  ⟨B, st.kp _ _ (fun q => s.br (List.mem_singleton.mp q).symm) s.room, ⟨st.kp _ _ (fun q => s.bp (List.mem_singleton.mp q).symm) s.pool.1, s.pool.2⟩, s.br, s.bp, s.rp, s.pos, s.few⟩
theorem Sto.fresh {H : Hp} {b r p q : Addr} {n : Nat} {r0 r1 : Int} {ls : List (List Nat)} {o : HO} (s : Sto H b r p n r0 r1 ls) (h : H q = none) : Sto (upd H q o) b r p n r0 r1 ls :=
  s.draw (Stp.new h _) (s.bag.upd (s.bag.ne h))
def spLeaf (K : PySem.W.Frag) : Sp := fun vs H Q _ => ∃ (b r p : Addr) (n : Nat) (r0 r1 : Int) (ls : List (List Nat)), vs = [.ref b, .ref r, .ref p] ∧ Sto H b r p n r0 r1 ls ∧ n + 1000 < 2 ^ 30 ∧
  ∀ v H' r1' ls', Made K H' v 2 → Stp [b, r, p] H H' → Sto H' b r p (n + 400) r0 r1' ls' → Q v H'
theorem b_in {b r p : Addr} : ∀ x ∈ ([b] : List Addr), x ∈ [b, r, p] := fun x m => by rw [List.mem_singleton.mp m]; simp
theorem cl__law_leaf {f : Addr} {fd : FuncData} (D : Df K mg "_law_leaf" s__law_leaf ["bag", "room", "pool"] f fd) (T : Nm mg) (c__law_draw : Cl P w K mg base 1 "_law_draw" s__law_draw ["bag", "upto"] spDraw)
    (c__law_some : Cl P w K mg base 3 "_law_some" s__law_some ["bag", "pool"] spSome) : Cl P w K mg base 4 "_law_leaf" s__law_leaf ["bag", "room", "pool"] (spLeaf K) := by
  refine D.cl sc__law_leaf (fun vs H Q E h => ?_) (fun cdv A outer s H vs Q E hr h => ?_)
  · obtain ⟨b, r, p, n, r0, r1, ls, rfl, _⟩ := h
    rfl
  · obtain ⟨b, r, p, n, r0, r1, ls, rfl, s0, hn, k⟩ := h
    refine ⟨_, (pss_cons (ps_set (i := 3) sc__law_leaf.nd rfl (by first | exact Or.inl rfl | exact Or.inr rfl) (pe_cl c__law_draw hr (by omega) (pa_cons (pv 0) (pa_cons pe_int pa_nil))))
      (pss_cons (ps_if (PW.pt (pw_or (pt_cmpR op_eq (pv 3) pe_int (by first | exact nomark _ | rfl)) (pw_or1 (PW.pt (pw_and (pt_cmpR op_lt (pe_ix ix_list (pv 1) pe_int (fun _ _ => rfl)) pe_int (by first | exact nomark _ | rfl)) (pw_and1 (pt_cmpR op_gt (pv 3) pe_int (by first | exact nomark _ | rfl)))))))) (pss_one (ps_ret (pe_tup (pa_cons pe_str pa_nil)))) pss_nil)
      (pss_cons (ps_if (pt_cmpR op_eq (pv 3) pe_int (by first | exact nomark _ | rfl)) (pss_one (ps_ret (pe_tup (pa_cons pe_str (pa_cons (pe_cmpR op_eq (pe_cl c__law_draw hr (by omega) (pa_cons (pv 0) (pa_cons pe_int pa_nil))) pe_int (by first | exact nomark _ | rfl)) pa_nil))))) pss_nil)
      (pss_cons (ps_set (i := 4) sc__law_leaf.nd rfl (by first | exact Or.inl rfl | exact Or.inr rfl) (pe_ifExp (pt_cmpR op_eq (pe_cl c__law_draw hr (by omega) (pa_cons (pv 0) (pa_cons pe_int pa_nil))) pe_int (by first | exact nomark _ | rfl)) pe_int pe_int))
      (pss_cons (ps_set (i := 5) sc__law_leaf.nd rfl (by first | exact Or.inl rfl | exact Or.inr rfl) (pe_ifExp (pt_cmpR op_eq (pv 3) pe_int (by first | exact nomark _ | rfl)) (pe_cl c__law_draw hr (by omega) (pa_cons (pv 0) (pa_cons (pe_op op_add (pe_callB (call_min2 rfl) (by rfl) T.n_min (by decide +kernel) (pa_cons (pv 4) (pa_cons (pe_callTy call_int1 (by rfl) T.n_int (by decide +kernel) (pa_cons (pe_ix ix_list (pv 1) pe_int (fun _ _ => rfl)) pa_nil)) pa_nil))) pe_int) pa_nil))) pe_int))
      (pss_cons (ps_asg (pe_op op_sub (pe_ix ix_list (pv 1) pe_int (fun _ _ => rfl)) (pv 5)) (pg_sub (pv 1) pe_int set_list))
      (pss_cons (ps_set (i := 6) sc__law_leaf.nd rfl (by first | exact Or.inl rfl | exact Or.inr rfl) (pe_lst pa_nil))
      (pss_cons (ps_for PassesOwn.never rfl (pi_range1 (by rfl) T.n_range (pa_cons (pv 5) pa_nil)) (pg_name (i := 7) sc__law_leaf.nd rfl (by first | exact Or.inl rfl | exact Or.inr rfl)) (pss_cons (ps_expr (pe_bm PySem.F.plainAttrs_list PySem.F.slot_list_append PySem.F.type_list_append mt_append (pv 6) (pa_cons (pe_cl c__law_some hr (by omega) (pa_cons (pv 0) (pa_cons (pv 2) pa_nil))) pa_nil)))
      (pss_one (ps_expr (pe_bm PySem.F.plainAttrs_list PySem.F.slot_list_append PySem.F.type_list_append mt_append (pv 2) (pa_cons (pe_ix ix_list (pv 6) (pv 7) (fun _ _ => rfl)) pa_nil))))))
      (pss_cons (ps_if (pt_cmpR op_eq (pv 3) pe_int (by first | exact nomark _ | rfl)) (pss_one (ps_ret (pe_tup (pa_cons pe_str (pa_cons (pe_callTy call_tuple_of (by rfl) T.n_tuple (by decide +kernel) (pa_cons (pv 6) pa_nil)) pa_nil))))) pss_nil)
      (pss_one (ps_ret (pe_tup (pa_cons (pe_ix ix_list (pe_lst (pa_cons pe_str (pa_cons pe_str (pa_cons pe_str (pa_cons pe_str (pa_cons pe_str pa_nil)))))) (pe_op op_sub (pv 3) pe_int) (fun _ _ => rfl)) (pa_cons (pe_ix ix_list (pv 6) pe_int (fun _ _ => rfl)) pa_nil)))))))))))))), ?_⟩
    have one : b ∈ [b] := List.mem_singleton.mpr rfl
    refine ⟨_, rfl, b, 8, n, rfl, s0.bag, by omega, by decide, by decide, fun way H1 w0 w1 o1 B1 => ?_⟩
    have S1 : Stp [b] H H1 := o1.stp one
    have s1 := s0.draw S1 B1
    have fin : ∀ H2 m t xs ds, Stp [b] H H2 → Bag H2 b m → m ≤ n + 400 → H2 t = none → RpL K (upd H2 t (.tup xs)) xs ds → xs.length ≤ 10 → Flt (.tup ds) → (Dt.tup ds).dep ≤ 2 → Q (.ref t) (upd H2 t (.tup xs)) := fun H2 m t xs ds S2 B2 hm nt rl hx hf hd => by
      have s2 := (s0.draw S2 B2).fresh (o := .tup xs) nt
      exact k _ _ r1 ls ⟨.tup ds, .tup (SqT.of upd_same) (by omega) rl, hf, hd⟩ ((S2.new' nt).sub b_in) ⟨s2.bag.mono hm, s2.room, s2.pool, s0.br, s0.bp, s0.rp, s0.pos, s0.few⟩
    refine MonoT.cut (t := tOr _ _) (MonoT.or (MonoT.test (Mono.op' MonoR.eq Mono.var Mono.c)) (MonoT.and (MonoT.test (Mono.op' MonoR.i0 (Mono.op' MonoR.ixL Mono.var Mono.c) Mono.c)) (MonoT.test (Mono.op' MonoR.i0 Mono.var Mono.c))))
      (fun c H' => H' = H1 ∧ (c = true ∨ (way ≠ 0 ∧ (way = 1 ∨ 1 ≤ r1)))) ?_ ?_
    · refine ⟨_, rfl, rfl, _, rfl, ite2 (fun h1 => ⟨rfl, .inl rfl⟩) (fun h1 => ?_)⟩
      have g1 : way ≠ 0 := fun e => h1 (decide_eq_true (congrArg V.int e))
      refine ⟨_, rfl, r, _, 1, .int r1, rfl, rfl, SqL.of s1.room, rfl, _, _, rfl, rfl, _, rfl, ite2 (fun h2 => ?_) (fun h2 => ⟨rfl, .inr ⟨g1, .inr ?_⟩⟩)⟩
      · refine ⟨_, rfl, _, _, rfl, rfl, _, rfl, rfl, ?_⟩
        by_cases h3 : 1 < way
        · exact .inl (decide_eq_true h3)
        · exact .inr ⟨g1, .inl (by omega)⟩
      · have : ¬ r1 < 1 := fun e => h2 (decide_eq_true e)
        omega
    rintro c H' ⟨rfl, hc⟩
    refine ite2 (fun ec => ?_) (fun ec => ?_)
    · refine ⟨(by show 1 ≤ sizeLine; decide), fun t nt => ?_⟩
      exact fin _ _ t _ [.str ("none" : Str).cps.toList] S1 B1 (by omega) nt (.cons (Rp.lit _) .nil) (by decide) .none (by decide)
    obtain ⟨g0, g1⟩ := hc.resolve_left ec
    refine ⟨_, rfl, rfl, _, rfl, ite2 (fun h2 => ?_) (fun h2 => ?_)⟩
    · refine ⟨_, rfl, b, 2, n + 1, rfl, B1, by omega, by decide, by decide, fun d H2 d0 d1 o2 B2 => ?_⟩
      refine ⟨rfl, (by show 2 ≤ sizeLine; decide), fun t nt => ?_⟩
      exact fin _ _ t _ [.str ("say" : Str).cps.toList, .bl _] (S1.trans (o2.stp one)) B2 (by omega) nt (.cons (Rp.lit _) (.cons (.bl _) .nil)) (by simp) (.say _) (by simp [Dt.dep, Dt.depL])
    have g2 : 1 ≤ r1 := by
      have : way ≠ 1 := fun e => h2 (decide_eq_true (congrArg V.int e))
      omega
    refine ⟨_, rfl, b, 8, n + 1, rfl, B1, by omega, by decide, by decide, fun d H2 d0 d1 o2 B2 => ?_⟩
    have S2 := S1.trans (o2.stp one)
    have s2 := s0.draw S2 B2
    refine ⟨rfl, _, rfl, ite_tC fun wd hw => ?_⟩
    obtain ⟨u, rfl, u0, u1⟩ : ∃ u, wd = .int u ∧ 4 ≤ u ∧ u ≤ 8 := by
      rcases hw with rfl | rfl
      · exact ⟨8, rfl, by decide, by decide⟩
      · exact ⟨4, rfl, by decide, by decide⟩
    refine Mono.cut (te := tIf _ _ _) (Mono.tif (MonoT.test (Mono.op' MonoR.eq Mono.var Mono.c)) (Mono.cl monoDraw (MonoA.cons Mono.var (MonoA.cons (Mono.op' MonoR.i0 (Mono.cb MonoC.two (MonoA.cons Mono.var (MonoA.cons (Mono.cb MonoC.int1 (MonoA.cons (Mono.op' MonoR.ixL Mono.var Mono.c) MonoA.nil)) MonoA.nil))) Mono.c) MonoA.nil))) Mono.c)
      (fun v H' => ∃ m, v = .int m ∧ 0 ≤ m ∧ m ≤ 8 ∧ m ≤ r1 ∧ (way ≠ 2 → m = 1) ∧ Stp [b] H H' ∧ Bag H' b (n + 3)) ?_ ?_
    · refine ⟨_, rfl, rfl, _, rfl, ite2 (fun h3 => ?_) (fun h3 => ?_)⟩
      · have h3 : way = 2 := V.int.inj (of_decide_eq_true h3)
        refine ⟨_, rfl, _, rfl, _, rfl, r, _, 1, .int r1, rfl, rfl, SqL.of s2.room, rfl, .inl ⟨r1, rfl, u, r1, rfl, _, _, rfl, rfl, b, _, n + 2, rfl, B2, by omega, ?_, ?_, fun m H3 m0 m1 o3 B3 => ?_⟩⟩
        · split <;> omega
        · split <;> omega
        · refine ⟨m, rfl, m0, ?_, ?_, fun e => absurd h3 e, S2.trans (o3.stp one), B3⟩
          · split at m1 <;> omega
          · split at m1 <;> omega
      · exact ⟨1, rfl, by decide, by decide, g2, fun _ => rfl, S2, B2.mono (by omega)⟩
    rintro v H3 ⟨m, rfl, m0, m8, mr, mone, S3, B3⟩
    have s3 := s0.draw S3 B3
    refine ⟨_, rfl, r, _, 1, .int r1, rfl, rfl, SqL.of s3.room, rfl, _, rfl, _, _, rfl, rfl, _, rfl, r, _, 1, 1, rfl, rfl, s3.room, rfl, ?_⟩
    have mr' : r ∈ [b, r, p] := by simp
    have nrb : r ∉ [b] := fun q => s0.br (List.mem_singleton.mp q).symm
    obtain ⟨H4, e4⟩ : ∃ H4, H4 = upd H3 r (.lst ([.int r0, .int r1].set 1 (.int (r1 - m)))) := ⟨_, rfl⟩
    dsimp only
    have S4 : Stp [b, r, p] H H4 := by
      rw [e4]
      exact (S3.sub b_in).put' mr'
    have s4 : Sto H4 b r p (n + 3) r0 (r1 - m) ls := by
      rw [e4]
      refine ⟨B3.upd s0.br, upd_same, ⟨?_, s0.pool.2⟩, s0.br, s0.bp, s0.rp, by omega, by have := s0.few; omega⟩
      rw [upd_ne s0.rp.symm]
      exact s3.pool.1
    refine ⟨Nat.zero_le _, fun W nW => ?_⟩
    have nW4 : H4 W = none := by
      rw [e4]
      exact nW
    have hx := s4.lsts
    have wne : ∀ q, q ∈ [b, r, p] → W ≠ q := fun q mq e => by
      obtain ⟨xs, ex⟩ := hx q mq
      rw [← e, nW4] at ex
      cases ex
    have wb : W ≠ b := wne b (by simp)
    have wr : W ≠ r := wne r (by simp)
    have wp : W ≠ p := wne p (by simp)
    have nW0 : H W = none := S4.fresh (fun q => wne W q rfl) nW4
    have s5 := s4.fresh (o := .lst []) nW4
    rw [e4] at s5
    refine ⟨_, rfl, m, rfl, by omega, by omega, for_range (lo := 0) (n := m.toNat) (fun i σ H5 => ∃ (ws : List (List Nat)) (x : Option V), ws.length = i ∧ (∀ l ∈ ws, Abc l ∧ l.length ≤ 12) ∧
      σ = [some (.ref b), some (.ref r), some (.ref p), some (.int way), some (.int u), some (.int m), some (.ref W), x] ∧ H5 W = some (.lst (ws.map Tx)) ∧ Stp [b, r, p] H H5 ∧ Sto H5 b r p (n + 3 + 20 * i) r0 (r1 - m) (ls ++ ws))
      ⟨[], none, rfl, fun l q => (nomatch q), rfl, upd_same, ?_, ?_⟩ ?_ ?_⟩
    · have := S4.new' (o := .lst []) nW4
      rwa [e4] at this
    · rw [List.append_nil]
      exact s5
    · rintro i σ H5 hi ⟨ws, x, hl, ha, rfl, hW, S5, s5⟩
      have few := s0.few
      have hls : ls.length ≤ 100 := by have := s0.pos; omega
      refine ⟨_, rfl, .inl ⟨rfl, _, SqL.of hW⟩, _, rfl, _, rfl, b, p, _, ls ++ ws, rfl, s5.bag, by omega, s5.pool, ?_, s0.bp, fun l H6 al ll S6 B6 => ?_⟩
      · rw [List.length_append]
        omega
      have hW6 : H6 W = some (.lst (ws.map Tx)) := S6.kp _ _ (fun q => wb (List.mem_singleton.mp q)) hW
      have s6 := s5.draw S6 B6
      refine ⟨W, _, _, rfl, rfl, hW6, ?_, ?_⟩
      · rw [List.length_map, hl]
        exact Nat.lt_of_lt_of_le (show i < 100000 by omega) (by decide)
      have e7 : (upd H6 W (.lst (ws.map Tx ++ [Tx l]))) p = some (.lst ((ls ++ ws).map Tx)) := by
        rw [upd_ne wp.symm]
        exact s6.pool.1
      have e8 : (upd H6 W (.lst (ws.map Tx ++ [Tx l]))) W = some (.lst (ws.map Tx ++ [Tx l])) := upd_same
      refine ⟨_, rfl, .inl ⟨rfl, _, SqL.of e7⟩, _, rfl, _, rfl, W, _, _, Tx l, rfl, rfl, SqL.of e8, ?_, p, _, _, rfl, rfl, e7, ?_, ?_⟩
      · rw [Int.zero_add]
        refine atI_nat ?_
        rw [List.getElem?_append_right (by rw [List.length_map, hl]; exact Nat.le_refl _), List.length_map, hl, Nat.sub_self]
        rfl
      · rw [List.length_map, List.length_append, hl]
        exact Nat.lt_of_lt_of_le (show ls.length + i < 100000 by omega) (by decide)
      · refine ⟨ws ++ [l], _, by simp [hl], fun l' q => ?_, rfl, ?_, ?_, ?_⟩
        · rcases List.mem_append.mp q with q | q
          · exact ha l' q
          · rw [List.mem_singleton.mp q]
            exact ⟨al, ll⟩
        · rw [upd_ne wp, e8, List.map_append]
          rfl
        · exact ((S5.trans (S6.sub b_in)).mut nW0).put' (by simp)
        · refine ⟨?_, ?_, ⟨?_, fun l' q => ?_⟩, s0.br, s0.bp, s0.rp, by omega, ?_⟩
          · exact ((B6.upd wb.symm).upd s0.bp).mono (by omega)
          · rw [upd_ne s0.rp, upd_ne wr.symm]
            exact s6.room
          · rw [upd_same, ← List.append_assoc, List.map_append (l₂ := [l])]
            rfl
          · rw [← List.append_assoc] at q
            rcases List.mem_append.mp q with q | q
            · exact s6.pool.2 l' q
            · rw [List.mem_singleton.mp q]
              exact ⟨al, ll⟩
          · rw [List.length_append, List.length_append, hl, List.length_singleton]
            omega
    · rintro σ H5 ⟨ws, x, hl, ha, rfl, hW, S5, s5⟩
      have bud : n + 3 + 20 * m.toNat ≤ n + 400 := by omega
      have s6 : Sto H5 b r p (n + 400) r0 (r1 - m) (ls ++ ws) := ⟨s5.bag.mono bud, s5.room, s5.pool, s0.br, s0.bp, s0.rp, s5.pos, s5.few⟩
      have hws : ∀ l ∈ ws, l.length ≤ 100000 := fun l q => Nat.le_trans (ha l q).2 (by decide)
      refine ⟨_, rfl, rfl, _, rfl, ite2 (fun h3 => ?_) (fun h3 => ?_)⟩
      · refine ⟨_, rfl, W, _, rfl, .inl ⟨SqL.of hW, fun t nt => ⟨(by show 2 ≤ sizeLine; decide), fun t2 nt2 => ?_⟩⟩⟩
        have ntt : t ≠ t2 := ne_of_none upd_same nt2
        refine k _ _ (r1 - m) (ls ++ ws) ⟨.tup [.str ("among" : Str).cps.toList, .tup (ws.map Dt.str)], .tup (SqT.of upd_same) (by simp) (.cons (Rp.lit _) (.cons (.tup (SqT.of (Eq.trans (upd_ne ntt) upd_same)) ?_ (RpL.strs hws)) .nil)), .among fun d q => ?_, ?_⟩ ((S5.new' nt).new' nt2) ((s6.fresh nt).fresh nt2)
        · rw [List.length_map, hl]
          omega
        · obtain ⟨l, ml, rfl⟩ := List.mem_map.mp q
          exact ⟨l, rfl, (ha l ml).1⟩
        · simp [Dt.dep, Dt.depL, dep_strs]
      · have g3 : way ≠ 2 := fun e => h3 (decide_eq_true (congrArg V.int e))
        have m1 := mone g3
        have g4 : way ≠ 1 := fun e => h2 (decide_eq_true (congrArg V.int e))
        obtain ⟨l, rfl⟩ : ∃ l, ws = [l] := by
          cases ws with
          | nil => simp [m1] at hl
          | cons l ws =>
            cases ws with
            | nil => exact ⟨l, rfl⟩
            | cons _ _ => simp [m1] at hl
        obtain ⟨al, ll⟩ := ha l (by simp)
        refine ⟨(by show 5 ≤ sizeLine; decide), fun q nq => ?_⟩
        have s7 := s6.fresh (o := .lst [.str "is", .str "below", .str "above", .str "begins", .str "is"]) nq
        obtain ⟨v, mv, ev⟩ := pick (xs := ([.str "is", .str "below", .str "above", .str "begins", .str "is"] : List V)) (d := way - 3) (by omega) (by simp; omega)
        have hq : (upd H5 q (.lst [.str "is", .str "below", .str "above", .str "begins", .str "is"])) W = some (.lst [Tx l]) := by
          rw [upd_ne (ne_of_none hW nq)]
          exact hW
        refine ⟨_, rfl, _, _, rfl, rfl, q, _, way - 3, v, rfl, rfl, SqL.of upd_same, ev, _, rfl, W, _, 0, Tx l, rfl, rfl, SqL.of hq, at0, (by show 2 ≤ sizeLine; decide), fun t nt => ?_⟩
        obtain ⟨wd, rfl, hwd⟩ : ∃ wd : Str, v = .str wd ∧ (wd = "is" ∨ wd = "below" ∨ wd = "above" ∨ wd = "begins") := by
          simp at mv
          rcases mv with rfl | rfl | rfl | rfl | rfl
          · exact ⟨_, rfl, .inl rfl⟩
          · exact ⟨_, rfl, .inr (.inl rfl)⟩
          · exact ⟨_, rfl, .inr (.inr (.inl rfl))⟩
          · exact ⟨_, rfl, .inr (.inr (.inr rfl))⟩
          · exact ⟨_, rfl, .inl rfl⟩
        have lw : wd.cps.toList.length ≤ 100000 := by
          rcases hwd with rfl | rfl | rfl | rfl <;> decide +kernel
        exact k _ _ (r1 - m) (ls ++ [l]) ⟨.tup [.str wd.cps.toList, .str l], .tup (SqT.of upd_same) (by simp) (.cons (Rp.lit wd lw) (.cons (.str l (Nat.le_trans ll (by decide))) .nil)), .tx hwd al, by simp [Dt.dep, Dt.depL]⟩ ((S5.new' nq).new' nt) (s7.fresh nt)
abbrev s__law_sieve : Stmt := topS 30
abbrev N__law_sieve : List Str := ["bag", "room", "pool", "levels", "way", "parts", "k"]
theorem sc__law_sieve : FnScope ["bag", "room", "pool", "levels", "way", "parts", "k"] ["bag", "room", "pool", "levels"] (defScope s__law_sieve) := ⟨rfl, rfl, rfl, by decide +kernel, rfl, by decide +kernel, by decide +kernel⟩

/-- so many draws at most for so many levels -/
def cst : Nat → Nat
  | 0 => 2000
  | n + 1 => 2000 + 12 * cst n
theorem cst_pos : ∀ n, 2000 ≤ cst n
  | 0 => Nat.le_refl _
  | n + 1 => by show 2000 ≤ 2000 + 12 * cst n; omega
theorem cst_le {m n : Nat} (h : m ≤ n) : cst m ≤ cst n := by
  induction h with
  | refl => exact Nat.le_refl _
  | step h ih => rename_i k; show cst m ≤ 2000 + 12 * cst k; omega
def spSieve (K : PySem.W.Frag) (lv : Nat) : Sp := fun vs H Q _ => ∃ (b r p : Addr) (n : Nat) (r0 r1 : Int) (ls : List (List Nat)) (j : Nat), vs = [.ref b, .ref r, .ref p, .int (j : Int)] ∧ j < lv ∧ Sto H b r p n r0 r1 ls ∧ n + cst j < 2 ^ 30 ∧
  ∀ v H' r0' r1' ls', Made K H' v (2 * j + 2) → Stp [b, r, p] H H' → Sto H' b r p (n + cst j) r0' r1' ls' → Q v H'
theorem sieve_step {f : Addr} {fd : FuncData} (D : Df K mg "_law_sieve" s__law_sieve ["bag", "room", "pool", "levels"] f fd) (T : Nm mg) (c__law_draw : Cl P w K mg base 1 "_law_draw" s__law_draw ["bag", "upto"] spDraw)
    (c__law_leaf : Cl P w K mg base 4 "_law_leaf" s__law_leaf ["bag", "room", "pool"] (spLeaf K)) {lv m : Nat} (hm : 4 ≤ m) (c__law_sieve : Cl P w K mg base m "_law_sieve" s__law_sieve ["bag", "room", "pool", "levels"] (spSieve K lv)) :
    Cl P w K mg base (m + 1) "_law_sieve" s__law_sieve ["bag", "room", "pool", "levels"] (spSieve K (lv + 1)) := by
  refine D.cl sc__law_sieve (fun vs H Q E h => ?_) (fun cdv A outer s H vs Q E hr h => ?_)
  · obtain ⟨b, r, p, n, r0, r1, ls, j, rfl, _⟩ := h
    rfl
  · obtain ⟨b, r, p, n, r0, r1, ls, j, rfl, hj, s0, hn, k⟩ := h
    refine ⟨_, (pss_cons (ps_asg (pe_op op_sub (pe_ix ix_list (pv 1) pe_int (fun _ _ => rfl)) pe_int) (pg_sub (pv 1) pe_int set_list))
      (pss_cons (ps_set (i := 4) sc__law_sieve.nd rfl (by first | exact Or.inl rfl | exact Or.inr rfl) (pe_cl c__law_draw hr (by omega) (pa_cons (pv 0) (pa_cons pe_int pa_nil))))
      (pss_cons (ps_if (PW.pt (pw_or (pt_cmpR op_lt (pv 3) pe_int (by first | exact nomark _ | rfl)) (pw_or (pt_cmpR op_lt (pe_ix ix_list (pv 1) pe_int (fun _ _ => rfl)) pe_int (by first | exact nomark _ | rfl)) (pw_or1 (pt_cmpR op_gt (pv 4) pe_int (by first | exact nomark _ | rfl)))))) (pss_one (ps_ret (pe_cl c__law_leaf hr (by omega) (pa_cons (pv 0) (pa_cons (pv 1) (pa_cons (pv 2) pa_nil)))))) pss_nil)
      (pss_cons (ps_if (pt_cmpR op_eq (pv 4) pe_int (by first | exact nomark _ | rfl)) (pss_one (ps_ret (pe_tup (pa_cons pe_str (pa_cons (pe_cl c__law_sieve hr (by omega) (pa_cons (pv 0) (pa_cons (pv 1) (pa_cons (pv 2) (pa_cons (pe_op op_sub (pv 3) pe_int) pa_nil))))) pa_nil))))) pss_nil)
      (pss_cons (ps_set (i := 5) sc__law_sieve.nd rfl (by first | exact Or.inl rfl | exact Or.inr rfl) (pe_lst pa_nil))
      (pss_cons (ps_for PassesOwn.never rfl (pi_range1 (by rfl) T.n_range (pa_cons (pe_cl c__law_draw hr (by omega) (pa_cons (pv 0) (pa_cons (pe_ifExp (pt_cmpR op_eq (pe_cl c__law_draw hr (by omega) (pa_cons (pv 0) (pa_cons pe_int pa_nil))) pe_int (by first | exact nomark _ | rfl)) pe_int pe_int) pa_nil))) pa_nil)) (pg_name (i := 6) sc__law_sieve.nd rfl (by first | exact Or.inl rfl | exact Or.inr rfl)) (pss_one (ps_if (pt_cmpR op_gt (pe_ix ix_list (pv 1) pe_int (fun _ _ => rfl)) pe_int (by first | exact nomark _ | rfl)) (pss_one (ps_expr (pe_bm PySem.F.plainAttrs_list PySem.F.slot_list_append PySem.F.type_list_append mt_append (pv 5) (pa_cons (pe_cl c__law_sieve hr (by omega) (pa_cons (pv 0) (pa_cons (pv 1) (pa_cons (pv 2) (pa_cons (pe_op op_sub (pv 3) pe_int) pa_nil))))) pa_nil)))) pss_nil)))
      (pss_one (ps_ret (pe_tup (pa_cons (pe_ix ix_list (pe_lst (pa_cons pe_str (pa_cons pe_str pa_nil))) (pe_op op_mod (pe_callTy call_int1 (by rfl) T.n_int (by decide +kernel) (pa_cons (pv 4) pa_nil)) pe_int) (fun _ _ => rfl)) (pa_cons (pe_callTy call_tuple_of (by rfl) T.n_tuple (by decide +kernel) (pa_cons (pv 5) pa_nil)) pa_nil))))))))))), ?_⟩
    have one : b ∈ [b] := List.mem_singleton.mpr rfl
    have cp := cst_pos j
    refine ⟨_, rfl, r, _, 0, .int r0, rfl, rfl, SqL.of s0.room, rfl, _, _, rfl, rfl, _, rfl, r, _, 0, 0, rfl, rfl, s0.room, rfl, ?_⟩
    have S1 : Stp [b, r, p] H (upd H r (.lst ([.int r0, .int r1].set 0 (.int (r0 - 1))))) := Stp.put (by simp)
    have s1 : Sto (upd H r (.lst ([.int r0, .int r1].set 0 (.int (r0 - 1))))) b r p n (r0 - 1) r1 ls :=
      ⟨s0.bag.upd s0.br, upd_same, ⟨by rw [upd_ne s0.rp.symm]; exact s0.pool.1, s0.pool.2⟩, s0.br, s0.bp, s0.rp, s0.pos, s0.few⟩
    refine ⟨_, rfl, b, 6, n, rfl, s1.bag, by omega, by decide, by decide, fun way H2 w0 w1 o2 B2 => ?_⟩
    have S2 := S1.trans ((o2.stp one).sub b_in)
    have s2 := s1.draw (o2.stp one) B2
    refine MonoT.cut (t := tOr _ _) (MonoT.or (MonoT.test (Mono.op' MonoR.i0 Mono.var Mono.c)) (MonoT.or (MonoT.test (Mono.op' MonoR.i0 (Mono.op' MonoR.ixL Mono.var Mono.c) Mono.c)) (MonoT.test (Mono.op' MonoR.i0 Mono.var Mono.c))))
      (fun c H' => H' = H2 ∧ (c = true ∨ (2 ≤ j ∧ way ≤ 3))) ?_ ?_
    · refine ⟨_, rfl, _, _, rfl, rfl, _, rfl, ite2 (fun h1 => ⟨rfl, .inl rfl⟩) (fun h1 => ?_)⟩
      refine ⟨_, rfl, r, _, 0, .int (r0 - 1), rfl, rfl, SqL.of s2.room, rfl, _, _, rfl, rfl, _, rfl, ite2 (fun h2 => ⟨rfl, .inl rfl⟩) (fun h2 => ?_)⟩
      refine ⟨_, rfl, _, _, rfl, rfl, _, rfl, rfl, ?_⟩
      by_cases h3 : 3 < way
      · exact .inl (decide_eq_true h3)
      · have : ¬ (j : Int) < 2 := fun e => h1 (decide_eq_true e)
        exact .inr ⟨by omega, by omega⟩
    rintro c H' ⟨rfl, hc⟩
    refine ite2 (fun ec => ?_) (fun ec => ?_)
    · refine ⟨_, rfl, _, rfl, _, rfl, b, r, p, n + 1, _, _, ls, rfl, s2, by omega, fun v H3 r1' ls' md S3 s3 => ?_⟩
      obtain ⟨d, rd, fd', dd⟩ := md
      exact k v H3 _ r1' ls' ⟨d, rd, fd', by omega⟩ (S2.trans S3) ⟨s3.bag.mono (by omega), s3.room, s3.pool, s0.br, s0.bp, s0.rp, s3.pos, s3.few⟩
    obtain ⟨j2, w3⟩ := hc.resolve_left ec
    obtain ⟨i, rfl⟩ : ∃ i, j = i + 1 := ⟨j - 1, by omega⟩
    have ec2 : cst (i + 1) = 2000 + 12 * cst i := rfl
    refine ⟨_, rfl, rfl, _, rfl, ite2 (fun h1 => ?_) (fun h1 => ?_)⟩
    · refine ⟨_, rfl, _, rfl, _, rfl, _, rfl, _, _, rfl, rfl, b, r, p, n + 1, _, _, ls, i, ?_, by omega, s2, by omega, fun v H3 r0' r1' ls' md S3 s3 => ?_⟩
      · have : ((i + 1 : Nat) : Int) - 1 = (i : Int) := by omega
        show [V.ref b, V.ref r, V.ref p, V.int (((i + 1 : Nat) : Int) - 1)] = _
        rw [this]
      · obtain ⟨d, rd, fd', dd⟩ := md
        refine ⟨(by show 2 ≤ sizeLine; decide), fun t nt => ?_⟩
        refine k _ _ r0' r1' ls' ⟨.tup [.str ("not" : Str).cps.toList, d], .tup (SqT.of upd_same) (by simp) (.cons (Rp.lit _) (.cons (rd.stp (Stp.new nt []) Lsts.nil) .nil)), .not fd', ?_⟩ ((S2.trans S3).new' nt) ?_
        · simp [Dt.dep, Dt.depL]
          omega
        · have s4 := s3.fresh (o := .tup [.str "not", v]) nt
          exact ⟨s4.bag.mono (by omega), s4.room, s4.pool, s0.br, s0.bp, s0.rp, s4.pos, s4.few⟩
    refine ⟨Nat.zero_le _, fun W nW => ?_⟩
    have hx := s2.lsts
    have wne : ∀ q, q ∈ [b, r, p] → W ≠ q := fun q mq e => by
      obtain ⟨xs, ex⟩ := hx q mq
      rw [← e, nW] at ex
      cases ex
    have wb : W ≠ b := wne b (by simp)
    have wr : W ≠ r := wne r (by simp)
    have wp : W ≠ p := wne p (by simp)
    have wS : W ∉ [b, r, p] := fun q => wne W q rfl
    have nW0 : H W = none := S2.fresh wS nW
    have s3 := s2.fresh (o := .lst []) nW
    refine ⟨_, rfl, _, rfl, b, 8, n + 1, rfl, s3.bag, by omega, by decide, by decide, fun d3 H4 d30 d31 o4 B4 => ?_⟩
    refine ⟨rfl, _, rfl, ite_tC fun wd hw => ?_⟩
    obtain ⟨u, rfl, u0, u1⟩ : ∃ u, wd = .int u ∧ 4 ≤ u ∧ u ≤ 12 := by
      rcases hw with rfl | rfl
      · exact ⟨12, rfl, by decide, by decide⟩
      · exact ⟨4, rfl, by decide, by decide⟩
    refine ⟨b, u, n + 2, rfl, B4, by omega, by omega, by omega, fun z H5 z0 z1 o5 B5 => ?_⟩
    have S3 : Stp [b, r, p] H (upd _ W (.lst [])) := S2.new' nW
    have S5 := (S3.trans ((o4.stp one).sub b_in)).trans ((o5.stp one).sub b_in)
    have s5 := (s3.draw (o4.stp one) B4).draw (o5.stp one) B5
    have hW5 : H5 W = some (.lst []) := o5.at (o4.at upd_same wb) wb
    refine ⟨z, rfl, by omega, by omega, for_range (lo := 0) (n := z.toNat) (fun q σ H6 => ∃ (xs : List V) (ds : List Dt) (r0' r1' : Int) (ls' : List (List Nat)) (x : Option V), xs.length ≤ q ∧ RpL K H6 xs ds ∧ (∀ d ∈ ds, Flt d ∧ d.dep ≤ 2 * i + 2) ∧
      σ = [some (.ref b), some (.ref r), some (.ref p), some (.int ((i + 1 : Nat) : Int)), some (.int way), some (.ref W), x] ∧ H6 W = some (.lst xs) ∧ Stp [b, r, p] H H6 ∧ Sto H6 b r p (n + 3 + cst i * q) r0' r1' ls')
      ⟨[], [], _, _, ls, none, Nat.le_refl _, .nil, fun d q => (nomatch q), rfl, hW5, S5, s5⟩ ?_ ?_⟩
    · rintro q σ H6 hq ⟨xs, ds, r0', r1', ls', x, hl, rl, hf, rfl, hW, S6, s6⟩
      have hq11 : cst i * q ≤ cst i * 10 := Nat.mul_le_mul_left _ (by omega)
      refine ⟨_, rfl, r, _, 0, .int r0', rfl, rfl, SqL.of s6.room, rfl, _, _, rfl, rfl, _, rfl, ite2 (fun h2 => ?_) (fun h2 => ?_)⟩
      · refine ⟨_, rfl, .inl ⟨rfl, _, SqL.of hW⟩, _, rfl, _, rfl, _, rfl, _, rfl, _, _, rfl, rfl, b, r, p, _, _, _, ls', i, ?_, by omega, s6, ?_, fun v H7 r0'' r1'' ls'' md S7 s7 => ?_⟩
        · have : ((i + 1 : Nat) : Int) - 1 = (i : Int) := by omega
          show [V.ref b, V.ref r, V.ref p, V.int (((i + 1 : Nat) : Int) - 1)] = _
          rw [this]
        · have : cst i * q + cst i ≤ cst i * 12 := by
            have : cst i * (q + 1) ≤ cst i * 12 := Nat.mul_le_mul_left _ (by omega)
            rwa [Nat.mul_add, Nat.mul_one] at this
          omega
        · obtain ⟨d, rd, fd', dd⟩ := md
          have hW7 : H7 W = some (.lst xs) := S7.kp _ _ wS hW
          have lW : Lsts H7 [W] := .one hW7
          have S8 : Stp [W] H7 (upd H7 W (.lst (xs ++ [v]))) := Stp.put (by simp)
          refine ⟨W, _, _, rfl, rfl, hW7, Nat.lt_of_lt_of_le (show xs.length < 100000 by omega) (by decide), ?_⟩
          refine ⟨xs ++ [v], ds ++ [d], r0'', r1'', ls'', _, by simp; omega, ?_, fun e me => ?_, rfl, upd_same, (S6.trans S7).mut nW0, ?_⟩
          · exact (rl.stp S7 s6.lsts |>.stp S8 lW).app (.cons (rd.stp S8 lW) .nil)
          · rcases List.mem_append.mp me with me | me
            · exact hf e me
            · rw [List.mem_singleton.mp me]
              exact ⟨fd', dd⟩
          · refine ⟨(s7.bag.upd wb.symm).mono ?_, by rw [upd_ne wr.symm]; exact s7.room, ⟨by rw [upd_ne wp.symm]; exact s7.pool.1, s7.pool.2⟩, s0.br, s0.bp, s0.rp, s7.pos, s7.few⟩
            rw [Nat.mul_add, Nat.mul_one]
            omega
      · refine ⟨xs, ds, r0', r1', ls', _, by omega, rl, hf, rfl, hW, S6, ⟨s6.bag.mono ?_, s6.room, s6.pool, s0.br, s0.bp, s0.rp, s6.pos, s6.few⟩⟩
        rw [Nat.mul_add]
        omega
    · rintro σ H6 ⟨xs, ds, r0', r1', ls', x, hl, rl, hf, rfl, hW, S6, s6⟩
      have bud : cst i * z.toNat ≤ cst i * 12 := Nat.mul_le_mul_left _ (by omega)
      refine ⟨(by show 2 ≤ sizeLine; decide), fun q nq => ?_⟩
      obtain ⟨v, mv, ev⟩ := pick (xs := ([.str "and", .str "or"] : List V)) (d := way % 2) (by omega) (by simp; omega)
      have S7 : Stp [] H6 (upd H6 q (.lst [.str "and", .str "or"])) := Stp.new nq _
      have hq : (upd H6 q (.lst [.str "and", .str "or"])) W = some (.lst xs) := S7.kp _ _ (fun m => nomatch m) hW
      refine ⟨_, rfl, .inl ⟨_, rfl, _, _, rfl, rfl, (by show (0 : Int) < 2; decide), q, _, way % 2, v, rfl, rfl, SqL.of upd_same, ev, ?_⟩⟩
      obtain ⟨wd, rfl, hwd⟩ : ∃ wd : Str, v = .str wd ∧ (wd = "and" ∨ wd = "or") := by
        simp at mv
        rcases mv with rfl | rfl
        · exact ⟨_, rfl, .inl rfl⟩
        · exact ⟨_, rfl, .inr rfl⟩
      have lw : wd.cps.toList.length ≤ 100000 := by
        rcases hwd with rfl | rfl <;> decide +kernel
      refine ⟨_, rfl, W, _, rfl, .inl ⟨SqL.of hq, fun t nt => ⟨(by show 2 ≤ sizeLine; decide), fun t2 nt2 => ?_⟩⟩⟩
      have ntt : t ≠ t2 := ne_of_none upd_same nt2
      have S8 := Stp.new (o := .tup xs) nt []
      have S9 := Stp.new (o := .tup [.str wd, .ref t]) nt2 []
      refine k _ _ r0' r1' ls' ⟨.tup [.str wd.cps.toList, .tup ds], .tup (SqT.of upd_same) (by simp) (.cons (Rp.lit wd lw) (.cons (.tup (SqT.of (Eq.trans (upd_ne ntt) upd_same)) (by omega) ?_) .nil)), .many hwd fun d md => (hf d md).1, ?_⟩ (((S6.new' nq).new' nt).new' nt2) ?_
      · exact (((rl.stp S7 Lsts.nil).stp S8 Lsts.nil).stp S9 Lsts.nil)
      · have : Dt.depL ds ≤ 2 * i + 2 := Dt.depL_le fun d md => (hf d md).2
        simp [Dt.dep, Dt.depL]
        omega
      · have s9 := ((s6.fresh (o := .lst [.str "and", .str "or"]) nq).fresh (o := .tup xs) nt).fresh (o := .tup [.str wd, .ref t]) nt2
        exact ⟨s9.bag.mono (by omega), s9.room, s9.pool, s0.br, s0.bp, s0.rp, s9.pos, s9.few⟩
theorem cl__law_sieve {f : Addr} {fd : FuncData} (D : Df K mg "_law_sieve" s__law_sieve ["bag", "room", "pool", "levels"] f fd) (T : Nm mg) (c__law_draw : Cl P w K mg base 1 "_law_draw" s__law_draw ["bag", "upto"] spDraw)
    (c__law_leaf : Cl P w K mg base 4 "_law_leaf" s__law_leaf ["bag", "room", "pool"] (spLeaf K)) : ∀ lv : Nat, Cl P w K mg base (4 + lv) "_law_sieve" s__law_sieve ["bag", "room", "pool", "levels"] (spSieve K lv)
  | 0 => cl_never D (fun vs H Q E ⟨b, r, p, n, r0, r1, ls, j, _, hj, _⟩ => Nat.not_lt_zero _ hj) _
  | lv + 1 => sieve_step D T c__law_draw c__law_leaf (Nat.le_add_right 4 lv) (cl__law_sieve D T c__law_draw c__law_leaf lv)
abbrev s_is_value : Stmt := topS 9
abbrev N_is_value : List Str := ["value"]
theorem sc_is_value : FnScope ["value"] ["value"] (defScope s_is_value) := ⟨rfl, rfl, rfl, by decide +kernel, rfl, by decide +kernel, by decide +kernel⟩

abbrev s_check_value : Stmt := topS 12
abbrev N_check_value : List Str := ["value"]
theorem sc_check_value : FnScope ["value"] ["value"] (defScope s_check_value) := ⟨rfl, rfl, rfl, by decide +kernel, rfl, by decide +kernel, by decide +kernel⟩

abbrev s_check_filter : Stmt := topS 13
abbrev N_check_filter : List Str := ["query"]
theorem sc_check_filter : FnScope ["query"] ["query"] (defScope s_check_filter) := ⟨rfl, rfl, rfl, by decide +kernel, rfl, by decide +kernel, by decide +kernel⟩

abbrev s_check_column : Stmt := topS 14
abbrev N_check_column : List Str := ["column", "value"]
theorem sc_check_column : FnScope ["column", "value"] ["column"] (defScope s_check_column) := ⟨rfl, rfl, rfl, by decide +kernel, rfl, by decide +kernel, by decide +kernel⟩

abbrev s_yes_or_no : Stmt := topS 17
abbrev N_yes_or_no : List Str := ["holds"]
theorem sc_yes_or_no : FnScope ["holds"] ["holds"] (defScope s_yes_or_no) := ⟨rfl, rfl, rfl, by decide +kernel, rfl, by decide +kernel, by decide +kernel⟩

abbrev s_settled : Stmt := topS 18
abbrev N_settled : List Str := ["answers", "deciding", "otherwise"]
theorem sc_settled : FnScope ["answers", "deciding", "otherwise"] ["answers", "deciding", "otherwise"] (defScope s_settled) := ⟨rfl, rfl, rfl, by decide +kernel, rfl, by decide +kernel, by decide +kernel⟩

abbrev s_matches : Stmt := topS 19
abbrev N_matches : List Str := ["word", "wanted", "text"]
theorem sc_matches : FnScope ["word", "wanted", "text"] ["word", "wanted", "text"] (defScope s_matches) := ⟨rfl, rfl, rfl, by decide +kernel, rfl, by decide +kernel, by decide +kernel⟩

/-! ### values, checks -/
abbrev Vl := Option (List Nat)
def oV : Vl → V
  | none => .non
  | some l => Tx l
/-- a value of the document, short enough -/
def OkV (t : Vl) : Prop := ∀ l, t = some l → Abc l ∧ l.length ≤ 100
def spIsV : Sp := fun vs H Q _ => ∃ t : Vl, vs = [oV t] ∧ OkV t ∧ Q (.bl true) H
theorem cl_is_value {f : Addr} {fd : FuncData} (D : Df K mg "is_value" s_is_value ["value"] f fd) (T : Nm mg) (c_is_text : Cl P w K mg base 1 "is_text" s_is_text ["value"] (spIsText K)) : Cl P w K mg base 2 "is_value" s_is_value ["value"] spIsV := by
  refine D.cl sc_is_value (fun vs H Q E h => ?_) (fun cdv A outer s H vs Q E hr h => ?_)
  · obtain ⟨t, rfl, _⟩ := h
    rfl
  · obtain ⟨t, rfl, ok, k⟩ := h
    refine ⟨_, (pss_one (ps_ret (pe_or (pe_cmpR op_isN (pv 0) pe_non (by first | exact nomark _ | rfl)) (pe_one (pe_cl c_is_text hr (by omega) (pa_cons (pv 0) pa_nil)))))), ?_⟩
    cases t with
    | none => exact ⟨_, rfl, rfl, _, rfl, k⟩
    | some l =>
      refine ⟨_, rfl, rfl, _, rfl, ?_⟩
      refine ⟨_, rfl, _, .str l, rfl, .str l (by have := (ok l rfl).2; omega), fun b hb => ?_⟩
      rw [hb.mpr ⟨l, rfl, (ok l rfl).1⟩]
      exact k
def spCkV : Sp := fun vs H Q _ => ∃ t : Vl, vs = [oV t] ∧ OkV t ∧ Q .non H
theorem cl_check_value {f : Addr} {fd : FuncData} (D : Df K mg "check_value" s_check_value ["value"] f fd) (T : Nm mg) (c_is_value : Cl P w K mg base 2 "is_value" s_is_value ["value"] spIsV) : Cl P w K mg base 3 "check_value" s_check_value ["value"] spCkV := by
  refine D.cl sc_check_value (fun vs H Q E h => ?_) (fun cdv A outer s H vs Q E hr h => ?_)
  · obtain ⟨t, rfl, _⟩ := h
    rfl
  · obtain ⟨t, rfl, ok, k⟩ := h
    refine ⟨_, (pss_one (ps_if (pt_not (pt_val (pe_cl c_is_value hr (by omega) (pa_cons (pv 0) pa_nil)))) (pss_one ps_never) pss_nil)), ?_⟩
    exact ⟨_, rfl, t, rfl, ok, _, rfl, ite2 (fun h => absurd h (by decide)) (fun _ => k)⟩
def spCkF (K : PySem.W.Frag) (n : Nat) : Sp := fun vs H Q _ => ∃ v d, vs = [v] ∧ Rp K H v d ∧ d.dep < n ∧ Flt d ∧ ∀ H', Stp [] H H' → Q .non H'
theorem cl_check_filter {f : Addr} {fd : FuncData} {n m : Nat} (D : Df K mg "check_filter" s_check_filter ["query"] f fd) (T : Nm mg) (c_is_filter : Cl P w K mg base m "is_filter" s_is_filter ["value"] (spIsF K n)) : Cl P w K mg base (m + 1) "check_filter" s_check_filter ["query"] (spCkF K n) := by
  refine D.cl sc_check_filter (fun vs H Q E h => ?_) (fun cdv A outer s H vs Q E hr h => ?_)
  · obtain ⟨v, d, rfl, _⟩ := h
    rfl
  · obtain ⟨v, d, rfl, r, dp, fl, k⟩ := h
    refine ⟨_, (pss_one (ps_if (pt_not (pt_val (pe_cl c_is_filter hr (by omega) (pa_cons (pv 0) pa_nil)))) (pss_one ps_never) pss_nil)), ?_⟩
    refine ⟨_, rfl, v, d, rfl, r, dp, fun b H1 hb S1 => ?_⟩
    rw [hb.mpr fl]
    exact ⟨_, rfl, ite2 (fun h => absurd h (by decide)) (fun _ => k H1 S1)⟩
def spCkC (K : PySem.W.Frag) : Sp := fun vs H Q _ => ∃ (a : Addr) (ts : List Vl), vs = [.ref a] ∧ H a = some (.lst (ts.map oV)) ∧ (∀ t ∈ ts, OkV t) ∧ ts.length ≤ 100 ∧ ∀ H', Stp [] H H' → Q .non H'
theorem cl_check_column {f : Addr} {fd : FuncData} (D : Df K mg "check_column" s_check_column ["column"] f fd) (T : Nm mg) (c_is_value : Cl P w K mg base 2 "is_value" s_is_value ["value"] spIsV) : Cl P w K mg base 3 "check_column" s_check_column ["column"] (spCkC K) := by
  refine D.cl sc_check_column (fun vs H Q E h => ?_) (fun cdv A outer s H vs Q E hr h => ?_)
  · obtain ⟨a, ts, rfl, _⟩ := h
    rfl
  · obtain ⟨a, ts, rfl, hs, ok, few, k⟩ := h
    refine ⟨_, (pss_one (ps_if (PW.pt (pw_or (pt_tyNot (T := "list") Mono.var (pv 0) T.n_type T.n_list (by decide +kernel)) (pw_or1 (pt_not (pt_val (pe_callB (cr_all rfl) (by rfl) T.n_all (by decide +kernel) (pa_cons (pe_lc (own := [("value", 1)]) rfl sc_check_column.nd (pi_list (pv 0)) (blkOk_by (own := [("value", 1)]) (N := N_check_column) (sc := defScope s_check_column) (by decide +kernel)) (fun _ _ _ _ _ => (pg_name (i := 1) sc_check_column.nd rfl (by first | exact Or.inl rfl | exact Or.inr rfl))) (fun _ _ _ _ _ => pts_nil) (fun _ _ _ _ _ => (pe_cl c_is_value hr (by omega) (pa_cons (pv 1) pa_nil)))) pa_nil))))))) (pss_one ps_never) pss_nil)), ?_⟩
    refine ⟨_, rfl, .lst, .lst hs, ?_⟩
    refine ite2 (fun h => absurd h (by simp [Dt.ty])) (fun _ => ?_)
    refine ⟨_, rfl, a, rfl, ⟨_, SqL.of hs⟩, fun L nL => ?_⟩
    refine lc_mapL (ds := ts.map fun _ => Dt.bl true) nL (SqL.of hs) (by simp) (by rw [List.length_map]; omega) (fun j x d H1 hx hd S1 Q2 q => ?_) fun ws H1 S1 h1 r1 => ?_
    · rw [List.getElem?_map] at hx hd
      cases e : ts[j]? with
      | none => rw [e] at hx; cases hx
      | some t =>
        rw [e] at hx hd
        cases hx
        cases hd
        exact ⟨rfl, _, rfl, t, rfl, ok t (List.mem_of_getElem? e), q _ _ (Stp.refl _ _) (.bl _)⟩
    have e1 : ws = (ts.map fun _ => true).map V.bl := rpl_bls (by rw [List.map_map]; exact r1)
    subst e1
    refine ⟨L, _, rfl, SqL.of h1, ?_⟩
    rw [show (ts.map fun _ => true).all id = true by simp]
    exact ⟨_, rfl, k H1 S1⟩
def spYes : Sp := fun vs H Q _ => ∃ b : Bool, vs = [.bl b] ∧ Q (.str (if b then "yes" else "no")) H
theorem cl_yes_or_no {f : Addr} {fd : FuncData} (D : Df K mg "yes_or_no" s_yes_or_no ["holds"] f fd) (T : Nm mg) : Cl P w K mg base 1 "yes_or_no" s_yes_or_no ["holds"] spYes := by
  refine D.cl sc_yes_or_no (fun vs H Q E h => ?_) (fun cdv A outer s H vs Q E hr h => ?_)
  · obtain ⟨b, rfl, _⟩ := h
    rfl
  · obtain ⟨b, rfl, k⟩ := h
    refine ⟨_, (pss_one (ps_ret (pe_ifExp (pt_val (pv 0)) pe_str pe_str))), ?_⟩
    cases b <;> exact ⟨_, rfl, _, rfl, k⟩
def spSet (K : PySem.W.Frag) : Sp := fun vs H Q _ => ∃ (a : Addr) (ws : List Str) (x y : Str), vs = [.ref a, .str x, .str y] ∧ SqL K H a (ws.map V.str) ∧ Q (.str (if x ∈ ws then x else if ("open" : Str) ∈ ws then "open" else y)) H
theorem cl_settled {f : Addr} {fd : FuncData} (D : Df K mg "settled" s_settled ["answers", "deciding", "otherwise"] f fd) (T : Nm mg) : Cl P w K mg base 1 "settled" s_settled ["answers", "deciding", "otherwise"] (spSet K) := by
  refine D.cl sc_settled (fun vs H Q E h => ?_) (fun cdv A outer s H vs Q E hr h => ?_)
  · obtain ⟨a, ws, x, y, rfl, _⟩ := h
    rfl
  · obtain ⟨a, ws, x, y, rfl, hs, k⟩ := h
    refine ⟨_, (pss_cons (ps_if (pt_cmpR op_in_seq (pv 1) (pv 0) (by first | exact nomark _ | rfl)) (pss_one (ps_ret (pv 1))) pss_nil)
      (pss_one (ps_ret (pe_ifExp (pt_cmpR op_in_seq pe_str (pv 0) (by first | exact nomark _ | rfl)) pe_str (pv 2))))), ?_⟩
    have fl : ∀ ws : List Str, (ws.map V.str).all flatV = true := fun ws => by simp [flatV]
    refine ⟨_, rfl, _, rfl, a, _, rfl, .inl hs, rfl, fl ws, _, rfl, ?_⟩
    rw [inV_str]
    refine ite2 (fun h => ?_) (fun h => ?_)
    · rw [if_pos (of_decide_eq_true h)] at k
      exact ⟨_, rfl, k⟩
    · rw [if_neg (fun g => h (decide_eq_true g))] at k
      refine ⟨_, rfl, a, _, rfl, .inl hs, rfl, fl ws, _, rfl, ?_⟩
      rw [inV_str]
      refine ite2 (fun h2 => ?_) (fun h2 => ?_)
      · rw [if_pos (of_decide_eq_true h2)] at k
        exact k
      · rw [if_neg (fun g => h2 (decide_eq_true g))] at k
        exact ⟨_, rfl, k⟩
/-! ### what a value answers -/
/-- by the word of a filter of one text -/
def fits (w : Str) (y x : List Nat) : Bool :=
  if w = "is" then decide (x = y) else if w = "below" then decide (x < y) else if w = "above" then decide (y < x) else decide (x.take y.length = y)
theorem starts_tx (x y : List Nat) : Txt.startswith (tx x) (tx y) = decide (x.take y.length = y) := by
  have e : Txt.startswith (tx x) (tx y) = (decide (0 + (tx y).length ≤ (tx x).length) && Builtin.Str.subAt (tx x) (tx y) 0) := rfl
  have e2 : Builtin.Str.subAt (tx x) (tx y) 0 = decide (x.take y.length = y) := by
    rw [PySem.StrLaws.subAt_eq, tx_len]
    show ((x.drop 0).take y.length == y) = _
    rw [List.drop_zero]
    by_cases h : x.take y.length = y
    · rw [decide_eq_true h]
      exact beq_iff_eq.mpr h
    · rw [decide_eq_false h]
      exact beq_eq_false_iff_ne.mpr h
  rw [e, e2, tx_len, tx_len]
  by_cases h : x.take y.length = y
  · have : y.length ≤ x.length := by
      have := congrArg List.length h
      rw [List.length_take] at this
      omega
    rw [decide_eq_true (by omega : 0 + y.length ≤ x.length), Bool.true_and]
  · rw [decide_eq_false h, Bool.and_false]
theorem eq_tx (x y : List Nat) : decide (Tx x = Tx y) = decide (x = y) := by
  by_cases h : x = y
  · rw [h, decide_eq_true rfl, decide_eq_true rfl]
  · rw [decide_eq_false h, decide_eq_false fun e => h (tx_inj (V.str.inj e))]
/-- the text or texts behind the word, and the one that is asked -/
def spMat (K : PySem.W.Frag) : Sp := fun vs H Q _ =>
  (∃ (w : Str) (y x : List Nat), vs = [.str w, Tx y, Tx x] ∧ (w = "is" ∨ w = "below" ∨ w = "above" ∨ w = "begins") ∧ Q (.bl (fits w y x)) H) ∨
  ∃ (a : Addr) (ys : List (List Nat)) (x : List Nat), vs = [.str "among", .ref a, Tx x] ∧ SqT K H a (ys.map Tx) ∧ Q (.bl (decide (x ∈ ys))) H
theorem cl_matches {f : Addr} {fd : FuncData} (D : Df K mg "matches" s_matches ["word", "wanted", "text"] f fd) (T : Nm mg) : Cl P w K mg base 1 "matches" s_matches ["word", "wanted", "text"] (spMat K) := by
  refine D.cl sc_matches (fun vs H Q E h => ?_) (fun cdv A outer s H vs Q E hr h => ?_)
  · rcases h with ⟨w, y, x, rfl, _⟩ | ⟨a, ys, x, rfl, _⟩ <;> rfl
  · have no : ∀ {p : Prop} {a b : Str}, decide (V.str a = V.str b) = true → (a = b → False) → p := fun h n => absurd (V.str.inj (of_decide_eq_true h)) n
    have ne : ∀ {a b : Str}, ¬ decide (V.str a = V.str b) = true → a ≠ b := fun h n => h (decide_eq_true (congrArg V.str n))
    refine ⟨_, (pss_cons (ps_if (pt_cmpR op_eq (pv 0) pe_str (by first | exact nomark _ | rfl)) (pss_one (ps_ret (pe_cmpR op_eq (pv 2) (pv 1) (by first | exact nomark _ | rfl)))) pss_nil)
      (pss_cons (ps_if (pt_cmpR op_eq (pv 0) pe_str (by first | exact nomark _ | rfl)) (pss_one (ps_ret (pe_cmpR op_lt_str (pv 2) (pv 1) (by first | exact nomark _ | rfl)))) pss_nil)
      (pss_cons (ps_if (pt_cmpR op_eq (pv 0) pe_str (by first | exact nomark _ | rfl)) (pss_one (ps_ret (pe_cmpR op_gt_str (pv 2) (pv 1) (by first | exact nomark _ | rfl)))) pss_nil)
      (pss_cons (ps_if (pt_cmpR op_eq (pv 0) pe_str (by first | exact nomark _ | rfl)) (pss_one (ps_ret (pe_bm PySem.F.plainAttrs_str PySem.F.slot_str_startswith PySem.F.type_str_startswith mt_startswith (pv 2) (pa_cons (pv 1) pa_nil)))) pss_nil)
      (pss_one (ps_ret (pe_cmpR op_in_seq (pv 2) (pv 1) (by first | exact nomark _ | rfl)))))))), ?_⟩
    rcases h with ⟨w, y, x, rfl, hw, k⟩ | ⟨a, ys, x, rfl, hs, k⟩
    · refine ⟨_, rfl, rfl, _, rfl, ite2 (fun h => ?_) (fun h => ?_)⟩
      · have e : w = "is" := V.str.inj (of_decide_eq_true h)
        subst e
        refine ⟨_, rfl, _, rfl, rfl, ?_⟩
        rw [show decide (Tx x = Tx y) = fits "is" y x from eq_tx x y]
        exact k
      refine ⟨_, rfl, rfl, _, rfl, ite2 (fun h2 => ?_) (fun h2 => ?_)⟩
      · have e : w = "below" := V.str.inj (of_decide_eq_true h2)
        subst e
        exact ⟨_, rfl, _, rfl, tx x, tx y, rfl, rfl, k⟩
      refine ⟨_, rfl, rfl, _, rfl, ite2 (fun h3 => ?_) (fun h3 => ?_)⟩
      · have e : w = "above" := V.str.inj (of_decide_eq_true h3)
        subst e
        exact ⟨_, rfl, _, rfl, tx x, tx y, rfl, rfl, k⟩
      have e : w = "begins" := by
        rcases hw with e | e | e | e
        · exact absurd e (ne h)
        · exact absurd e (ne h2)
        · exact absurd e (ne h3)
        · exact e
      subst e
      refine ⟨_, rfl, rfl, _, rfl, ite2 (fun _ => ?_) (fun h4 => absurd (decide_eq_true rfl) h4)⟩
      refine ⟨_, rfl, rfl, _, rfl, tx x, tx y, rfl, rfl, ?_⟩
      rw [starts_tx]
      exact k
    · have nf : ∀ {s : Str}, ("among" : Str) ≠ s → ¬ decide (V.str "among" = V.str s) = true := fun n h => n (V.str.inj (of_decide_eq_true h))
      refine ⟨_, rfl, rfl, _, rfl, ite2 (fun h => absurd h (nf (by decide +kernel))) (fun _ => ?_)⟩
      refine ⟨_, rfl, rfl, _, rfl, ite2 (fun h => absurd h (nf (by decide +kernel))) (fun _ => ?_)⟩
      refine ⟨_, rfl, rfl, _, rfl, ite2 (fun h => absurd h (nf (by decide +kernel))) (fun _ => ?_)⟩
      refine ⟨_, rfl, rfl, _, rfl, ite2 (fun h => absurd h (nf (by decide +kernel))) (fun _ => ?_)⟩
      refine ⟨_, rfl, _, rfl, a, _, rfl, .inr hs, rfl, ?_, ?_⟩
      · simp [flatV]
      · have e : inV (Tx x) (ys.map Tx) = decide (x ∈ ys) := by
          have e1 : ys.map Tx = (ys.map tx).map V.str := by rw [List.map_map]; rfl
          rw [e1, show Tx x = V.str (tx x) from rfl, inV_str]
          by_cases h : x ∈ ys
          · rw [decide_eq_true h, decide_eq_true (List.mem_map.mpr ⟨x, h, rfl⟩)]
          · rw [decide_eq_false h, decide_eq_false fun g => ?_]
            obtain ⟨z, hz, ez⟩ := List.mem_map.mp g
            exact h (tx_inj ez ▸ hz)
        show _
        rw [if_neg (by decide), e]
        exact k
abbrev s_answer_to : Stmt := topS 16
abbrev N_answer_to : List Str := ["query", "value", "word", "part"]
theorem sc_answer_to : FnScope ["query", "value", "word", "part"] ["query", "value"] (defScope s_answer_to) := ⟨rfl, rfl, rfl, by decide +kernel, rfl, by decide +kernel, by decide +kernel⟩

/-! ### levels: 0 no, 1 open, 2 yes -/
def bLev (b : Bool) : Int := if b then 2 else 0
def ansW (i : Int) : Str := if i = 0 then "no" else if i = 1 then "open" else "yes"
def eqD (x : List Nat) : Dt → Bool
  | .str y => decide (x = y)
  | _ => false
def levW (f : Dt → Int) (t : Vl) (w : Str) (p : Dt) : Int :=
  if w = "say" then (match p with | .bl b => bLev b | _ => 0)
  else if w = "not" then 2 - f p
  else if w = "and" then (match p with | .tup ds => foldMin (ds.map f) 2 | _ => 0)
  else if w = "or" then (match p with | .tup ds => foldMax (ds.map f) 0 | _ => 0)
  else match t with
    | none => 1
    | some x => if w = "among" then (match p with | .tup ds => bLev (ds.any (eqD x)) | _ => 0) else (match p with | .str y => bLev (fits w y x) | _ => 0)
def levS (f : Dt → Int) (t : Vl) : Dt → Int
  | .tup [_] => bLev (decide (t = none))
  | .tup [.str w, p] => levW f t (tx w) p
  | _ => 0
def lev : Nat → Vl → Dt → Int
  | 0, _, _ => 0
  | n + 1, t, d => levS (lev n t) t d
theorem lev_two (n : Nat) (t : Vl) (w : Str) (p : Dt) : lev (n + 1) t (.tup [.str w.cps.toList, p]) = levW (lev n t) t w p := by
  show levW (lev n t) t (tx w.cps.toList) p = _
  rw [lit_tx]
theorem lev_say (f : Dt → Int) (t : Vl) (b : Bool) : levW f t "say" (.bl b) = bLev b := if_pos rfl
theorem lev_not (f : Dt → Int) (t : Vl) (p : Dt) : levW f t "not" p = 2 - f p := by unfold levW; rw [if_neg (by decide +kernel), if_pos rfl]
theorem lev_and (f : Dt → Int) (t : Vl) (ds : List Dt) : levW f t "and" (.tup ds) = foldMin (ds.map f) 2 := by unfold levW; rw [if_neg (by decide +kernel), if_neg (by decide +kernel), if_pos rfl]
theorem lev_or (f : Dt → Int) (t : Vl) (ds : List Dt) : levW f t "or" (.tup ds) = foldMax (ds.map f) 0 := by unfold levW; rw [if_neg (by decide +kernel), if_neg (by decide +kernel), if_neg (by decide +kernel), if_pos rfl]
/-- a word of texts -/
def TxW (w : Str) : Prop := w ≠ "none" ∧ w ≠ "say" ∧ w ≠ "not" ∧ w ≠ "and" ∧ w ≠ "or"
theorem lev_txn (f : Dt → Int) {w : Str} (h : TxW w) (p : Dt) : levW f none w p = 1 := by
  unfold levW
  rw [if_neg h.2.1, if_neg h.2.2.1, if_neg h.2.2.2.1, if_neg h.2.2.2.2]
theorem lev_txs (f : Dt → Int) {w : Str} (h : TxW w) (g : w ≠ "among") (x y : List Nat) : levW f (some x) w (.str y) = bLev (fits w y x) := by
  unfold levW
  rw [if_neg h.2.1, if_neg h.2.2.1, if_neg h.2.2.2.1, if_neg h.2.2.2.2]
  show (if w = "among" then _ else _) = _
  rw [if_neg g]
theorem txw_among : TxW "among" := ⟨by decide +kernel, by decide +kernel, by decide +kernel, by decide +kernel, by decide +kernel⟩
theorem lev_among (f : Dt → Int) (x : List Nat) (ds : List Dt) : levW f (some x) "among" (.tup ds) = bLev (ds.any (eqD x)) := by
  have h := txw_among
  unfold levW
  rw [if_neg h.2.1, if_neg h.2.2.1, if_neg h.2.2.2.1, if_neg h.2.2.2.2]
  show (if ("among" : Str) = "among" then _ else _) = _
  rw [if_pos rfl]
theorem txw_tx {w : Str} (h : w = "is" ∨ w = "below" ∨ w = "above" ∨ w = "begins") : TxW w ∧ w ≠ "among" := by
  rcases h with rfl | rfl | rfl | rfl <;> exact ⟨⟨by decide +kernel, by decide +kernel, by decide +kernel, by decide +kernel, by decide +kernel⟩, by decide +kernel⟩
theorem ans_b (b : Bool) : (if b then ("yes" : Str) else "no") = ansW (bLev b) := by cases b <;> decide +kernel
theorem rp1 {K : PySem.W.Frag} {H : Hp} {v : V} {w : Str} (r : Rp K H v (.tup [.str w.cps.toList])) : ∃ a, v = .ref a ∧ SqT K H a [.str w] := by
  cases r with
  | tup hs _ rl =>
    cases rl with
    | cons r0 rr =>
      cases rr
      cases r0
      rw [show Tx w.cps.toList = V.str w from congrArg V.str (lit_tx w)] at hs
      exact ⟨_, rfl, hs⟩
theorem rp2 {K : PySem.W.Frag} {H : Hp} {v : V} {w : Str} {p : Dt} (r : Rp K H v (.tup [.str w.cps.toList, p])) : ∃ a u, v = .ref a ∧ SqT K H a [.str w, u] ∧ Rp K H u p := by
  cases r with
  | tup hs _ rl =>
    cases rl with
    | cons r0 rr =>
      cases rr with
      | cons r1 rn =>
        cases rn
        cases r0
        rw [show Tx w.cps.toList = V.str w from congrArg V.str (lit_tx w)] at hs
        exact ⟨_, _, rfl, hs, r1⟩
/-- the turned answers -/
structure Ng (K : PySem.W.Frag) (w : World) (mg : Str → Option Value) where
  TURNED : Addr
  g_TURNED : mg "TURNED" = some (.ref TURNED)
  ny : KDct K w TURNED "yes" (.str "no")
  nn : KDct K w TURNED "no" (.str "yes")
  no : KDct K w TURNED "open" (.str "open")
def In3 (i : Int) : Prop := i = 0 ∨ i = 1 ∨ i = 2
theorem in3_b (b : Bool) : In3 (bLev b) := by cases b <;> simp [bLev, In3]
theorem in3_min : ∀ (r : List Int) (n : Int), In3 n → (∀ x ∈ r, In3 x) → In3 (r.foldl min n)
  | [], _, h, _ => h
  | x :: r, n, h, g => in3_min r _ (by have := g x List.mem_cons_self; unfold In3 at *; omega) fun y m => g y (List.mem_cons_of_mem _ m)
theorem in3_max : ∀ (r : List Int) (n : Int), In3 n → (∀ x ∈ r, In3 x) → In3 (r.foldl max n)
  | [], _, h, _ => h
  | x :: r, n, h, g => in3_max r _ (by have := g x List.mem_cons_self; unfold In3 at *; omega) fun y m => g y (List.mem_cons_of_mem _ m)
theorem in3_fmin {ns : List Int} (h : ∀ x ∈ ns, In3 x) : In3 (foldMin ns 2) := by
  cases ns with
  | nil => exact .inr (.inr rfl)
  | cons n r => exact in3_min r n (h n List.mem_cons_self) fun x m => h x (List.mem_cons_of_mem _ m)
theorem in3_fmax {ns : List Int} (h : ∀ x ∈ ns, In3 x) : In3 (foldMax ns 0) := by
  cases ns with
  | nil => exact .inl rfl
  | cons n r => exact in3_max r n (h n List.mem_cons_self) fun x m => h x (List.mem_cons_of_mem _ m)
theorem in3_turn {i : Int} (h : In3 i) : In3 (2 - i) := by unfold In3 at *; omega
theorem levW_in {f : Dt → Int} (hf : ∀ d, In3 (f d)) (t : Vl) (w : Str) (p : Dt) : In3 (levW f t w p) := by
  have hs : ∀ ds : List Dt, ∀ x ∈ ds.map f, In3 x := fun ds x m => by
    obtain ⟨d, _, rfl⟩ := List.mem_map.mp m
    exact hf d
  unfold levW
  repeat' split
  all_goals first | exact .inl rfl | exact .inr (.inl rfl) | exact in3_b _ | exact in3_turn (hf _) | exact in3_fmin (hs _) | exact in3_fmax (hs _)
theorem lev_in : ∀ (n : Nat) (t : Vl) (d : Dt), In3 (lev n t d)
  | 0, _, _ => .inl rfl
  | n + 1, t, d => by
    show In3 (levS (lev n t) t d)
    unfold levS
    repeat' split
    all_goals first | exact .inl rfl | exact in3_b _ | exact levW_in (lev_in n t) _ _ _
theorem txs_of : ∀ {ds : List Dt}, (∀ d ∈ ds, IsTx d) → ∃ ys : List (List Nat), ds = ys.map Dt.str
  | [], _ => ⟨[], rfl⟩
  | d :: ds, h => by
    obtain ⟨l, rfl, _⟩ := h d List.mem_cons_self
    obtain ⟨ys, rfl⟩ := txs_of (ds := ds) fun d m => h d (List.mem_cons_of_mem _ m)
    exact ⟨l :: ys, rfl⟩
theorem dep_two {a p : Dt} {n : Nat} (h : (Dt.tup [a, p]).dep < n + 1) : p.dep < n := by
  have h1 := Dt.dep_mem (ds := [a, p]) (d := p) (by simp)
  have e : (Dt.tup [a, p]).dep = Dt.depL [a, p] + 1 := rfl
  omega
theorem dep_in {a d : Dt} {ds : List Dt} {n : Nat} (h : (Dt.tup [a, .tup ds]).dep < n + 1) (m : d ∈ ds) : d.dep < n := by
  have h1 := dep_two h
  have h2 := Dt.dep_mem m
  have e : (Dt.tup ds).dep = Dt.depL ds + 1 := rfl
  omega
theorem fold_min : ∀ (r : List Int) (n : Int), (r.foldl min n = n ∨ r.foldl min n ∈ r) ∧ r.foldl min n ≤ n ∧ ∀ x ∈ r, r.foldl min n ≤ x
  | [], n => ⟨.inl rfl, Int.le_refl _, fun _ m => nomatch m⟩
  | x :: r, n => by
    obtain ⟨h1, h2, h3⟩ := fold_min r (min n x)
    show (r.foldl min (min n x) = n ∨ r.foldl min (min n x) ∈ x :: r) ∧ r.foldl min (min n x) ≤ n ∧ ∀ y ∈ x :: r, r.foldl min (min n x) ≤ y
    refine ⟨?_, by omega, fun y m => ?_⟩
    · rcases h1 with h | h
      · by_cases g : n ≤ x
        · exact .inl (by omega)
        · exact .inr (by rw [h, show min n x = x by omega]; exact List.mem_cons_self)
      · exact .inr (List.mem_cons_of_mem _ h)
    · rcases List.mem_cons.mp m with rfl | m
      · omega
      · exact h3 y m
theorem fold_max : ∀ (r : List Int) (n : Int), (r.foldl max n = n ∨ r.foldl max n ∈ r) ∧ n ≤ r.foldl max n ∧ ∀ x ∈ r, x ≤ r.foldl max n
  | [], n => ⟨.inl rfl, Int.le_refl _, fun _ m => nomatch m⟩
  | x :: r, n => by
    obtain ⟨h1, h2, h3⟩ := fold_max r (max n x)
    show (r.foldl max (max n x) = n ∨ r.foldl max (max n x) ∈ x :: r) ∧ n ≤ r.foldl max (max n x) ∧ ∀ y ∈ x :: r, y ≤ r.foldl max (max n x)
    refine ⟨?_, by omega, fun y m => ?_⟩
    · rcases h1 with h | h
      · by_cases g : x ≤ n
        · exact .inl (by omega)
        · exact .inr (by rw [h, show max n x = x by omega]; exact List.mem_cons_self)
      · exact .inr (List.mem_cons_of_mem _ h)
    · rcases List.mem_cons.mp m with rfl | m
      · omega
      · exact h3 y m
theorem fmin_iff {ns : List Int} (h : ∀ x ∈ ns, In3 x) (i : Int) (hi : i = 0 ∨ i = 1) : foldMin ns 2 = i ↔ i ∈ ns ∧ ∀ x ∈ ns, i ≤ x := by
  cases ns with
  | nil => exact ⟨fun e => by have : (2 : Int) = i := e; omega, fun ⟨m, _⟩ => nomatch m⟩
  | cons n r =>
    obtain ⟨h1, h2, h3⟩ := fold_min r n
    have e : foldMin (n :: r) 2 = r.foldl min n := rfl
    rw [e]
    refine ⟨fun g => ?_, fun ⟨m, g⟩ => ?_⟩
    · rw [g] at h1 h2 h3
      refine ⟨?_, fun x m => ?_⟩
      · rcases h1 with h1 | h1
        · rw [h1]; exact List.mem_cons_self
        · exact List.mem_cons_of_mem _ h1
      · rcases List.mem_cons.mp m with rfl | m
        · exact h2
        · exact h3 x m
    · have a1 : r.foldl min n ≤ i := by
        rcases List.mem_cons.mp m with rfl | m
        · exact h2
        · exact h3 i m
      have a2 : i ≤ r.foldl min n := by
        rcases h1 with h1 | h1
        · rw [h1]; exact g n List.mem_cons_self
        · exact g _ (List.mem_cons_of_mem _ h1)
      omega
theorem fmax_iff {ns : List Int} (h : ∀ x ∈ ns, In3 x) (i : Int) (hi : i = 1 ∨ i = 2) : foldMax ns 0 = i ↔ i ∈ ns ∧ ∀ x ∈ ns, x ≤ i := by
  cases ns with
  | nil => exact ⟨fun e => by have : (0 : Int) = i := e; omega, fun ⟨m, _⟩ => nomatch m⟩
  | cons n r =>
    obtain ⟨h1, h2, h3⟩ := fold_max r n
    have e : foldMax (n :: r) 0 = r.foldl max n := rfl
    rw [e]
    refine ⟨fun g => ?_, fun ⟨m, g⟩ => ?_⟩
    · rw [g] at h1 h2 h3
      refine ⟨?_, fun x m => ?_⟩
      · rcases h1 with h1 | h1
        · rw [h1]; exact List.mem_cons_self
        · exact List.mem_cons_of_mem _ h1
      · rcases List.mem_cons.mp m with rfl | m
        · exact h2
        · exact h3 x m
    · have a1 : i ≤ r.foldl max n := by
        rcases List.mem_cons.mp m with rfl | m
        · exact h2
        · exact h3 i m
      have a2 : r.foldl max n ≤ i := by
        rcases h1 with h1 | h1
        · rw [h1]; exact g n List.mem_cons_self
        · exact g _ (List.mem_cons_of_mem _ h1)
      omega
theorem ans_mem {ns : List Int} (h : ∀ x ∈ ns, In3 x) {i : Int} (hi : In3 i) : ansW i ∈ ns.map ansW ↔ i ∈ ns := by
  refine ⟨fun m => ?_, fun m => List.mem_map.mpr ⟨i, m, rfl⟩⟩
  obtain ⟨j, hj, e⟩ := List.mem_map.mp m
  have : j = i := by
    rcases h j hj with rfl | rfl | rfl <;> rcases hi with rfl | rfl | rfl <;> first | rfl | exact absurd e (by decide +kernel)
  rw [← this]
  exact hj
theorem set_min {ns : List Int} (h : ∀ x ∈ ns, In3 x) : (if ("no" : Str) ∈ ns.map ansW then ("no" : Str) else if ("open" : Str) ∈ ns.map ansW then "open" else "yes") = ansW (foldMin ns 2) := by
  have m0 : ("no" : Str) ∈ ns.map ansW ↔ (0 : Int) ∈ ns := ans_mem h (.inl rfl)
  have m1 : ("open" : Str) ∈ ns.map ansW ↔ (1 : Int) ∈ ns := ans_mem h (.inr (.inl rfl))
  by_cases g0 : (0 : Int) ∈ ns
  · rw [if_pos (m0.mpr g0), (fmin_iff h 0 (.inl rfl)).mpr ⟨g0, fun x m => by have := h x m; unfold In3 at this; omega⟩]
    decide +kernel
  · rw [if_neg fun q => g0 (m0.mp q)]
    have n0 : ∀ x ∈ ns, 1 ≤ x := fun x m => by
      have h1 := h x m
      have h2 : x ≠ 0 := fun e => g0 (e ▸ m)
      unfold In3 at h1
      omega
    by_cases g1 : (1 : Int) ∈ ns
    · rw [if_pos (m1.mpr g1), (fmin_iff h 1 (.inr rfl)).mpr ⟨g1, n0⟩]
      decide +kernel
    · rw [if_neg fun q => g1 (m1.mp q)]
      have f0 : foldMin ns 2 ≠ 0 := fun e => g0 ((fmin_iff h 0 (.inl rfl)).mp e).1
      have f1 : foldMin ns 2 ≠ 1 := fun e => g1 ((fmin_iff h 1 (.inr rfl)).mp e).1
      rcases in3_fmin h with e | e | e
      · exact absurd e f0
      · exact absurd e f1
      · rw [e]
        decide +kernel
theorem set_max {ns : List Int} (h : ∀ x ∈ ns, In3 x) : (if ("yes" : Str) ∈ ns.map ansW then ("yes" : Str) else if ("open" : Str) ∈ ns.map ansW then "open" else "no") = ansW (foldMax ns 0) := by
  have m2 : ("yes" : Str) ∈ ns.map ansW ↔ (2 : Int) ∈ ns := ans_mem h (.inr (.inr rfl))
  have m1 : ("open" : Str) ∈ ns.map ansW ↔ (1 : Int) ∈ ns := ans_mem h (.inr (.inl rfl))
  by_cases g0 : (2 : Int) ∈ ns
  · rw [if_pos (m2.mpr g0), (fmax_iff h 2 (.inr rfl)).mpr ⟨g0, fun x m => by have := h x m; unfold In3 at this; omega⟩]
    decide +kernel
  · rw [if_neg fun q => g0 (m2.mp q)]
    have n0 : ∀ x ∈ ns, x ≤ 1 := fun x m => by
      have h1 := h x m
      have h2 : x ≠ 2 := fun e => g0 (e ▸ m)
      unfold In3 at h1
      omega
    by_cases g1 : (1 : Int) ∈ ns
    · rw [if_pos (m1.mpr g1), (fmax_iff h 1 (.inl rfl)).mpr ⟨g1, n0⟩]
      decide +kernel
    · rw [if_neg fun q => g1 (m1.mp q)]
      have f0 : foldMax ns 0 ≠ 2 := fun e => g0 ((fmax_iff h 2 (.inr rfl)).mp e).1
      have f1 : foldMax ns 0 ≠ 1 := fun e => g1 ((fmax_iff h 1 (.inl rfl)).mp e).1
      rcases in3_fmax h with e | e | e
      · rw [e]
        decide +kernel
      · exact absurd e f1
      · exact absurd e f0
def spAns (K : PySem.W.Frag) (n : Nat) : Sp := fun vs H Q _ => ∃ (v : V) (d : Dt) (t : Vl), vs = [v, oV t] ∧ Rp K H v d ∧ Flt d ∧ d.dep < n ∧ OkV t ∧ ∀ H', Stp [] H H' → Q (.str (ansW (lev n t d))) H'
theorem ans_step {f : Addr} {fd : FuncData} (D : Df K mg "answer_to" s_answer_to ["query", "value"] f fd) (T : Nm mg) (TG : Ng K w mg) {n m : Nat} (hm : 1 ≤ m) (c_yes_or_no : Cl P w K mg base 1 "yes_or_no" s_yes_or_no ["holds"] spYes) (c_settled : Cl P w K mg base 1 "settled" s_settled ["answers", "deciding", "otherwise"] (spSet K))
    (c_matches : Cl P w K mg base 1 "matches" s_matches ["word", "wanted", "text"] (spMat K)) (c_answer_to : Cl P w K mg base m "answer_to" s_answer_to ["query", "value"] (spAns K n)) : Cl P w K mg base (m + 1) "answer_to" s_answer_to ["query", "value"] (spAns K (n + 1)) := by
  refine D.cl sc_answer_to (fun vs H Q E h => ?_) (fun cdv A outer s H vs Q E hr h => ?_)
  · obtain ⟨v, d, t, rfl, _⟩ := h
    rfl
  · obtain ⟨v, d, t, rfl, r, fl, dp, ok, k⟩ := h
    refine ⟨_, (pss_cons (ps_set (i := 2) sc_answer_to.nd rfl (by first | exact Or.inl rfl | exact Or.inr rfl) (pe_ix ix_tup (pv 0) pe_int (fun _ _ => rfl)))
      (pss_cons (ps_if (pt_cmpR op_eq (pv 2) pe_str (by first | exact nomark _ | rfl)) (pss_one (ps_ret (pe_cl c_yes_or_no hr (by omega) (pa_cons (pe_cmpR op_isN (pv 1) pe_non (by first | exact nomark _ | rfl)) pa_nil)))) pss_nil)
      (pss_cons (ps_if (pt_cmpR op_eq (pv 2) pe_str (by first | exact nomark _ | rfl)) (pss_one (ps_ret (pe_cl c_yes_or_no hr (by omega) (pa_cons (pe_ix ix_tup (pv 0) pe_int (fun _ _ => rfl)) pa_nil)))) pss_nil)
      (pss_cons (ps_if (pt_cmpR op_eq (pv 2) pe_str (by first | exact nomark _ | rfl)) (pss_one (ps_ret (pe_ix ix_kdict (pe_glob (v := .ref TG.TURNED) rfl TG.g_TURNED rfl) (pe_cl c_answer_to hr (by omega) (pa_cons (pe_ix ix_tup (pv 0) pe_int (fun _ _ => rfl)) (pa_cons (pv 1) pa_nil))) (fun _ _ => rfl)))) pss_nil)
      (pss_cons (ps_if (pt_cmpR op_eq (pv 2) pe_str (by first | exact nomark _ | rfl)) (pss_one (ps_ret (pe_cl c_settled hr (by omega) (pa_cons (pe_lc (own := [("part", 3)]) rfl sc_answer_to.nd (pi_tup (pe_ix ix_tup (pv 0) pe_int (fun _ _ => rfl))) (blkOk_by (own := [("part", 3)]) (N := N_answer_to) (sc := defScope s_answer_to) (by decide +kernel)) (fun _ _ _ _ _ => (pg_name (i := 3) sc_answer_to.nd rfl (by first | exact Or.inl rfl | exact Or.inr rfl))) (fun _ _ _ _ _ => pts_nil) (fun _ _ _ _ _ => (pe_cl c_answer_to hr (by omega) (pa_cons (pv 3) (pa_cons (pv 1) pa_nil))))) (pa_cons pe_str (pa_cons pe_str pa_nil)))))) pss_nil)
      (pss_cons (ps_if (pt_cmpR op_eq (pv 2) pe_str (by first | exact nomark _ | rfl)) (pss_one (ps_ret (pe_cl c_settled hr (by omega) (pa_cons (pe_lc (own := [("part", 3)]) rfl sc_answer_to.nd (pi_tup (pe_ix ix_tup (pv 0) pe_int (fun _ _ => rfl))) (blkOk_by (own := [("part", 3)]) (N := N_answer_to) (sc := defScope s_answer_to) (by decide +kernel)) (fun _ _ _ _ _ => (pg_name (i := 3) sc_answer_to.nd rfl (by first | exact Or.inl rfl | exact Or.inr rfl))) (fun _ _ _ _ _ => pts_nil) (fun _ _ _ _ _ => (pe_cl c_answer_to hr (by omega) (pa_cons (pv 3) (pa_cons (pv 1) pa_nil))))) (pa_cons pe_str (pa_cons pe_str pa_nil)))))) pss_nil)
      (pss_cons (ps_if (pt_cmpR op_isN (pv 1) pe_non (by first | exact nomark _ | rfl)) (pss_one (ps_ret pe_str)) pss_nil)
      (pss_one (ps_ret (pe_cl c_yes_or_no hr (by omega) (pa_cons (pe_cl c_matches hr (by omega) (pa_cons (pv 2) (pa_cons (pe_ix ix_tup (pv 0) pe_int (fun _ _ => rfl)) (pa_cons (pv 1) pa_nil)))) pa_nil))))))))))), ?_⟩
    have nf : ∀ {a b : Str}, a ≠ b → ¬ decide (V.str a = V.str b) = true := fun n h => n (V.str.inj (of_decide_eq_true h))
    have tf : ∀ {a : Str}, decide (V.str a = V.str a) = true := decide_eq_true rfl
    cases fl with
    | none =>
      obtain ⟨a, rfl, hs⟩ := rp1 r
      refine ⟨_, rfl, a, _, 0, _, rfl, rfl, hs, at0, ?_⟩
      refine ⟨_, rfl, rfl, _, rfl, ite2 (fun _ => ?_) (fun h => absurd tf h)⟩
      refine ⟨_, rfl, rfl, _, rfl, ?_⟩
      have e : decide (oV t = V.non) = decide (t = none) := by
        cases t with
        | none => rfl
        | some l => exact (decide_eq_false fun h => nomatch h).trans (decide_eq_false fun h => nomatch h).symm
      rw [e, ans_b]
      exact k H (Stp.refl _ _)
    | say b =>
      obtain ⟨a, u, rfl, hs, ru⟩ := rp2 r
      cases ru
      rw [lev_two, lev_say, ← ans_b] at k
      refine ⟨_, rfl, a, _, 0, _, rfl, rfl, hs, at0, ?_⟩
      refine ⟨_, rfl, rfl, _, rfl, ite2 (fun h => absurd h (nf (by decide +kernel))) (fun _ => ?_)⟩
      refine ⟨_, rfl, rfl, _, rfl, ite2 (fun _ => ?_) (fun h => absurd tf h)⟩
      exact ⟨_, rfl, a, _, 1, _, rfl, rfl, hs, at1, b, rfl, k H (Stp.refl _ _)⟩
    | not f =>
      obtain ⟨a, u, rfl, hs, ru⟩ := rp2 r
      rw [lev_two, lev_not] at k
      refine ⟨_, rfl, a, _, 0, _, rfl, rfl, hs, at0, ?_⟩
      refine ⟨_, rfl, rfl, _, rfl, ite2 (fun h => absurd h (nf (by decide +kernel))) (fun _ => ?_)⟩
      refine ⟨_, rfl, rfl, _, rfl, ite2 (fun h => absurd h (nf (by decide +kernel))) (fun _ => ?_)⟩
      refine ⟨_, rfl, rfl, _, rfl, ite2 (fun _ => ?_) (fun h => absurd tf h)⟩
      refine ⟨_, rfl, a, _, 1, u, rfl, rfl, hs, at1, _, rfl, u, _, t, rfl, ru, f, ?_, ok, fun H1 S1 => ?_⟩
      · exact dep_two dp
      · have k1 := k H1 S1
        rcases lev_in n t _ with e | e | e
        · rw [e] at k1 ⊢
          exact ⟨_, _, _, rfl, rfl, TG.nn, k1⟩
        · rw [e] at k1 ⊢
          exact ⟨_, _, _, rfl, rfl, TG.no, k1⟩
        · rw [e] at k1 ⊢
          exact ⟨_, _, _, rfl, rfl, TG.ny, k1⟩
    | @among ds m =>
      have tw := txw_among
      obtain ⟨a, u, rfl, hs, ru⟩ := rp2 r
      rw [lev_two] at k
      refine ⟨_, rfl, a, _, 0, _, rfl, rfl, hs, at0, ?_⟩
      refine ⟨_, rfl, rfl, _, rfl, ite2 (fun h => absurd h (nf tw.1)) (fun _ => ?_)⟩
      refine ⟨_, rfl, rfl, _, rfl, ite2 (fun h => absurd h (nf tw.2.1)) (fun _ => ?_)⟩
      refine ⟨_, rfl, rfl, _, rfl, ite2 (fun h => absurd h (nf tw.2.2.1)) (fun _ => ?_)⟩
      refine ⟨_, rfl, rfl, _, rfl, ite2 (fun h => absurd h (nf tw.2.2.2.1)) (fun _ => ?_)⟩
      refine ⟨_, rfl, rfl, _, rfl, ite2 (fun h => absurd h (nf tw.2.2.2.2)) (fun _ => ?_)⟩
      cases t with
      | none =>
        rw [lev_txn _ tw] at k
        exact ⟨_, rfl, rfl, _, rfl, ite2 (fun _ => k H (Stp.refl _ _)) (fun h => absurd rfl h)⟩
      | some x =>
        rw [lev_among, ← ans_b] at k
        refine ⟨_, rfl, rfl, _, rfl, ite2 (fun h => absurd h (by simp [oV])) (fun _ => ?_)⟩
        cases ru with
        | tup hs2 hl rl =>
          rename_i b2 us
          obtain ⟨ys, rfl⟩ := txs_of m
          have eu := rpl_strs rl
          rw [eu] at hs2
          have ea : ((ys.map Dt.str).any (eqD x)) = decide (x ∈ ys) := by
            rw [List.any_map, Bool.eq_iff_iff, List.any_eq_true, decide_eq_true_iff]
            exact ⟨fun ⟨y, hy, e⟩ => by have e : x = y := of_decide_eq_true e; exact e ▸ hy, fun h => ⟨x, h, decide_eq_true rfl⟩⟩
          rw [ea] at k
          refine ⟨_, rfl, _, rfl, a, _, 1, _, rfl, rfl, hs, at1, _, rfl, .inr ⟨b2, ys, x, rfl, hs2, ?_⟩⟩
          exact ⟨_, rfl, k H (Stp.refl _ _)⟩
    | @many wd ds hw m =>
      obtain ⟨a, u, rfl, hs, ru⟩ := rp2 r
      rw [lev_two] at k
      cases ru with
      | tup hs2 hl rl =>
        rename_i b2 us
        have all3 : ∀ x ∈ ds.map (lev n t), In3 x := fun x mx => by
          obtain ⟨d, _, rfl⟩ := List.mem_map.mp mx
          exact lev_in n t d
        have stepd : ∀ {j : Nat} {x : V} {dd : Dt} {H3 : Hp} {Q2 : VK}, us[j]? = some x → (ds.map fun d => Dt.str (ansW (lev n t d)).cps.toList)[j]? = some dd → Stp [] H H3 → (∀ y H', Stp [] H3 H' → Rp K H' y dd → Q2 y H') →
            spAns K n [x, oV t] H3 Q2 E := fun {j x dd H3 Q2} hx hd S3 q => by
          obtain ⟨e', he, re⟩ := rl.get hx
          rw [List.getElem?_map, he] at hd
          cases hd
          refine ⟨x, e', t, rfl, re.stp S3 Lsts.nil, m e' (List.mem_of_getElem? he), dep_in dp (List.mem_of_getElem? he), ok, fun H4 S4 => q _ _ S4 (Rp.lit _ ?_)⟩
          rcases lev_in n t e' with g | g | g <;> rw [g] <;> decide +kernel
        have fin : ∀ {ws : List V} {H3 : Hp} {L : Addr}, H3 L = some (.lst ws) → RpL K H3 ws (ds.map fun d => Dt.str (ansW (lev n t d)).cps.toList) → SqL K H3 L (((ds.map (lev n t)).map ansW).map V.str) := fun {ws H3 L} h3 r3 => by
          have e : ws = ((ds.map (lev n t)).map ansW).map V.str := by
            have e1 : (ds.map fun d => Dt.str (ansW (lev n t d)).cps.toList) = (ds.map fun d => (ansW (lev n t d)).cps.toList).map Dt.str := by rw [List.map_map]; rfl
            rw [e1] at r3
            rw [rpl_strs r3, List.map_map, List.map_map, List.map_map]
            exact List.map_congr_left fun d _ => congrArg V.str (lit_tx _)
          rw [← e]
          exact SqL.of h3
        rcases hw with rfl | rfl
        · refine ⟨_, rfl, a, _, 0, _, rfl, rfl, hs, at0, ?_⟩
          refine ⟨_, rfl, rfl, _, rfl, ite2 (fun h => absurd h (nf (by decide +kernel))) (fun _ => ?_)⟩
          refine ⟨_, rfl, rfl, _, rfl, ite2 (fun h => absurd h (nf (by decide +kernel))) (fun _ => ?_)⟩
          refine ⟨_, rfl, rfl, _, rfl, ite2 (fun h => absurd h (nf (by decide +kernel))) (fun _ => ?_)⟩
          refine ⟨_, rfl, rfl, _, rfl, ite2 (fun _ => ?_) (fun h => absurd tf h)⟩
          rw [lev_and, ← set_min all3] at k
          refine ⟨_, rfl, a, _, 1, _, rfl, rfl, hs, at1, b2, rfl, ⟨_, hs2⟩, fun L nL => ?_⟩
          refine lc_mapT9 nL hs2 (by rw [List.length_map, rl.len]) (by omega) (fun j x dd H3 hx hd S3 Q2 q => ⟨rfl, _, rfl, _, rfl, stepd hx hd S3 q⟩) fun ws H3 S3 h3 r3 => ?_
          exact ⟨L, _, _, _, rfl, fin h3 r3, k H3 S3⟩
        · refine ⟨_, rfl, a, _, 0, _, rfl, rfl, hs, at0, ?_⟩
          refine ⟨_, rfl, rfl, _, rfl, ite2 (fun h => absurd h (nf (by decide +kernel))) (fun _ => ?_)⟩
          refine ⟨_, rfl, rfl, _, rfl, ite2 (fun h => absurd h (nf (by decide +kernel))) (fun _ => ?_)⟩
          refine ⟨_, rfl, rfl, _, rfl, ite2 (fun h => absurd h (nf (by decide +kernel))) (fun _ => ?_)⟩
          refine ⟨_, rfl, rfl, _, rfl, ite2 (fun h => absurd h (nf (by decide +kernel))) (fun _ => ?_)⟩
          refine ⟨_, rfl, rfl, _, rfl, ite2 (fun _ => ?_) (fun h => absurd tf h)⟩
          rw [lev_or, ← set_max all3] at k
          refine ⟨_, rfl, a, _, 1, _, rfl, rfl, hs, at1, b2, rfl, ⟨_, hs2⟩, fun L nL => ?_⟩
          refine lc_mapT9 nL hs2 (by rw [List.length_map, rl.len]) (by omega) (fun j x dd H3 hx hd S3 Q2 q => ⟨rfl, _, rfl, _, rfl, stepd hx hd S3 q⟩) fun ws H3 S3 h3 r3 => ?_
          exact ⟨L, _, _, _, rfl, fin h3 r3, k H3 S3⟩
    | tx hw ha =>
      obtain ⟨tw, na⟩ := txw_tx hw
      obtain ⟨a, u, rfl, hs, ru⟩ := rp2 r
      cases ru
      rw [lev_two] at k
      refine ⟨_, rfl, a, _, 0, _, rfl, rfl, hs, at0, ?_⟩
      refine ⟨_, rfl, rfl, _, rfl, ite2 (fun h => absurd h (nf tw.1)) (fun _ => ?_)⟩
      refine ⟨_, rfl, rfl, _, rfl, ite2 (fun h => absurd h (nf tw.2.1)) (fun _ => ?_)⟩
      refine ⟨_, rfl, rfl, _, rfl, ite2 (fun h => absurd h (nf tw.2.2.1)) (fun _ => ?_)⟩
      refine ⟨_, rfl, rfl, _, rfl, ite2 (fun h => absurd h (nf tw.2.2.2.1)) (fun _ => ?_)⟩
      refine ⟨_, rfl, rfl, _, rfl, ite2 (fun h => absurd h (nf tw.2.2.2.2)) (fun _ => ?_)⟩
      cases t with
      | none =>
        rw [lev_txn _ tw] at k
        exact ⟨_, rfl, rfl, _, rfl, ite2 (fun _ => k H (Stp.refl _ _)) (fun h => absurd rfl h)⟩
      | some x =>
        rw [lev_txs _ tw na, ← ans_b] at k
        refine ⟨_, rfl, rfl, _, rfl, ite2 (fun h => absurd h (by simp [oV])) (fun _ => ?_)⟩
        refine ⟨_, rfl, _, rfl, a, _, 1, _, rfl, rfl, hs, at1, _, rfl, .inl ⟨_, _, x, rfl, hw, ?_⟩⟩
        exact ⟨_, rfl, k H (Stp.refl _ _)⟩
/-! ### tuples in comprehensions, enumerate -/
theorem pg_tupK {X : Cx} {K : PySem.W.Frag} {pos : Pos} {es : List Expr} {k : Nat} {t : TGs} {n : Nat} (hK : X.K = K) (hc : X.calm = true) (h : PGs X es t) (hn : (assignEach es X.env).length = n) (hst : (assignEach es X.env).findIdx? (·.1) = none) : PG X (.Tuple es k pos) (gTup K n t) := by
  subst hK
  exact pg_tup hc h hn hst
theorem ix_tupK {X : Cx} {K : PySem.W.Frag} (hK : X.K = K) : IxR X (rIxT K) := by
  subst hK
  exact ix_tup
theorem ix_listK {X : Cx} {K : PySem.W.Frag} (hK : X.K = K) : IxR X (rIxL K) := by
  subst hK
  exact ix_list
theorem lc_enum {K : PySem.W.Frag} {a : Addr} {xs : List V} {g : TG} {tt : TT} {te : TE} {vs : List Nat} {σ : L2.St} {H1 : Hp} {D : Addr} {Qd : Hp → Prop} (Pv : Nat → Hp → Prop) (h0 : Pv 0 (upd H1 D (.lst []))) (hl : ∀ i H, Pv i H → SqL K H a xs)
    (hs : ∀ i x T H, xs[i]? = some x → Pv i H → H T = none → g (.ref T) (wipe σ vs) (upd H T (.tup [.int (i : Nat), x])) fun σ2 H2 => wipe σ2 vs = wipe σ vs ∧ tt σ2 H2 fun b H3 =>
      if b = true then te σ2 H3 fun y H4 => ∃ acc, H4 D = some (.lst acc) ∧ acc.length < sizeLine ∧ Pv (i + 1) (upd H4 D (.lst (acc ++ [y]))) else Pv (i + 1) H3) (hd : ∀ H, Pv xs.length H → Qd H) :
    ∃ W : Nat → Nat → Hp → Prop, (∃ m, W 0 m (upd H1 D (.lst []))) ∧ ∀ i m H, W i m H →
      ((Ite K a).stop i H ∧ Qd H) ∨ ((Ite K a).go i H ∧ ∃ Nx : Hp → Prop, (∀ H', Nx H' → ∃ m', m' < m ∧ W (i + 1) m' H') ∧ ∀ x H', (Ite K a).yld i H x H' → g x (wipe σ vs) H' fun σ2 H2 => wipe σ2 vs = wipe σ vs ∧ tt σ2 H2 fun b H3 =>
        if b = true then te σ2 H3 fun y H4 => ∃ acc, H4 D = some (.lst acc) ∧ acc.length < sizeLine ∧ Nx (upd H4 D (.lst (acc ++ [y]))) else Nx H3) := by
  refine ⟨fun i m H => m = xs.length - i ∧ i ≤ xs.length ∧ Pv i H, ⟨xs.length, by simp, Nat.zero_le _, h0⟩, ?_⟩
  rintro i m H ⟨rfl, hi, p⟩
  have q := hl i H p
  by_cases hlt : i < xs.length
  · refine .inr ⟨⟨xs, xs[i], q, by simp [hlt]⟩, Pv (i + 1), fun H' p' => ⟨xs.length - (i + 1), by omega, rfl, hlt, p'⟩, fun v H' yy => ?_⟩
    obtain ⟨T, x, rfl, nT, rfl, hx⟩ := yy
    exact hs i x T H (hx xs q) p nT
  · have e : i = xs.length := by omega
    subst e
    exact .inl ⟨⟨xs, q, Nat.le_refl _⟩, hd H p⟩
abbrev s_answer : Stmt := topS 15
abbrev N_answer : List Str := ["query", "value"]
theorem sc_answer : FnScope ["query", "value"] ["query", "value"] (defScope s_answer) := ⟨rfl, rfl, rfl, by decide +kernel, rfl, by decide +kernel, by decide +kernel⟩

abbrev s_passes : Stmt := topS 20
abbrev N_passes : List Str := ["query", "value"]
theorem sc_passes : FnScope ["query", "value"] ["query", "value"] (defScope s_passes) := ⟨rfl, rfl, rfl, by decide +kernel, rfl, by decide +kernel, by decide +kernel⟩

abbrev s_picked : Stmt := topS 21
abbrev N_picked : List Str := ["query", "column", "index", "value"]
theorem sc_picked : FnScope ["query", "column", "index", "value"] ["query", "column"] (defScope s_picked) := ⟨rfl, rfl, rfl, by decide +kernel, rfl, by decide +kernel, by decide +kernel⟩

theorem ans_all {f : Addr} {fd : FuncData} (D : Df K mg "answer_to" s_answer_to ["query", "value"] f fd) (T : Nm mg) (TG : Ng K w mg) (c_yes_or_no : Cl P w K mg base 1 "yes_or_no" s_yes_or_no ["holds"] spYes) (c_settled : Cl P w K mg base 1 "settled" s_settled ["answers", "deciding", "otherwise"] (spSet K))
    (c_matches : Cl P w K mg base 1 "matches" s_matches ["word", "wanted", "text"] (spMat K)) : ∀ n : Nat, Cl P w K mg base (n + 1) "answer_to" s_answer_to ["query", "value"] (spAns K n)
  | 0 => cl_never D (fun vs H Q E ⟨v, d, _, _, _, _, hd, _⟩ => Nat.not_lt_zero _ hd) 1
  | n + 1 => ans_step D T TG (by omega) c_yes_or_no c_settled c_matches (ans_all D T TG c_yes_or_no c_settled c_matches n)
theorem cl_answer {f : Addr} {fd : FuncData} {n m : Nat} (hm : 3 ≤ m) (D : Df K mg "answer" s_answer ["query", "value"] f fd) (T : Nm mg) (c_check_filter : Cl P w K mg base m "check_filter" s_check_filter ["query"] (spCkF K n)) (c_check_value : Cl P w K mg base 3 "check_value" s_check_value ["value"] spCkV)
    (c_answer_to : Cl P w K mg base m "answer_to" s_answer_to ["query", "value"] (spAns K n)) : Cl P w K mg base (m + 1) "answer" s_answer ["query", "value"] (spAns K n) := by
  refine D.cl sc_answer (fun vs H Q E h => ?_) (fun cdv A outer s H vs Q E hr h => ?_)
  · obtain ⟨v, d, t, rfl, _⟩ := h
    rfl
  · obtain ⟨v, d, t, rfl, r, fl, dp, ok, k⟩ := h
    refine ⟨_, (pss_cons (ps_expr (pe_cl c_check_filter hr (by omega) (pa_cons (pv 0) pa_nil)))
      (pss_cons (ps_expr (pe_cl c_check_value hr (by omega) (pa_cons (pv 1) pa_nil)))
      (pss_one (ps_ret (pe_cl c_answer_to hr (by omega) (pa_cons (pv 0) (pa_cons (pv 1) pa_nil))))))), ?_⟩
    refine ⟨_, rfl, v, d, rfl, r, dp, fl, fun H1 S1 => ?_⟩
    refine ⟨_, rfl, t, rfl, ok, ?_⟩
    exact ⟨_, rfl, _, rfl, v, d, t, rfl, r.stp S1 Lsts.nil, fl, dp, ok, fun H2 S2 => k H2 (S1.trans S2)⟩
def spPas (K : PySem.W.Frag) (n : Nat) : Sp := fun vs H Q _ => ∃ (v : V) (d : Dt) (t : Vl), vs = [v, oV t] ∧ Rp K H v d ∧ Flt d ∧ d.dep < n ∧ OkV t ∧ ∀ H', Stp [] H H' → Q (.bl (decide (lev n t d = 2))) H'
theorem cl_passes {f : Addr} {fd : FuncData} {n m : Nat} (D : Df K mg "passes" s_passes ["query", "value"] f fd) (T : Nm mg) (c_answer_to : Cl P w K mg base m "answer_to" s_answer_to ["query", "value"] (spAns K n)) : Cl P w K mg base (m + 1) "passes" s_passes ["query", "value"] (spPas K n) := by
  refine D.cl sc_passes (fun vs H Q E h => ?_) (fun cdv A outer s H vs Q E hr h => ?_)
  · obtain ⟨v, d, t, rfl, _⟩ := h
    rfl
  · obtain ⟨v, d, t, rfl, r, fl, dp, ok, k⟩ := h
    refine ⟨_, (pss_one (ps_ret (pe_cmpR op_eq (pe_cl c_answer_to hr (by omega) (pa_cons (pv 0) (pa_cons (pv 1) pa_nil))) pe_str (by first | exact nomark _ | rfl)))), ?_⟩
    refine ⟨_, rfl, _, rfl, v, d, t, rfl, r, fl, dp, ok, fun H1 S1 => ⟨rfl, ?_⟩⟩
    have e : decide (V.str (ansW (lev n t d)) = V.str "yes") = decide (lev n t d = 2) := by
      rcases lev_in n t d with g | g | g <;> rw [g] <;> decide +kernel
    rw [e]
    exact k H1 S1
/-- the places of the values that pass -/
def spots (n : Nat) (d : Dt) : Nat → List Vl → List Int
  | _, [] => []
  | i, t :: ts => (if lev n t d = 2 then [(i : Int)] else []) ++ spots n d (i + 1) ts
theorem spots_len (n : Nat) (d : Dt) : ∀ (i : Nat) (ts : List Vl), (spots n d i ts).length ≤ ts.length
  | _, [] => Nat.le_refl _
  | i, t :: ts => by
    have := spots_len n d (i + 1) ts
    unfold spots
    rw [List.length_append, List.length_cons]
    split <;> simp <;> omega
theorem spots_app (n : Nat) (d : Dt) (w : Vl) : ∀ (i : Nat) (ts : List Vl), spots n d i (ts ++ [w]) = spots n d i ts ++ (if lev n w d = 2 then [((i + ts.length : Nat) : Int)] else [])
  | i, [] => by
    show (if lev n w d = 2 then [(i : Int)] else []) ++ [] = _
    rw [List.append_nil]
    rfl
  | i, t :: ts => by
    show (if lev n t d = 2 then [(i : Int)] else []) ++ spots n d (i + 1) (ts ++ [w]) = _
    rw [spots_app n d w (i + 1) ts, ← List.append_assoc, show i + 1 + ts.length = i + (t :: ts).length by rw [List.length_cons]; omega]
    rfl
def spPick (K : PySem.W.Frag) (n : Nat) : Sp := fun vs H Q _ => ∃ (v : V) (d : Dt) (a : Addr) (ts : List Vl), vs = [v, .ref a] ∧ Rp K H v d ∧ Flt d ∧ d.dep < n ∧ H a = some (.lst (ts.map oV)) ∧ (∀ t ∈ ts, OkV t) ∧ ts.length ≤ 100 ∧
  ∀ L H', Stp [] H H' → H L = none → H' L = some (.lst ((spots n d 0 ts).map V.int)) → Q (.ref L) H'
theorem cl_picked {f : Addr} {fd : FuncData} {n m : Nat} (hm : 3 ≤ m) (D : Df K mg "picked" s_picked ["query", "column"] f fd) (T : Nm mg) (c_check_filter : Cl P w K mg base m "check_filter" s_check_filter ["query"] (spCkF K n)) (c_check_column : Cl P w K mg base 3 "check_column" s_check_column ["column"] (spCkC K))
    (c_passes : Cl P w K mg base m "passes" s_passes ["query", "value"] (spPas K n)) : Cl P w K mg base (m + 1) "picked" s_picked ["query", "column"] (spPick K n) := by
  refine D.cl sc_picked (fun vs H Q E h => ?_) (fun cdv A outer s H vs Q E hr h => ?_)
  · obtain ⟨v, d, a, ts, rfl, _⟩ := h
    rfl
  · obtain ⟨v, d, a, ts, rfl, r, fl, dp, ha, ok, few, k⟩ := h
    refine ⟨_, (pss_cons (ps_expr (pe_cl c_check_filter hr (by omega) (pa_cons (pv 0) pa_nil)))
      (pss_cons (ps_expr (pe_cl c_check_column hr (by omega) (pa_cons (pv 1) pa_nil)))
      (pss_one (ps_ret (pe_lc (own := [("index", 2), ("value", 3)]) rfl sc_picked.nd (pi_enum (by rfl) T.n_enumerate (pa_cons (pv 1) pa_nil)) (blkOk_by (own := [("index", 2), ("value", 3)]) (N := N_picked) (sc := defScope s_picked) (by decide +kernel)) (fun _ _ _ _ _ => (pg_tupK (n := 2) rfl rfl (pgs_cons (pg_name (i := 2) sc_picked.nd rfl (by first | exact Or.inl rfl | exact Or.inr rfl)) (pgs_cons (pg_name (i := 3) sc_picked.nd rfl (by first | exact Or.inl rfl | exact Or.inr rfl)) pgs_nil (by rfl)) (by rfl)) (by rfl) (by rfl))) (fun _ _ _ _ _ => (pts_one (pt_val (pe_cl c_passes hr (by omega) (pa_cons (pv 0) (pa_cons (pv 3) pa_nil)))))) (fun _ _ _ _ _ => (pv 2))))))), ?_⟩
    refine ⟨_, rfl, v, d, rfl, r, dp, fl, fun H1 S1 => ?_⟩
    have ha1 := S1.kp _ _ (fun m => nomatch m) ha
    refine ⟨_, rfl, a, ts, rfl, ha1, ok, few, fun H2 S2 => ?_⟩
    have ha2 := S2.kp _ _ (fun m => nomatch m) ha1
    refine ⟨_, rfl, a, _, rfl, SqL.of ha2, fun L nL => ?_⟩
    have S12 := S1.trans S2
    have nLH : H L = none := by
      cases e : H L with
      | none => rfl
      | some o => exact absurd nL (by rw [S12.kp _ _ (fun m => nomatch m) e]; simp)
    refine lc_enum (a := a) (xs := ts.map oV) (fun i H3 => H3 L = some (.lst ((spots n d 0 (ts.take i)).map V.int)) ∧ Stp [] H2 H3) ⟨upd_same, Stp.new nL _⟩ (fun i H3 ⟨_, S3⟩ => SqL.of (S3.kp _ _ (fun m => nomatch m) ha2)) ?_ ?_
    · rintro i x t H3 hx ⟨hL, S3⟩ nt
      rw [List.getElem?_map] at hx
      cases e : ts[i]? with
      | none => rw [e] at hx; cases hx
      | some w =>
        rw [e] at hx
        cases hx
        have hi : i < ts.length := (List.getElem?_eq_some_iff.mp e).1
        refine ⟨t, _, rfl, SqT.of upd_same, rfl, _, _, rfl, _, _, rfl, rfl, ?_⟩
        have hL3 : (upd H3 t (.tup [.int (i : Nat), oV w])) L = some (.lst ((spots n d 0 (ts.take i)).map V.int)) := by
          rw [upd_ne (ne_of_none hL nt)]
          exact hL
        have S3' : Stp [] H2 (upd H3 t (.tup [.int (i : Nat), oV w])) := S3.new' nt
        generalize upd H3 t (.tup [.int (i : Nat), oV w]) = H4 at *
        refine ⟨rfl, _, rfl, _, rfl, v, d, w, rfl, (r.stp S12 Lsts.nil).stp S3' Lsts.nil, fl, dp, ok w (List.mem_of_getElem? e), fun H5 S5 => ?_⟩
        have e2 : spots n d 0 (ts.take (i + 1)) = spots n d 0 (ts.take i) ++ (if lev n w d = 2 then [(i : Int)] else []) := by
          rw [List.take_add_one, e]
          show spots n d 0 (ts.take i ++ [w]) = _
          rw [spots_app, List.length_take, Nat.min_eq_left (by omega), Nat.zero_add]
        have hL5 := S5.kp _ _ (fun m => nomatch m) hL3
        refine ⟨_, rfl, ite2 (fun h => ?_) (fun h => ?_)⟩
        · have g : lev n w d = 2 := of_decide_eq_true h
          refine ⟨_, rfl, _, hL5, ?_, ?_, (S3'.trans S5).mut nL⟩
          · rw [List.length_map]
            have := spots_len n d 0 (ts.take i)
            rw [List.length_take] at this
            exact Nat.lt_of_le_of_lt (show (spots n d 0 (ts.take i)).length ≤ 100 by omega) (by decide)
          · rw [upd_same, e2, if_pos g, List.map_append]
            rfl
        · have g : ¬ lev n w d = 2 := fun g => h (decide_eq_true g)
          refine ⟨?_, S3'.trans S5⟩
          rw [e2, if_neg g, List.append_nil]
          exact hL5
    · rintro H3 ⟨hL, S3⟩
      rw [List.length_map, List.take_length] at hL
      exact k L H3 (S12.trans S3) nLH hL
abbrev s__law_level : Stmt := topS 31
abbrev N__law_level : List Str := ["sieve", "thing", "part", "word"]
theorem sc__law_level : FnScope ["sieve", "thing", "part", "word"] ["sieve", "thing"] (defScope s__law_level) := ⟨rfl, rfl, rfl, by decide +kernel, rfl, by decide +kernel, by decide +kernel⟩

theorem b2 (b : Bool) : (2 : Int) * (if b = true then 1 else 0) = bLev b := by cases b <;> rfl
theorem mul2 (b : Bool) : CMulW 2 (if b = true then 1 else 0) := by unfold CMulW; cases b <;> decide +kernel
theorem rpl_ints {K : PySem.W.Frag} {H : Hp} : ∀ {ls : List Int} {vs : List V}, RpL K H vs (ls.map Dt.int) → vs = ls.map V.int
  | [], _, .nil => rfl
  | i :: ls, _, .cons (.int _) r => by rw [rpl_ints r]; rfl
def spLev (K : PySem.W.Frag) (n : Nat) : Sp := fun vs H Q _ => ∃ (v : V) (d : Dt) (t : Vl), vs = [v, oV t] ∧ Rp K H v d ∧ Flt d ∧ d.dep < n ∧ OkV t ∧ ∀ H', Stp [] H H' → Q (.int (lev n t d)) H'
theorem level_step {f : Addr} {fd : FuncData} (D : Df K mg "_law_level" s__law_level ["sieve", "thing"] f fd) (T : Nm mg) {n m : Nat} (hm : 1 ≤ m) (c__law_level : Cl P w K mg base m "_law_level" s__law_level ["sieve", "thing"] (spLev K n)) : Cl P w K mg base (m + 1) "_law_level" s__law_level ["sieve", "thing"] (spLev K (n + 1)) := by
  refine D.cl sc__law_level (fun vs H Q E h => ?_) (fun cdv A outer s H vs Q E hr h => ?_)
  · obtain ⟨v, d, t, rfl, _⟩ := h
    rfl
  · obtain ⟨v, d, t, rfl, r, fl, dp, ok, k⟩ := h
    refine ⟨_, (pss_cons (ps_if (pt_cmpR op_eq (pe_ix ix_tup (pv 0) pe_int (fun _ _ => rfl)) pe_str (by first | exact nomark _ | rfl)) (pss_one (ps_ret (pe_op op_mulW pe_int (pe_callTy call_int1 (by rfl) T.n_int (by decide +kernel) (pa_cons (pe_cmpR op_isN (pv 1) pe_non (by first | exact nomark _ | rfl)) pa_nil))))) pss_nil)
      (pss_cons (ps_if (pt_cmpR op_eq (pe_ix ix_tup (pv 0) pe_int (fun _ _ => rfl)) pe_str (by first | exact nomark _ | rfl)) (pss_one (ps_ret (pe_op op_mulW pe_int (pe_callTy call_int1 (by rfl) T.n_int (by decide +kernel) (pa_cons (pe_ix ix_tup (pv 0) pe_int (fun _ _ => rfl)) pa_nil))))) pss_nil)
      (pss_cons (ps_if (pt_cmpR op_eq (pe_ix ix_tup (pv 0) pe_int (fun _ _ => rfl)) pe_str (by first | exact nomark _ | rfl)) (pss_one (ps_ret (pe_op op_sub pe_int (pe_cl c__law_level hr (by omega) (pa_cons (pe_ix ix_tup (pv 0) pe_int (fun _ _ => rfl)) (pa_cons (pv 1) pa_nil)))))) pss_nil)
      (pss_cons (ps_if (pt_cmpR op_eq (pe_ix ix_tup (pv 0) pe_int (fun _ _ => rfl)) pe_str (by first | exact nomark _ | rfl)) (pss_one (ps_ret (pe_callBK (Pg.cr_minDf (by rfl) hr.units) (by rfl) T.n_min (by decide +kernel) (pa_cons (pe_lc (own := [("part", 2)]) rfl sc__law_level.nd (pi_tup (pe_ix ix_tup (pv 0) pe_int (fun _ _ => rfl))) (blkOk_by (own := [("part", 2)]) (N := N__law_level) (sc := defScope s__law_level) (by decide +kernel)) (fun _ _ _ _ _ => (pg_name (i := 2) sc__law_level.nd rfl (by first | exact Or.inl rfl | exact Or.inr rfl))) (fun _ _ _ _ _ => pts_nil) (fun _ _ _ _ _ => (pe_callTy call_int1 (by rfl) T.n_int (by decide +kernel) (pa_cons (pe_cl c__law_level hr (by omega) (pa_cons (pv 2) (pa_cons (pv 1) pa_nil))) pa_nil)))) pa_nil) (pk_cons pe_int pk_nil)))) pss_nil)
      (pss_cons (ps_if (pt_cmpR op_eq (pe_ix ix_tup (pv 0) pe_int (fun _ _ => rfl)) pe_str (by first | exact nomark _ | rfl)) (pss_one (ps_ret (pe_callBK (Pg.cr_maxDf (by rfl) hr.units) (by rfl) T.n_max (by decide +kernel) (pa_cons (pe_lc (own := [("part", 2)]) rfl sc__law_level.nd (pi_tup (pe_ix ix_tup (pv 0) pe_int (fun _ _ => rfl))) (blkOk_by (own := [("part", 2)]) (N := N__law_level) (sc := defScope s__law_level) (by decide +kernel)) (fun _ _ _ _ _ => (pg_name (i := 2) sc__law_level.nd rfl (by first | exact Or.inl rfl | exact Or.inr rfl))) (fun _ _ _ _ _ => pts_nil) (fun _ _ _ _ _ => (pe_callTy call_int1 (by rfl) T.n_int (by decide +kernel) (pa_cons (pe_cl c__law_level hr (by omega) (pa_cons (pv 2) (pa_cons (pv 1) pa_nil))) pa_nil)))) pa_nil) (pk_cons pe_int pk_nil)))) pss_nil)
      (pss_cons (ps_if (pt_cmpR op_isN (pv 1) pe_non (by first | exact nomark _ | rfl)) (pss_one (ps_ret pe_int)) pss_nil)
      (pss_cons (ps_if (pt_cmpR op_eq (pe_ix ix_tup (pv 0) pe_int (fun _ _ => rfl)) pe_str (by first | exact nomark _ | rfl)) (pss_one (ps_ret (pe_op op_mulW pe_int (pe_callTy call_int1 (by rfl) T.n_int (by decide +kernel) (pa_cons (pe_cmpR (Pv.op_neNil hr.units) (pe_lc (own := [("word", 3)]) rfl sc__law_level.nd (pi_tup (pe_ix ix_tup (pv 0) pe_int (fun _ _ => rfl))) (blkOk_by (own := [("word", 3)]) (N := N__law_level) (sc := defScope s__law_level) (by decide +kernel)) (fun _ _ _ _ _ => (pg_name (i := 3) sc__law_level.nd rfl (by first | exact Or.inl rfl | exact Or.inr rfl))) (fun _ _ _ _ _ => (pts_one (pt_cmpR op_eq (pv 3) (pv 1) (by first | exact nomark _ | rfl)))) (fun _ _ _ _ _ => (pv 3))) (pe_lst pa_nil) (by first | exact nomark _ | rfl)) pa_nil))))) pss_nil)
      (pss_cons (ps_if (pt_cmpR op_eq (pe_ix ix_tup (pv 0) pe_int (fun _ _ => rfl)) pe_str (by first | exact nomark _ | rfl)) (pss_one (ps_ret (pe_op op_mulW pe_int (pe_callTy call_int1 (by rfl) T.n_int (by decide +kernel) (pa_cons (pe_cmpR op_eq (pe_slice sl_str (pv 1) po_none (po_some (pe_callB call_len_str (by rfl) T.n_len (by decide +kernel) (pa_cons (pe_ix ix_tup (pv 0) pe_int (fun _ _ => rfl)) pa_nil)))) (pe_ix ix_tup (pv 0) pe_int (fun _ _ => rfl)) (by first | exact nomark _ | rfl)) pa_nil))))) pss_nil)
      (pss_cons (ps_if (pt_cmpR op_eq (pe_ix ix_tup (pv 0) pe_int (fun _ _ => rfl)) pe_str (by first | exact nomark _ | rfl)) (pss_one (ps_ret (pe_op op_mulW pe_int (pe_callTy call_int1 (by rfl) T.n_int (by decide +kernel) (pa_cons (pe_cmpR op_eq (pv 1) (pe_ix ix_tup (pv 0) pe_int (fun _ _ => rfl)) (by first | exact nomark _ | rfl)) pa_nil))))) pss_nil)
      (pss_one (ps_ret (pe_op op_mulW pe_int (pe_callTy call_int1 (by rfl) T.n_int (by decide +kernel) (pa_cons (pe_ifExp (pt_cmpR op_eq (pe_ix ix_tup (pv 0) pe_int (fun _ _ => rfl)) pe_str (by first | exact nomark _ | rfl)) (pe_cmpR op_lt_str (pv 1) (pe_ix ix_tup (pv 0) pe_int (fun _ _ => rfl)) (by first | exact nomark _ | rfl)) (pe_cmpR op_gt_str (pv 1) (pe_ix ix_tup (pv 0) pe_int (fun _ _ => rfl)) (by first | exact nomark _ | rfl))) pa_nil)))))))))))))), ?_⟩
    have nf : ∀ {a b : Str}, a ≠ b → ¬ decide (V.str a = V.str b) = true := fun n h => n (V.str.inj (of_decide_eq_true h))
    have tf : ∀ {a : Str}, decide (V.str a = V.str a) = true := decide_eq_true rfl
    cases fl with
    | none =>
      obtain ⟨a, rfl, hs⟩ := rp1 r
      refine ⟨_, rfl, a, _, 0, _, rfl, rfl, hs, at0, rfl, _, rfl, ite2 (fun _ => ?_) (fun h => absurd tf h)⟩
      have e : decide (oV t = V.non) = decide (t = none) := by
        cases t with
        | none => rfl
        | some l => exact (decide_eq_false fun h => nomatch h).trans (decide_eq_false fun h => nomatch h).symm
      refine ⟨_, rfl, rfl, .inr ⟨_, rfl, 2, _, rfl, rfl, mul2 _, ?_⟩⟩
      have k1 := k H (Stp.refl _ _)
      rw [show lev (n + 1) t (.tup [.str ("none" : Str).cps.toList]) = bLev (decide (t = none)) from rfl, ← b2, ← e] at k1
      exact k1
    | say b =>
      obtain ⟨a, u, rfl, hs, ru⟩ := rp2 r
      cases ru
      rw [lev_two, lev_say, ← b2] at k
      refine ⟨_, rfl, a, _, 0, _, rfl, rfl, hs, at0, rfl, _, rfl, ite2 (fun h => absurd h (nf (by decide +kernel))) (fun _ => ?_)⟩
      refine ⟨_, rfl, a, _, 0, _, rfl, rfl, hs, at0, rfl, _, rfl, ite2 (fun _ => ?_) (fun h => absurd tf h)⟩
      exact ⟨_, rfl, a, _, 1, _, rfl, rfl, hs, at1, .inr ⟨b, rfl, 2, _, rfl, rfl, mul2 b, k H (Stp.refl _ _)⟩⟩
    | not f =>
      obtain ⟨a, u, rfl, hs, ru⟩ := rp2 r
      rw [lev_two, lev_not] at k
      refine ⟨_, rfl, a, _, 0, _, rfl, rfl, hs, at0, rfl, _, rfl, ite2 (fun h => absurd h (nf (by decide +kernel))) (fun _ => ?_)⟩
      refine ⟨_, rfl, a, _, 0, _, rfl, rfl, hs, at0, rfl, _, rfl, ite2 (fun h => absurd h (nf (by decide +kernel))) (fun _ => ?_)⟩
      refine ⟨_, rfl, a, _, 0, _, rfl, rfl, hs, at0, rfl, _, rfl, ite2 (fun _ => ?_) (fun h => absurd tf h)⟩
      exact ⟨_, rfl, a, _, 1, u, rfl, rfl, hs, at1, _, rfl, u, _, t, rfl, ru, f, dep_two dp, ok, fun H1 S1 => ⟨2, _, rfl, rfl, k H1 S1⟩⟩
    | @many wd ds hw m =>
      obtain ⟨a, u, rfl, hs, ru⟩ := rp2 r
      rw [lev_two] at k
      cases ru with
      | tup hs2 hl rl =>
        rename_i b2' us
        have fin : ∀ {ws : List V} {H3 : Hp} {L : Addr}, H3 L = some (.lst ws) → RpL K H3 ws (ds.map fun d => Dt.int (lev n t d)) → SqL K H3 L ((ds.map (lev n t)).map V.int) := fun {ws H3 L} h3 r3 => by
          have e1 : (ds.map fun d => Dt.int (lev n t d)) = (ds.map (lev n t)).map Dt.int := by rw [List.map_map]; rfl
          rw [e1] at r3
          rw [← rpl_ints r3]
          exact SqL.of h3
        rcases hw with rfl | rfl
        · rw [lev_and] at k
          refine ⟨_, rfl, a, _, 0, _, rfl, rfl, hs, at0, rfl, _, rfl, ite2 (fun h => absurd h (nf (by decide +kernel))) (fun _ => ?_)⟩
          refine ⟨_, rfl, a, _, 0, _, rfl, rfl, hs, at0, rfl, _, rfl, ite2 (fun h => absurd h (nf (by decide +kernel))) (fun _ => ?_)⟩
          refine ⟨_, rfl, a, _, 0, _, rfl, rfl, hs, at0, rfl, _, rfl, ite2 (fun h => absurd h (nf (by decide +kernel))) (fun _ => ?_)⟩
          refine ⟨_, rfl, a, _, 0, _, rfl, rfl, hs, at0, rfl, _, rfl, ite2 (fun _ => ?_) (fun h => absurd tf h)⟩
          refine ⟨_, rfl, a, _, 1, _, rfl, rfl, hs, at1, b2', rfl, ⟨_, hs2⟩, fun L nL => ?_⟩
          refine lc_mapT9 (ds := ds.map fun d => Dt.int (lev n t d)) nL hs2 (by rw [List.length_map, rl.len]) (by omega) (fun j x dd H3 hx hd S3 Q2 q => ?_) fun ws H3 S3 h3 r3 => ?_
          · obtain ⟨e', he, re⟩ := rl.get hx
            rw [List.getElem?_map, he] at hd
            cases hd
            exact ⟨rfl, _, rfl, _, rfl, x, e', t, rfl, re.stp S3 Lsts.nil, m e' (List.mem_of_getElem? he), dep_in dp (List.mem_of_getElem? he), ok, fun H4 S4 => .inl ⟨_, rfl, q _ _ S4 (.int _)⟩⟩
          · exact ⟨L, _, 2, rfl, rfl, fin h3 r3, k H3 S3⟩
        · rw [lev_or] at k
          refine ⟨_, rfl, a, _, 0, _, rfl, rfl, hs, at0, rfl, _, rfl, ite2 (fun h => absurd h (nf (by decide +kernel))) (fun _ => ?_)⟩
          refine ⟨_, rfl, a, _, 0, _, rfl, rfl, hs, at0, rfl, _, rfl, ite2 (fun h => absurd h (nf (by decide +kernel))) (fun _ => ?_)⟩
          refine ⟨_, rfl, a, _, 0, _, rfl, rfl, hs, at0, rfl, _, rfl, ite2 (fun h => absurd h (nf (by decide +kernel))) (fun _ => ?_)⟩
          refine ⟨_, rfl, a, _, 0, _, rfl, rfl, hs, at0, rfl, _, rfl, ite2 (fun h => absurd h (nf (by decide +kernel))) (fun _ => ?_)⟩
          refine ⟨_, rfl, a, _, 0, _, rfl, rfl, hs, at0, rfl, _, rfl, ite2 (fun _ => ?_) (fun h => absurd tf h)⟩
          refine ⟨_, rfl, a, _, 1, _, rfl, rfl, hs, at1, b2', rfl, ⟨_, hs2⟩, fun L nL => ?_⟩
          refine lc_mapT9 (ds := ds.map fun d => Dt.int (lev n t d)) nL hs2 (by rw [List.length_map, rl.len]) (by omega) (fun j x dd H3 hx hd S3 Q2 q => ?_) fun ws H3 S3 h3 r3 => ?_
          · obtain ⟨e', he, re⟩ := rl.get hx
            rw [List.getElem?_map, he] at hd
            cases hd
            exact ⟨rfl, _, rfl, _, rfl, x, e', t, rfl, re.stp S3 Lsts.nil, m e' (List.mem_of_getElem? he), dep_in dp (List.mem_of_getElem? he), ok, fun H4 S4 => .inl ⟨_, rfl, q _ _ S4 (.int _)⟩⟩
          · exact ⟨L, _, 0, rfl, rfl, fin h3 r3, k H3 S3⟩
    | @among ds m =>
      have tw := txw_among
      obtain ⟨a, u, rfl, hs, ru⟩ := rp2 r
      rw [lev_two] at k
      refine ⟨_, rfl, a, _, 0, _, rfl, rfl, hs, at0, rfl, _, rfl, ite2 (fun h => absurd h (nf tw.1)) (fun _ => ?_)⟩
      refine ⟨_, rfl, a, _, 0, _, rfl, rfl, hs, at0, rfl, _, rfl, ite2 (fun h => absurd h (nf tw.2.1)) (fun _ => ?_)⟩
      refine ⟨_, rfl, a, _, 0, _, rfl, rfl, hs, at0, rfl, _, rfl, ite2 (fun h => absurd h (nf tw.2.2.1)) (fun _ => ?_)⟩
      refine ⟨_, rfl, a, _, 0, _, rfl, rfl, hs, at0, rfl, _, rfl, ite2 (fun h => absurd h (nf tw.2.2.2.1)) (fun _ => ?_)⟩
      refine ⟨_, rfl, a, _, 0, _, rfl, rfl, hs, at0, rfl, _, rfl, ite2 (fun h => absurd h (nf tw.2.2.2.2)) (fun _ => ?_)⟩
      cases t with
      | none =>
        rw [lev_txn _ tw] at k
        exact ⟨_, rfl, rfl, _, rfl, ite2 (fun _ => k H (Stp.refl _ _)) (fun h => absurd rfl h)⟩
      | some x =>
        rw [lev_among, ← b2] at k
        refine ⟨_, rfl, rfl, _, rfl, ite2 (fun h => absurd h (by simp [oV])) (fun _ => ?_)⟩
        cases ru with
        | tup hs2 hl rl =>
          rename_i b2' us
          obtain ⟨ys, rfl⟩ := txs_of m
          have eu := rpl_strs rl
          rw [eu] at hs2
          refine ⟨_, rfl, a, _, 0, _, rfl, rfl, hs, at0, rfl, _, rfl, ite2 (fun _ => ?_) (fun h => absurd tf h)⟩
          refine ⟨_, rfl, a, _, 1, _, rfl, rfl, hs, at1, b2', rfl, ⟨_, hs2⟩, fun L nL => ?_⟩
          refine lc_tup (a := b2') (xs := ys.map Tx) (fun i H3 => H3 L = some (.lst (((ys.take i).filter fun y => decide (y = x)).map Tx)) ∧ Stp [] H H3) ⟨upd_same, Stp.new nL _⟩ (fun i H3 _ ⟨_, S3⟩ => sqt_stp S3 Lsts.nil hs2) ?_ ?_
          · rintro i y H3 hy ⟨hL, S3⟩
            rw [List.getElem?_map] at hy
            cases e : ys[i]? with
            | none => rw [e] at hy; cases hy
            | some z =>
              rw [e] at hy
              cases hy
              have e2 : (ys.take (i + 1)).filter (fun y => decide (y = x)) = ((ys.take i).filter fun y => decide (y = x)) ++ (if z = x then [z] else []) := by
                rw [List.take_add_one, e, List.filter_append]
                show _ ++ List.filter _ [z] = _
                rw [List.filter_cons, List.filter_nil]
                by_cases g : z = x
                · rw [if_pos (decide_eq_true g), if_pos g]
                · rw [if_neg (by rw [decide_eq_false g]; decide), if_neg g]
              have len : ((ys.take i).filter fun y => decide (y = x)).length < 100000 := by
                have h1 := List.length_filter_le (fun y => decide (y = x)) (ys.take i)
                have h2 := (List.getElem?_eq_some_iff.mp e).1
                rw [List.length_take] at h1
                rw [eu, List.length_map] at hl
                omega
              refine ⟨rfl, _, rfl, _, rfl, rfl, _, rfl, ?_⟩
              rw [show decide (Tx z = oV (some x)) = decide (z = x) from eq_tx z x]
              refine ite2 (fun h => ?_) (fun h => ?_)
              · have g : z = x := of_decide_eq_true h
                refine ⟨_, rfl, _, hL, ?_, ?_, S3.mut nL⟩
                · rw [List.length_map]
                  exact Nat.lt_of_lt_of_le len (by decide)
                · rw [upd_same, e2, if_pos g, List.map_append]
                  rfl
              · have g : ¬ z = x := fun g => h (decide_eq_true g)
                rw [e2, if_neg g, List.append_nil]
                exact ⟨hL, S3⟩
          · rintro H3 ⟨hL, S3⟩
            rw [List.length_map, List.take_length] at hL
            have ea : ((ys.map Dt.str).any (eqD x)) = decide (((ys.filter fun y => decide (y = x)).map Tx) ≠ []) := by
              rw [List.any_map, Bool.eq_iff_iff, List.any_eq_true, decide_eq_true_iff]
              refine ⟨fun ⟨y, hy, e⟩ => ?_, fun h => ?_⟩
              · have e : x = y := of_decide_eq_true e
                subst e
                intro q
                have := List.map_eq_nil_iff.mp q
                have m2 : x ∈ ys.filter fun y => decide (y = x) := List.mem_filter.mpr ⟨hy, decide_eq_true rfl⟩
                rw [this] at m2
                cases m2
              · obtain ⟨z, hz⟩ := List.exists_mem_of_ne_nil _ h
                obtain ⟨y, hy, _⟩ := List.mem_map.mp hz
                obtain ⟨h1, h2⟩ := List.mem_filter.mp hy
                exact ⟨y, h1, decide_eq_true (of_decide_eq_true h2).symm⟩
            have ee : ∀ l : List V, decide (l ≠ []) = !l.isEmpty := fun l => by cases l <;> simp
            rw [ea, ee] at k
            refine ⟨Nat.zero_le _, fun q nq => ?_⟩
            have S4 : Stp [] H3 (upd H3 q (.lst [])) := Stp.new nq _
            refine ⟨L, q, _, rfl, rfl, ne_of_none hL nq, SqL.of (S4.kp _ _ (fun m => nomatch m) hL), SqL.of upd_same, ?_⟩
            exact .inr ⟨_, rfl, 2, _, rfl, rfl, mul2 _, k _ (S3.trans S4)⟩
    | tx hw ha =>
      obtain ⟨tw, na⟩ := txw_tx hw
      obtain ⟨a, u, rfl, hs, ru⟩ := rp2 r
      cases ru
      rename_i l ly
      rw [lev_two] at k
      refine ⟨_, rfl, a, _, 0, _, rfl, rfl, hs, at0, rfl, _, rfl, ite2 (fun h => absurd h (nf tw.1)) (fun _ => ?_)⟩
      refine ⟨_, rfl, a, _, 0, _, rfl, rfl, hs, at0, rfl, _, rfl, ite2 (fun h => absurd h (nf tw.2.1)) (fun _ => ?_)⟩
      refine ⟨_, rfl, a, _, 0, _, rfl, rfl, hs, at0, rfl, _, rfl, ite2 (fun h => absurd h (nf tw.2.2.1)) (fun _ => ?_)⟩
      refine ⟨_, rfl, a, _, 0, _, rfl, rfl, hs, at0, rfl, _, rfl, ite2 (fun h => absurd h (nf tw.2.2.2.1)) (fun _ => ?_)⟩
      refine ⟨_, rfl, a, _, 0, _, rfl, rfl, hs, at0, rfl, _, rfl, ite2 (fun h => absurd h (nf tw.2.2.2.2)) (fun _ => ?_)⟩
      cases t with
      | none =>
        rw [lev_txn _ tw] at k
        exact ⟨_, rfl, rfl, _, rfl, ite2 (fun _ => k H (Stp.refl _ _)) (fun h => absurd rfl h)⟩
      | some x =>
        rw [lev_txs _ tw na, ← b2] at k
        refine ⟨_, rfl, rfl, _, rfl, ite2 (fun h => absurd h (by simp [oV])) (fun _ => ?_)⟩
        refine ⟨_, rfl, a, _, 0, _, rfl, rfl, hs, at0, rfl, _, rfl, ite2 (fun h => absurd h (nf na)) (fun _ => ?_)⟩
        rcases hw with rfl | rfl | rfl | rfl
        · refine ⟨_, rfl, a, _, 0, _, rfl, rfl, hs, at0, rfl, _, rfl, ite2 (fun h => absurd h (nf (by decide +kernel))) (fun _ => ?_)⟩
          refine ⟨_, rfl, a, _, 0, _, rfl, rfl, hs, at0, rfl, _, rfl, ite2 (fun _ => ?_) (fun h => absurd tf h)⟩
          refine ⟨_, rfl, _, rfl, a, _, 1, _, rfl, rfl, hs, at1, rfl, .inr ⟨_, rfl, 2, _, rfl, rfl, mul2 _, ?_⟩⟩
          rw [show fits "is" l x = decide (Tx x = Tx l) from (eq_tx x l).symm] at k
          exact k H (Stp.refl _ _)
        · refine ⟨_, rfl, a, _, 0, _, rfl, rfl, hs, at0, rfl, _, rfl, ite2 (fun h => absurd h (nf (by decide +kernel))) (fun _ => ?_)⟩
          refine ⟨_, rfl, a, _, 0, _, rfl, rfl, hs, at0, rfl, _, rfl, ite2 (fun h => absurd h (nf (by decide +kernel))) (fun _ => ?_)⟩
          refine ⟨_, rfl, a, _, 0, _, rfl, rfl, hs, at0, rfl, _, rfl, ite2 (fun _ => ?_) (fun h => absurd tf h)⟩
          refine ⟨_, rfl, _, rfl, a, _, 1, _, rfl, rfl, hs, at1, tx x, tx l, rfl, rfl, .inr ⟨_, rfl, 2, _, rfl, rfl, mul2 _, ?_⟩⟩
          exact k H (Stp.refl _ _)
        · refine ⟨_, rfl, a, _, 0, _, rfl, rfl, hs, at0, rfl, _, rfl, ite2 (fun h => absurd h (nf (by decide +kernel))) (fun _ => ?_)⟩
          refine ⟨_, rfl, a, _, 0, _, rfl, rfl, hs, at0, rfl, _, rfl, ite2 (fun h => absurd h (nf (by decide +kernel))) (fun _ => ?_)⟩
          refine ⟨_, rfl, a, _, 0, _, rfl, rfl, hs, at0, rfl, _, rfl, ite2 (fun h => absurd h (nf (by decide +kernel))) (fun _ => ?_)⟩
          refine ⟨_, rfl, _, rfl, a, _, 1, _, rfl, rfl, hs, at1, tx x, tx l, rfl, rfl, .inr ⟨_, rfl, 2, _, rfl, rfl, mul2 _, ?_⟩⟩
          exact k H (Stp.refl _ _)
        · refine ⟨_, rfl, a, _, 0, _, rfl, rfl, hs, at0, rfl, _, rfl, ite2 (fun _ => ?_) (fun h => absurd tf h)⟩
          refine ⟨_, rfl, _, rfl, a, _, 1, _, rfl, rfl, hs, at1, tx l, rfl, szt ly, _, rfl, tx x, rfl, szt (by have := (ok x rfl).2; omega), ?_⟩
          rw [tx_len, tx_upto]
          refine ⟨_, rfl, a, _, 1, _, rfl, rfl, hs, at1, rfl, .inr ⟨_, rfl, 2, _, rfl, rfl, mul2 _, ?_⟩⟩
          rw [show fits "begins" l x = decide (V.str (tx (x.take l.length)) = Tx l) from (eq_tx _ l).symm] at k
          exact k H (Stp.refl _ _)
theorem level_all {f : Addr} {fd : FuncData} (D : Df K mg "_law_level" s__law_level ["sieve", "thing"] f fd) (T : Nm mg) : ∀ n : Nat, Cl P w K mg base (n + 1) "_law_level" s__law_level ["sieve", "thing"] (spLev K n)
  | 0 => cl_never D (fun vs H Q E ⟨v, d, _, _, _, _, hd, _⟩ => Nat.not_lt_zero _ hd) 1
  | n + 1 => level_step D T (by omega) (level_all D T n)
abbrev s__law_values : Stmt := topS 32
abbrev N__law_values : List Str := ["bag", "pool", "upto", "found", "k"]
theorem sc__law_values : FnScope ["bag", "pool", "upto", "found", "k"] ["bag", "pool", "upto"] (defScope s__law_values) := ⟨rfl, rfl, rfl, by decide +kernel, rfl, by decide +kernel, by decide +kernel⟩

def OkW (t : Vl) : Prop := ∀ l, t = some l → Abc l ∧ l.length ≤ 12
def spVals : Sp := fun vs H Q _ => ∃ (b p : Addr) (n : Nat) (ls : List (List Nat)) (up : Int), vs = [.ref b, .ref p, .int up] ∧ 0 ≤ up ∧ up ≤ 40 ∧ Bag H b n ∧ n + 2000 < 2 ^ 30 ∧ Pool H p ls ∧ ls.length < 2 ^ 20 ∧ b ≠ p ∧
  ∀ L (ts : List Vl) H', H' L = some (.lst (ts.map oV)) → (∀ t ∈ ts, OkW t) → ts.length ≤ 40 → Stp [b] H H' → Bag H' b (n + 1200) → Q (.ref L) H'
theorem cl__law_values {f : Addr} {fd : FuncData} (D : Df K mg "_law_values" s__law_values ["bag", "pool", "upto"] f fd) (T : Nm mg) (c__law_draw : Cl P w K mg base 1 "_law_draw" s__law_draw ["bag", "upto"] spDraw) (c__law_some : Cl P w K mg base 3 "_law_some" s__law_some ["bag", "pool"] spSome) : Cl P w K mg base 4 "_law_values" s__law_values ["bag", "pool", "upto"] spVals := by
  refine D.cl sc__law_values (fun vs H Q E h => ?_) (fun cdv A outer s H vs Q E hr h => ?_)
  · obtain ⟨b, p, n, ls, up, rfl, _⟩ := h
    rfl
  · obtain ⟨b, p, n, ls, up, rfl, u0, u1, B, hn, pl, few, ne, k⟩ := h
    refine ⟨_, (pss_cons (ps_set (i := 3) sc__law_values.nd rfl (by first | exact Or.inl rfl | exact Or.inr rfl) (pe_lst pa_nil))
      (pss_cons (ps_for PassesOwn.never rfl (pi_range1 (by rfl) T.n_range (pa_cons (pe_cl c__law_draw hr (by omega) (pa_cons (pv 0) (pa_cons (pe_op op_add (pv 2) pe_int) pa_nil))) pa_nil)) (pg_name (i := 4) sc__law_values.nd rfl (by first | exact Or.inl rfl | exact Or.inr rfl)) (pss_one (ps_expr (pe_bm PySem.F.plainAttrs_list PySem.F.slot_list_append PySem.F.type_list_append mt_append (pv 3) (pa_cons (pe_ifExp (pt_cmpR op_eq (pe_cl c__law_draw hr (by omega) (pa_cons (pv 0) (pa_cons pe_int pa_nil))) pe_int (by first | exact nomark _ | rfl)) pe_non (pe_cl c__law_some hr (by omega) (pa_cons (pv 0) (pa_cons (pv 1) pa_nil)))) pa_nil)))))
      (pss_one (ps_ret (pv 3))))), ?_⟩
    have one : b ∈ [b] := List.mem_singleton.mpr rfl
    refine ⟨Nat.zero_le _, fun L nL => ?_⟩
    have Lb : L ≠ b := (B.ne nL).symm
    have Lp : L ≠ p := (ne_of_none pl.1 nL).symm
    have LB : L ∉ [b] := fun m => Lb (List.mem_singleton.mp m)
    have pB : p ∉ [b] := fun m => ne (List.mem_singleton.mp m).symm
    have B0 := B.upd (o := .lst []) Lb.symm
    have S0 : Stp [L, b] H (upd H L (.lst [])) := Stp.new nL _
    have pLB : p ∉ [L, b] := fun m => by
      simp at m
      rcases m with m | m
      · exact Lp m.symm
      · exact ne m.symm
    have sub : ∀ x ∈ ([b] : List Addr), x ∈ [L, b] := fun x m => by rw [List.mem_singleton.mp m]; simp
    have pl0 : Pool (upd H L (.lst [])) p ls := ⟨S0.kp _ _ pLB pl.1, pl.2⟩
    have hL0 : (upd H L (.lst [])) L = some (.lst []) := upd_same
    generalize upd H L (.lst []) = H0 at *
    refine ⟨_, rfl, _, rfl, _, _, rfl, rfl, b, _, n, rfl, B0, by omega, by omega, by omega, fun z H1 z0 z1 o1 B1 => ?_⟩
    have S1 := o1.stp one
    refine ⟨z, rfl, by omega, by omega, for_range (lo := 0) (n := z.toNat) (fun i σ H2 => ∃ (x : Option V) (ts : List Vl), σ = [some (.ref b), some (.ref p), some (.int up), some (.ref L), x] ∧ H2 L = some (.lst (ts.map oV)) ∧ ts.length = i ∧ (∀ t ∈ ts, OkW t) ∧ Stp [L, b] H1 H2 ∧ Bag H2 b (n + 1 + 25 * i))
      ⟨_, [], rfl, o1.at hL0 Lb, rfl, fun _ m => (nomatch m), Stp.refl _ _, B1⟩ ?_ ?_⟩
    · rintro i σ H2 hi ⟨x, ts, rfl, hL, hl, ok, S2, B2⟩
      have pl2 : Pool H2 p ls := ⟨S2.kp _ _ pLB ((S1.sub sub).kp _ _ pLB pl0.1), pl0.2⟩
      refine ⟨_, rfl, .inl ⟨rfl, _, SqL.of hL⟩, ?_⟩
      refine ⟨_, rfl, b, 5, _, rfl, B2, by omega, by omega, by omega, fun d H3 d0 d1 o3 B3 => ?_⟩
      have S3 := o3.stp one
      have hL3 := S3.kp _ _ LB hL
      have fin : ∀ (t : Vl) (H4 : Hp), OkW t → Stp [b] H3 H4 → Bag H4 b (n + 1 + 25 * i + 1 + 20) → H4 L = some (.lst (ts.map oV)) → ∃ (x : Option V) (ts' : List Vl), [some (V.ref b), some (.ref p), some (.int up), some (.ref L), some (.int ((0 : Int) + (i : Int)))] = [some (.ref b), some (.ref p), some (.int up), some (.ref L), x] ∧ (upd H4 L (.lst (ts.map oV ++ [oV t]))) L = some (.lst (ts'.map oV)) ∧ ts'.length = i + 1 ∧ (∀ t ∈ ts', OkW t) ∧ Stp [L, b] H1 (upd H4 L (.lst (ts.map oV ++ [oV t]))) ∧ Bag (upd H4 L (.lst (ts.map oV ++ [oV t]))) b (n + 1 + 25 * (i + 1)) := fun t H4 ot S4 B4 hL4 => by
        refine ⟨_, ts ++ [t], rfl, ?_, by simp [hl], fun u m => ?_, ((S2.trans (S3.sub sub)).trans (S4.sub sub)).put' (by simp), (B4.upd Lb.symm).mono (by omega)⟩
        · rw [upd_same, List.map_append]
          rfl
        · rcases List.mem_append.mp m with m | m
          · exact ok u m
          · rw [List.mem_singleton.mp m]; exact ot
      have sz9 : (ts.map oV).length < sizeLine := by
        rw [List.length_map, hl]
        exact Nat.lt_of_lt_of_le (show i < 100000 by omega) (by decide)
      refine ⟨rfl, _, rfl, ite2 (fun h => ?_) (fun h => ?_)⟩
      · exact ⟨L, _, _, rfl, rfl, hL3, sz9, fin none H3 (fun _ e => nomatch e) (Stp.refl _ _) (B3.mono (by omega)) hL3⟩
      · have pl3 : Pool H3 p ls := ⟨S3.kp _ _ pB pl2.1, pl2.2⟩
        refine ⟨_, rfl, _, rfl, b, p, _, ls, rfl, B3, by omega, pl3, few, ne, fun m H4 am ml S4 B4 => ?_⟩
        have hL4 := S4.kp _ _ LB hL3
        exact ⟨L, _, _, rfl, rfl, hL4, sz9, fin (some m) H4 (fun l e => by cases e; exact ⟨am, ml⟩) S4 B4 hL4⟩
    · rintro σ H2 ⟨x, ts, rfl, hL, hl, ok, S2, B2⟩
      refine ⟨_, rfl, k L ts H2 hL ok (by omega) ?_ (B2.mono (by omega))⟩
      exact Stp.loc nL (S0.trans ((S1.sub sub).trans S2))
abbrev s__law_right : Stmt := topS 33
abbrev N__law_right : List Str := ["sieve", "things", "levels", "due", "passed", "found", "spots", "moved", "thing", "level", "k"]
theorem sc__law_right : FnScope ["sieve", "things", "levels", "due", "passed", "found", "spots", "moved", "thing", "level", "k"] ["sieve", "things"] (defScope s__law_right) := ⟨rfl, rfl, rfl, by decide +kernel, rfl, by decide +kernel, by decide +kernel⟩

def vd : Vl → D
  | none => .non
  | some l => .str l
/-- a leaf that repr tells in at most 40 letters -/
def Leaf (d : D) : Prop := d.fair = true ∧ d.deep = 0 ∧ d.wt ≤ 200
theorem leaf_fine {ds : List D} (h : ∀ d ∈ ds, Leaf d) (n : ds.length ≤ 60) : (D.lst ds).Fine := by
  have f : ∀ {ds : List D}, (∀ d ∈ ds, Leaf d) → D.fairs ds = true ∧ D.deeps ds = 0 ∧ D.wts ds ≤ 10 + 202 * ds.length := by
    intro ds
    induction ds with
    | nil => intro _; exact ⟨by unfold D.fairs; rfl, by unfold D.deeps; rfl, by unfold D.wts; simp⟩
    | cons d ds ih =>
      intro h
      obtain ⟨a, b, c⟩ := ih fun d m => h d (List.mem_cons_of_mem _ m)
      obtain ⟨a1, b1, c1⟩ := h d List.mem_cons_self
      refine ⟨?_, ?_, ?_⟩
      · unfold D.fairs; rw [a, a1]; rfl
      · unfold D.deeps; rw [b, b1]; rfl
      · unfold D.wts; rw [List.length_cons]; omega
  obtain ⟨a, b, c⟩ := f h
  refine ⟨?_, ?_, ?_⟩
  · unfold D.fair; exact a
  · unfold D.deep; omega
  · unfold D.wt; omega
theorem leaf_int {i : Int} (h : i.natAbs < 1000) : Leaf (.int i) := by
  refine ⟨?_, ?_, ?_⟩
  · unfold D.fair; exact decide_eq_true (by omega)
  · unfold D.deep; rfl
  · unfold D.wt; omega
theorem leaf_ans {i : Int} (h : In3 i) : Leaf (.str (ansW i).cps.toList) := by
  rcases h with rfl | rfl | rfl <;> exact ⟨by unfold D.fair; decide +kernel, by unfold D.deep; rfl, by unfold D.wt; decide +kernel⟩
theorem abc_fair1 {l : List Nat} (h : Abc l) : D.fair (.str l) = true := by
  unfold D.fair
  exact List.all_eq_true.mpr fun c m => decide_eq_true (by rcases h c m with rfl | rfl | rfl <;> decide)
theorem leaf_vd {t : Vl} (h : OkW t) : Leaf (vd t) := by
  cases t with
  | none => exact ⟨by unfold vd D.fair; rfl, by unfold vd D.deep; rfl, by unfold vd D.wt; omega⟩
  | some l =>
    obtain ⟨a, b⟩ := h l rfl
    exact ⟨abc_fair1 a, by unfold vd D.deep; rfl, by unfold vd D.wt; omega⟩
theorem rvl_words {K : PySem.W.Frag} {S : List Addr} {H : Hp} : ∀ {ws : List Str}, (∀ w ∈ ws, w.cps.toList.length ≤ 100000) → RvL K S H (ws.map V.str) (ws.map fun w => D.str w.cps.toList)
  | [], _ => .nil
  | w :: ws, h => .cons (by have := Rv.str (K := K) (S := S) (H := H) w.cps.toList (h w List.mem_cons_self); rwa [show Tx w.cps.toList = V.str w from congrArg V.str (lit_tx w)] at this) (rvl_words fun w m => h w (List.mem_cons_of_mem _ m))
theorem rvl_ints {K : PySem.W.Frag} {S : List Addr} {H : Hp} : ∀ {is : List Int}, RvL K S H (is.map V.int) (is.map D.int)
  | [] => .nil
  | i :: is => .cons (.int i) rvl_ints
theorem rvl_vals {K : PySem.W.Frag} {S : List Addr} {H : Hp} : ∀ {ts : List Vl}, (∀ t ∈ ts, OkW t) → RvL K S H (ts.map oV) (ts.map vd)
  | [], _ => .nil
  | none :: ts, h => .cons .non (rvl_vals fun w m => h w (List.mem_cons_of_mem _ m))
  | some l :: ts, h => .cons (.str l (by have := (h (some l) List.mem_cons_self l rfl).2; omega)) (rvl_vals fun w m => h w (List.mem_cons_of_mem _ m))
theorem rv_lst {K : PySem.W.Frag} {H : Hp} {L : Addr} {vs : List V} {ds : List D} (h : H L = some (.lst vs)) (r : RvL K [] H vs ds) (n : vs.length ≤ 100) : Rv K [] H (.ref L) (D.lst ds) := .lst h (fun m => nomatch m) (by omega) r
def swap2 {α : Type} : List α → List α
  | [a, b] => [b, a]
  | _ => []
theorem kb_answer_value_query {K : PySem.W.Frag} (f : Addr) (fd : FuncData) (F : Fun K "answer" "answer" s_answer f fd) : KBinds K fd ["query", "value"] ["value", "query"] (fun us ws => match us with | [] => swap2 ws | _ :: _ => []) (fun vs zs => match vs with | [] => swap2 zs | _ :: _ => []) :=
  kb_of (g := swap2) (gV := swap2) F (by simp) (fun kV doc pm an cdv ct ws hl => by
    rcases ws with _ | ⟨a, _ | ⟨b, _ | ⟨c, t⟩⟩⟩
    · cases hl
    · cases hl
    · rfl
    · cases hl) fun {zs ws} r => by
    cases r with
    | nil => exact .nil
    | cons r1 r =>
      cases r with
      | nil => exact .nil
      | cons r2 r =>
        cases r with
        | nil => exact .cons r2 (.cons r1 .nil)
        | cons _ _ => exact .nil
theorem kb_picked_column_query {K : PySem.W.Frag} (f : Addr) (fd : FuncData) (F : Fun K "picked" "picked" s_picked f fd) : KBinds K fd ["query", "column"] ["column", "query"] (fun us ws => match us with | [] => swap2 ws | _ :: _ => []) (fun vs zs => match vs with | [] => swap2 zs | _ :: _ => []) :=
  kb_of (g := swap2) (gV := swap2) F (by simp) (fun kV doc pm an cdv ct ws hl => by
    rcases ws with _ | ⟨a, _ | ⟨b, _ | ⟨c, t⟩⟩⟩
    · cases hl
    · cases hl
    · rfl
    · cases hl) fun {zs ws} r => by
    cases r with
    | nil => exact .nil
    | cons r1 r =>
      cases r with
      | nil => exact .nil
      | cons r2 r =>
        cases r with
        | nil => exact .cons r2 (.cons r1 .nil)
        | cons _ _ => exact .nil
theorem spots_lt (n : Nat) (d : Dt) : ∀ (i : Nat) (ts : List Vl), ∀ x ∈ spots n d i ts, 0 ≤ x ∧ x < ((i + ts.length : Nat) : Int)
  | _, [], _, m => nomatch m
  | i, t :: ts, x, m => by
    have e : spots n d i (t :: ts) = (if lev n t d = 2 then [(i : Int)] else []) ++ spots n d (i + 1) ts := rfl
    rw [e] at m
    rw [List.length_cons]
    rcases List.mem_append.mp m with m | m
    · split at m
      · rw [List.mem_singleton.mp m]
        omega
      · cases m
    · have := spots_lt n d (i + 1) ts x m
      omega
theorem spots_up (n : Nat) (d : Dt) : ∀ (i : Nat) (ts : List Vl), spots n d (i + 1) ts = (spots n d i ts).map (· + 1)
  | _, [] => rfl
  | i, t :: ts => by
    show (if lev n t d = 2 then [((i + 1 : Nat) : Int)] else []) ++ spots n d (i + 1 + 1) ts = ((if lev n t d = 2 then [(i : Int)] else []) ++ spots n d (i + 1) ts).map (· + 1)
    rw [spots_up n d (i + 1) ts, List.map_append]
    congr 1
    split <;> simp
def spRight (K : PySem.W.Frag) (n : Nat) : Sp := fun vs H Q _ => ∃ (v : V) (d : Dt) (a : Addr) (ts : List Vl), vs = [v, .ref a] ∧ Rp K H v d ∧ Flt d ∧ d.dep < n ∧ H a = some (.lst (ts.map oV)) ∧ (∀ t ∈ ts, OkW t) ∧ ts.length ≤ 39 ∧ ∀ H', Stp [] H H' → Q (.bl true) H'
theorem cl__law_right {f : Addr} {fd : FuncData} {n m : Nat} (hm : 3 ≤ m) (D' : Df K mg "_law_right" s__law_right ["sieve", "things"] f fd) (T : Nm mg) (c__law_level : Cl P w K mg base m "_law_level" s__law_level ["sieve", "thing"] (spLev K n)) (c_answer : Cl P w K mg base m "answer" s_answer ["query", "value"] (spAns K n))
    (c_picked : Cl P w K mg base m "picked" s_picked ["query", "column"] (spPick K n)) : ClG P w K mg base (m + 1) "_law_right" s__law_right ["sieve", "things"] (spRight K n) := by
  refine ⟨f, fd, D', Df.g D' sc__law_right (fun vs H Q E h => ?_) (fun cdv A outer s H vs Q E hG hr h => ?_)⟩
  · obtain ⟨v, d, a, ts, rfl, _⟩ := h
    rfl
  · obtain ⟨v, d, a, ts, rfl, r, fl, dp, ha, ok, few, k⟩ := h
    refine ⟨_, (pss_cons (ps_set (i := 2) sc__law_right.nd rfl (by first | exact Or.inl rfl | exact Or.inr rfl) (pe_lc (own := [("thing", 8)]) rfl sc__law_right.nd (pi_list (pv 1)) (blkOk_by (own := [("thing", 8)]) (N := N__law_right) (sc := defScope s__law_right) (by decide +kernel)) (fun _ _ _ _ _ => (pg_name (i := 8) sc__law_right.nd rfl (by first | exact Or.inl rfl | exact Or.inr rfl))) (fun _ _ _ _ _ => pts_nil) (fun _ _ _ _ _ => (pe_cl c__law_level hr (by omega) (pa_cons (pv 0) (pa_cons (pv 8) pa_nil))))))
      (pss_cons (ps_setLc (i := 3) (own := [("level", 9)]) rfl sc__law_right.nd rfl rfl (sw_true rfl rfl rfl (by decide +kernel)) (pi_list (pv 2)) (blkOk_by (own := [("level", 9)]) (N := N__law_right) (sc := defScope s__law_right) (by decide +kernel)) (fun _ _ _ _ _ => (pg_name (i := 9) sc__law_right.nd rfl (by first | exact Or.inl rfl | exact Or.inr rfl))) (fun _ _ _ _ _ => pts_nil) (fun _ _ _ _ _ => (pe_ix (ix_listK rfl) (pe_lst (pa_cons pe_str (pa_cons pe_str (pa_cons pe_str pa_nil)))) (pv 9) (fun _ _ => rfl))))
      (pss_cons (ps_if (pt_cmpR op_ne (pe_callB (Pv.call_reprD hG hr) (by rfl) T.n_repr (by decide +kernel) (pa_cons (pe_lc (own := [("thing", 8)]) rfl sc__law_right.nd (pi_list (pv 1)) (blkOk_by (own := [("thing", 8)]) (N := N__law_right) (sc := defScope s__law_right) (by decide +kernel)) (fun _ _ _ _ _ => (pg_name (i := 8) sc__law_right.nd rfl (by first | exact Or.inl rfl | exact Or.inr rfl))) (fun _ _ _ _ _ => pts_nil) (fun _ _ _ _ _ => (pe_cl c_answer hr (by omega) (pa_cons (pv 0) (pa_cons (pv 8) pa_nil))))) pa_nil)) (pe_callB (Pv.call_reprD hG hr) (by rfl) T.n_repr (by decide +kernel) (pa_cons (pv 3) pa_nil)) (by first | exact nomark _ | rfl)) (pss_one (ps_ret pe_bl)) pss_nil)
      (pss_cons (ps_if (pt_cmpR op_ne (pe_callB (Pv.call_reprD hG hr) (by rfl) T.n_repr (by decide +kernel) (pa_cons (pe_lc (own := [("thing", 8)]) rfl sc__law_right.nd (pi_list (pe_slice sl_list (pv 1) po_none (po_some pe_int))) (blkOk_by (own := [("thing", 8)]) (N := N__law_right) (sc := defScope s__law_right) (by decide +kernel)) (fun _ _ _ _ _ => (pg_name (i := 8) sc__law_right.nd rfl (by first | exact Or.inl rfl | exact Or.inr rfl))) (fun _ _ _ _ _ => pts_nil) (fun _ _ _ _ _ => (pe_clK c_answer hr (by omega) kb_answer_value_query (pk_cons (pv 8) (pk_cons (pv 0) pk_nil))))) pa_nil)) (pe_callB (Pv.call_reprD hG hr) (by rfl) T.n_repr (by decide +kernel) (pa_cons (pe_slice sl_list (pv 3) po_none (po_some pe_int)) pa_nil)) (by first | exact nomark _ | rfl)) (pss_one (ps_ret pe_bl)) pss_nil)
      (pss_cons (ps_set (i := 4) sc__law_right.nd rfl (by first | exact Or.inl rfl | exact Or.inr rfl) (pe_callTy call_list_of (by rfl) T.n_list (by decide +kernel) (pa_cons (pv 1) pa_nil)))
      (pss_cons (ps_set (i := 5) sc__law_right.nd rfl (by first | exact Or.inl rfl | exact Or.inr rfl) (pe_cl c_picked hr (by omega) (pa_cons (pv 0) (pa_cons (pv 4) pa_nil))))
      (pss_cons (ps_setLc (i := 6) (own := [("k", 10)]) rfl sc__law_right.nd rfl rfl (sw_true rfl rfl rfl (by decide +kernel)) (pi_range1 (by rfl) T.n_range (pa_cons (pe_callB call_len_seq (by rfl) T.n_len (by decide +kernel) (pa_cons (pv 1) pa_nil)) pa_nil)) (blkOk_by (own := [("k", 10)]) (N := N__law_right) (sc := defScope s__law_right) (by decide +kernel)) (fun _ _ _ _ _ => (pg_name (i := 10) sc__law_right.nd rfl (by first | exact Or.inl rfl | exact Or.inr rfl))) (fun _ _ _ _ _ => (pts_one (pt_cmpR op_eq (pe_ix (ix_listK rfl) (pv 2) (pv 10) (fun _ _ => rfl)) pe_int (by first | exact nomark _ | rfl)))) (fun _ _ _ _ _ => (pv 10)))
      (pss_cons (ps_if (PW.pt (pw_or (pt_cmpR op_ne (pe_callB (Pv.call_reprD hG hr) (by rfl) T.n_repr (by decide +kernel) (pa_cons (pv 5) pa_nil)) (pe_callB (Pv.call_reprD hG hr) (by rfl) T.n_repr (by decide +kernel) (pa_cons (pv 6) pa_nil)) (by first | exact nomark _ | rfl)) (pw_or1 (pt_cmpR op_ne (pe_callB (Pv.call_reprD hG hr) (by rfl) T.n_repr (by decide +kernel) (pa_cons (pe_clK c_picked hr (by omega) kb_picked_column_query (pk_cons (pv 4) (pk_cons (pv 0) pk_nil))) pa_nil)) (pe_callB (Pv.call_reprD hG hr) (by rfl) T.n_repr (by decide +kernel) (pa_cons (pv 6) pa_nil)) (by first | exact nomark _ | rfl))))) (pss_one (ps_ret pe_bl)) pss_nil)
      (pss_cons (ps_expr (pe_bm PySem.F.plainAttrs_list PySem.F.slot_list_append PySem.F.type_list_append mt_append (pv 5) (pa_cons pe_int pa_nil)))
      (pss_cons (ps_if (PW.pt (pw_or (pt_cmpR op_ne (pe_callB (Pv.call_reprD hG hr) (by rfl) T.n_repr (by decide +kernel) (pa_cons (pv 4) pa_nil)) (pe_callB (Pv.call_reprD hG hr) (by rfl) T.n_repr (by decide +kernel) (pa_cons (pv 1) pa_nil)) (by first | exact nomark _ | rfl)) (pw_or1 (pt_cmpR op_ne (pe_callB (Pv.call_reprD hG hr) (by rfl) T.n_repr (by decide +kernel) (pa_cons (pe_cl c_picked hr (by omega) (pa_cons (pv 0) (pa_cons (pv 4) pa_nil))) pa_nil)) (pe_callB (Pv.call_reprD hG hr) (by rfl) T.n_repr (by decide +kernel) (pa_cons (pv 6) pa_nil)) (by first | exact nomark _ | rfl))))) (pss_one (ps_ret pe_bl)) pss_nil)
      (pss_cons (ps_expr (pe_bm PySem.F.plainAttrs_list PySem.F.slot_list_insert PySem.F.type_list_insert mt_insert (pv 4) (pa_cons pe_int (pa_cons pe_non pa_nil))))
      (pss_cons (ps_set (i := 7) sc__law_right.nd rfl (by first | exact Or.inl rfl | exact Or.inr rfl) (pe_ifExp (pt_cmpR op_eq (pe_cl c__law_level hr (by omega) (pa_cons (pv 0) (pa_cons pe_non pa_nil))) pe_int (by first | exact nomark _ | rfl)) (pe_lst (pa_cons pe_int pa_nil)) (pe_lst pa_nil)))
      (pss_one (ps_ret (pe_cmpR op_eq (pe_callB (Pv.call_reprD hG hr) (by rfl) T.n_repr (by decide +kernel) (pa_cons (pe_cl c_picked hr (by omega) (pa_cons (pv 0) (pa_cons (pv 4) pa_nil))) pa_nil)) (pe_callB (Pv.call_reprD hG hr) (by rfl) T.n_repr (by decide +kernel) (pa_cons (pe_op op_cat (pv 7) (pe_lc (own := [("k", 10)]) rfl sc__law_right.nd (pi_list (pv 6)) (blkOk_by (own := [("k", 10)]) (N := N__law_right) (sc := defScope s__law_right) (by decide +kernel)) (fun _ _ _ _ _ => (pg_name (i := 10) sc__law_right.nd rfl (by first | exact Or.inl rfl | exact Or.inr rfl))) (fun _ _ _ _ _ => pts_nil) (fun _ _ _ _ _ => (pe_op op_add (pv 10) pe_int)))) pa_nil)) (by first | exact nomark _ | rfl)))))))))))))))), ?_⟩
    have nn : ∀ {x : Addr}, x ∉ ([] : List Addr) := fun m => nomatch m
    have okv : ∀ t ∈ ts, OkV t := fun t m l e => ⟨(ok t m l e).1, by have := (ok t m l e).2; omega⟩
    -- levels
    refine ⟨_, rfl, a, rfl, ⟨_, SqL.of ha⟩, fun L1 n1 => ?_⟩
    refine lc_mapL (ds := (ts.map fun t => lev n t d).map Dt.int) n1 (SqL.of ha) (by simp) (by rw [List.length_map]; omega) (fun j x dd H1 hx hd S1 Q2 q => ?_) fun ws H1 S1 h1 r1 => ?_
    · rw [List.getElem?_map] at hx
      rw [List.getElem?_map, List.getElem?_map] at hd
      cases e : ts[j]? with
      | none => rw [e] at hx; cases hx
      | some t =>
        rw [e] at hx hd
        cases hx
        cases hd
        exact ⟨rfl, _, rfl, _, rfl, v, d, t, rfl, r.stp S1 Lsts.nil, fl, dp, okv t (List.mem_of_getElem? e), fun H2 S2 => q _ _ S2 (.int _)⟩
    obtain rfl := rpl_ints r1
    have in3 : ∀ i ∈ ts.map (fun t => lev n t d), In3 i := fun i mi => by
      obtain ⟨t, _, rfl⟩ := List.mem_map.mp mi
      exact lev_in n t d
    generalize els : ts.map (fun t => lev n t d) = ls at *
    have lls : ls.length = ts.length := by rw [← els, List.length_map]
    -- due
    refine ⟨_, rfl, L1, rfl, ⟨_, SqL.of h1⟩, fun L2 n2 => ?_⟩
    refine lc_mapL (ds := (ls.map fun i => (ansW i).cps.toList).map Dt.str) n2 (SqL.of h1) (by simp) (by rw [List.length_map]; omega) (fun j x dd H2 hx hd S2 Q2 q => ?_) fun ws H2 S2 h2 r2 => ?_
    · rw [List.getElem?_map] at hx
      rw [List.getElem?_map, List.getElem?_map] at hd
      cases e : ls[j]? with
      | none => rw [e] at hx; cases hx
      | some i =>
        rw [e] at hx hd
        cases hx
        cases hd
        rcases in3 i (List.mem_of_getElem? e) with rfl | rfl | rfl <;> exact ⟨rfl, (by show 3 ≤ sizeLine; decide), fun p np => ⟨_, rfl, p, _, _, _, rfl, rfl, SqL.of upd_same, rfl, q _ _ (Stp.new np _) (Rp.lit _)⟩⟩
    have ew : ∀ {H : Hp} {L : Addr} {ws : List V} {is : List Int}, H L = some (.lst ws) → RpL K H ws ((is.map fun i => (ansW i).cps.toList).map Dt.str) → H L = some (.lst ((is.map ansW).map V.str)) := fun {H L ws is} h r => by
      rw [h, rpl_strs r, List.map_map, List.map_map]
      exact congrArg (fun z => some (HO.lst z)) (List.map_congr_left fun i _ => congrArg V.str (lit_tx _))
    have wl : ∀ {is : List Int}, (∀ i ∈ is, In3 i) → is.length ≤ 39 → (D.lst ((is.map ansW).map fun w => D.str w.cps.toList)).Fine ∧ ∀ {H : Hp}, RvL K [] H ((is.map ansW).map V.str) ((is.map ansW).map fun w => D.str w.cps.toList) := fun {is} h l => by
      refine ⟨leaf_fine (fun d m => ?_) (by simp; omega), fun {H} => rvl_words fun w m => ?_⟩
      · rw [List.map_map] at m
        obtain ⟨i, mi, rfl⟩ := List.mem_map.mp m
        exact leaf_ans (h i mi)
      · obtain ⟨i, mi, rfl⟩ := List.mem_map.mp m
        rcases h i mi with rfl | rfl | rfl <;> decide +kernel
    have ne_self : ∀ s : Str, ¬ (!decide (V.str s = V.str s)) = true := fun s h => by rw [decide_eq_true rfl] at h; cases h
    have h2 := ew h2 r2
    have S02 := S1.trans S2
    have ha2 := S02.kp _ _ nn ha
    -- the answers
    refine ⟨_, rfl, a, rfl, ⟨_, SqL.of ha2⟩, fun L3 n3 => ?_⟩
    refine lc_mapL (ds := (ls.map fun i => (ansW i).cps.toList).map Dt.str) n3 (SqL.of ha2) (by simp [lls]) (by rw [List.length_map]; omega) (fun j x dd H3 hx hd S3 Q2 q => ?_) fun ws3 H3 S3 h3 r3 => ?_
    · rw [List.getElem?_map] at hx
      rw [List.getElem?_map, List.getElem?_map, ← els, List.getElem?_map] at hd
      cases e : ts[j]? with
      | none => rw [e] at hx; cases hx
      | some t =>
        rw [e] at hx hd
        cases hx
        cases hd
        refine ⟨rfl, _, rfl, _, rfl, v, d, t, rfl, r.stp (S02.trans S3) Lsts.nil, fl, dp, okv t (List.mem_of_getElem? e), fun H4 S4 => q _ _ S4 (Rp.lit _ ?_)⟩
        rcases lev_in n t d with g | g | g <;> rw [g] <;> decide +kernel
    have h3 := ew h3 r3
    have wl1 := wl in3 (by omega)
    refine tn ⟨[], _, _, rfl, rv_lst h3 wl1.2 (by simp; omega), wl1.1, ?_⟩
    have h23 := S3.kp _ _ nn h2
    refine ⟨_, rfl, tn ⟨[], _, _, rfl, rv_lst h23 wl1.2 (by simp; omega), wl1.1, ?_⟩⟩
    refine ⟨rfl, _, rfl, ite2 (fun h => absurd h (ne_self _)) (fun _ => ?_)⟩
    have S03 := S02.trans S3
    have ha3 := S03.kp _ _ nn ha
    -- the first six
    refine ⟨_, rfl, 6, rfl, a, _, rfl, SqL.of ha3, fun p6 np6 => ?_⟩
    have c6 : cutV (ts.map oV) none (some 6) = (ts.take 6).map oV := by rw [show cutV (ts.map oV) none (some 6) = _ from cut_upto 6, List.map_take]
    rw [c6]
    have S4 : Stp [] H3 (upd H3 p6 (.lst ((ts.take 6).map oV))) := Stp.new np6 _
    have h6 : (upd H3 p6 (.lst ((ts.take 6).map oV))) p6 = some (.lst ((ts.take 6).map oV)) := upd_same
    generalize upd H3 p6 (.lst ((ts.take 6).map oV)) = H4 at *
    refine ⟨p6, rfl, ⟨_, SqL.of h6⟩, fun L4 n4 => ?_⟩
    refine lc_mapL (ds := ((ls.take 6).map fun i => (ansW i).cps.toList).map Dt.str) n4 (SqL.of h6) (by simp [lls]) (by simp; omega) (fun j x dd H5 hx hd S5 Q2 q => ?_) fun ws5 H5 S5 h5 r5 => ?_
    · rw [List.getElem?_map] at hx
      rw [List.getElem?_map, List.getElem?_map, ← els, ← List.map_take, List.getElem?_map] at hd
      cases e : (ts.take 6)[j]? with
      | none => rw [e] at hx; cases hx
      | some t =>
        rw [e] at hx hd
        cases hx
        cases hd
        refine ⟨rfl, _, rfl, _, rfl, v, d, t, rfl, r.stp ((S03.trans S4).trans S5) Lsts.nil, fl, dp, okv t (List.mem_of_mem_take (List.mem_of_getElem? e)), fun H6 S6 => q _ _ S6 (Rp.lit _ ?_)⟩
        rcases lev_in n t d with g | g | g <;> rw [g] <;> decide +kernel
    have h5 := ew h5 r5
    have wl6 := wl (is := ls.take 6) (fun i m => in3 i (List.mem_of_mem_take m)) (by rw [List.length_take]; omega)
    refine tn ⟨[], _, _, rfl, rv_lst h5 wl6.2 (by simp; omega), wl6.1, ?_⟩
    have S25 := (S3.trans S4).trans S5
    have h25 := S25.kp _ _ nn h2
    refine ⟨_, rfl, 6, rfl, L2, _, rfl, SqL.of h25, fun p7 np7 => ?_⟩
    have c7 : cutV ((ls.map ansW).map V.str) none (some 6) = ((ls.take 6).map ansW).map V.str := by rw [show cutV ((ls.map ansW).map V.str) none (some 6) = _ from cut_upto 6, List.map_take, List.map_take]
    rw [c7]
    have S6 : Stp [] H5 (upd H5 p7 (.lst (((ls.take 6).map ansW).map V.str))) := Stp.new np7 _
    have h7 : (upd H5 p7 (.lst (((ls.take 6).map ansW).map V.str))) p7 = some (.lst (((ls.take 6).map ansW).map V.str)) := upd_same
    generalize upd H5 p7 (.lst (((ls.take 6).map ansW).map V.str)) = H6 at *
    refine tn ⟨[], _, _, rfl, rv_lst h7 wl6.2 (by simp; omega), wl6.1, ?_⟩
    refine ⟨rfl, _, rfl, ite2 (fun h => absurd h (ne_self _)) (fun _ => ?_)⟩
    have S06 := ((S03.trans S4).trans S5).trans S6
    have ha6 := S06.kp _ _ nn ha
    have h16 := (S2.trans (S25.trans S6)).kp _ _ nn h1
    -- picked
    refine ⟨_, rfl, a, _, rfl, .inl (SqL.of ha6), fun P nP => ?_⟩
    have S7 : Stp [] H6 (upd H6 P (.lst (ts.map oV))) := Stp.new nP _
    have hP : (upd H6 P (.lst (ts.map oV))) P = some (.lst (ts.map oV)) := upd_same
    generalize upd H6 P (.lst (ts.map oV)) = H7 at *
    have S07 := S06.trans S7
    refine ⟨_, rfl, _, rfl, v, d, P, ts, rfl, r.stp S07 Lsts.nil, fl, dp, hP, okv, by omega, fun F H8 S8 nF hF => ?_⟩
    have S08 := S07.trans S8
    have ha8 := S08.kp _ _ nn ha
    have h18 := (S7.trans S8).kp _ _ nn h16
    refine ⟨_, rfl, a, _, rfl, .inl (SqL.of ha8), _, rfl, by omega, by rw [List.length_map]; omega, fun L5 n5 => ?_⟩
    refine lc_range (lo := 0) (n := (ts.map oV).length) (fun i H9 => H9 L5 = some (.lst ((spots n d 0 (ts.take i)).map V.int)) ∧ Stp [] H8 H9) ⟨upd_same, Stp.new n5 _⟩ ?_ ?_
    · rintro i H9 hi ⟨hL, S9⟩
      rw [List.length_map] at hi
      have hti : ts[i]? = some ts[i] := List.getElem?_eq_getElem hi
      generalize ts[i] = t at hti
      have hli : (ls.map V.int)[i]? = some (.int (lev n t d)) := by rw [List.getElem?_map, ← els, List.getElem?_map, hti]; rfl
      have e2 : spots n d 0 (ts.take (i + 1)) = spots n d 0 (ts.take i) ++ (if lev n t d = 2 then [(i : Int)] else []) := by
        rw [List.take_add_one, hti]
        show spots n d 0 (ts.take i ++ [t]) = _
        rw [spots_app, List.length_take, Nat.min_eq_left (by omega), Nat.zero_add]
      have h19 := S9.kp _ _ nn h18
      rw [Int.zero_add]
      refine ⟨rfl, _, rfl, _, rfl, L1, _, _, .int (lev n t d), rfl, rfl, SqL.of h19, atI_nat hli, rfl, _, rfl, ?_⟩
      have ei : decide (V.int (lev n t d) = V.int 2) = decide (lev n t d = 2) := by
        by_cases g : lev n t d = 2
        · rw [g]; rfl
        · rw [decide_eq_false g, decide_eq_false fun e => g (V.int.inj e)]
      rw [ei]
      refine ite2 (fun h => ?_) (fun h => ?_)
      · have g : lev n t d = 2 := of_decide_eq_true h
        refine ⟨_, rfl, _, hL, ?_, ?_, S9.mut n5⟩
        · rw [List.length_map]
          have := spots_len n d 0 (ts.take i)
          rw [List.length_take] at this
          exact Nat.lt_of_le_of_lt (show (spots n d 0 (ts.take i)).length ≤ 100 by omega) (by decide)
        · rw [upd_same, e2, if_pos g, List.map_append]
          rfl
      · have g : ¬ lev n t d = 2 := fun g => h (decide_eq_true g)
        rw [e2, if_neg g, List.append_nil]
        exact ⟨hL, S9⟩
    rintro H9 ⟨hL5, S9⟩
    rw [List.length_map, List.take_length] at hL5
    have sl := spots_len n d 0 ts
    have sb : ∀ i ∈ spots n d 0 ts, i.natAbs < 100 := fun i m => by
      have := spots_lt n d 0 ts i m
      omega
    generalize esp : spots n d 0 ts = sp at *
    have S09 := S08.trans S9
    have il : ∀ {is : List Int}, (∀ i ∈ is, i.natAbs < 1000) → is.length ≤ 45 → (D.lst (is.map D.int)).Fine := fun h l => leaf_fine (fun d m => by
      obtain ⟨i, mi, rfl⟩ := List.mem_map.mp m
      exact leaf_int (h i mi)) (by simp; omega)
    have il1 := il (is := sp) (fun i m => by have := sb i m; omega) (by omega)
    have hF9 := S9.kp _ _ nn hF
    have hP9 := (S8.trans S9).kp _ _ nn hP
    have FL5 : F ≠ L5 := ne_of_none hF n5
    refine ⟨_, rfl, tn ⟨[], _, _, rfl, rv_lst hF9 rvl_ints (by simp; omega), il1, ?_⟩⟩
    refine ⟨_, rfl, tn ⟨[], _, _, rfl, rv_lst hL5 rvl_ints (by simp; omega), il1, ?_⟩⟩
    refine ⟨rfl, _, rfl, ite2 (fun h => absurd h (ne_self _)) (fun _ => ?_)⟩
    refine ⟨_, rfl, _, rfl, v, d, P, ts, rfl, r.stp S09 Lsts.nil, fl, dp, hP9, okv, by omega, fun F2 HA SA nA hA => ?_⟩
    rw [esp] at hA
    have hL5A := SA.kp _ _ nn hL5
    refine tn ⟨[], _, _, rfl, rv_lst hA rvl_ints (by simp; omega), il1, ?_⟩
    refine ⟨_, rfl, tn ⟨[], _, _, rfl, rv_lst hL5A rvl_ints (by simp; omega), il1, ?_⟩⟩
    refine ⟨rfl, _, rfl, ite2 (fun h => absurd h (ne_self _)) (fun _ => ?_)⟩
    -- found is one's own
    have hFA := SA.kp _ _ nn hF9
    refine ⟨_, rfl, .inl ⟨rfl, _, SqL.of hFA⟩, F, _, _, rfl, rfl, hFA, ?_, ?_⟩
    · rw [List.length_map]
      exact Nat.lt_of_le_of_lt (show sp.length ≤ 100 by omega) (by decide)
    have SB : Stp [] H7 (upd HA F (.lst (sp.map V.int ++ [V.int 0]))) := ((S8.trans S9).trans SA).mut nF
    have hL5B : (upd HA F (.lst (sp.map V.int ++ [V.int 0]))) L5 = some (.lst (sp.map V.int)) := by rw [upd_ne FL5.symm]; exact hL5A
    generalize upd HA F (.lst (sp.map V.int ++ [V.int 0])) = HB at *
    have S0B := S07.trans SB
    have haB := S0B.kp _ _ nn ha
    have hPB := SB.kp _ _ nn hP
    have vf : (D.lst (ts.map vd)).Fine := leaf_fine (fun x m => by
      obtain ⟨t, mt, rfl⟩ := List.mem_map.mp m
      exact leaf_vd (ok t mt)) (by simp; omega)
    refine ⟨_, rfl, tn ⟨[], _, _, rfl, rv_lst hPB (rvl_vals ok) (by simp; omega), vf, ?_⟩⟩
    refine ⟨_, rfl, tn ⟨[], _, _, rfl, rv_lst haB (rvl_vals ok) (by simp; omega), vf, ?_⟩⟩
    refine ⟨rfl, _, rfl, ite2 (fun h => absurd h (ne_self _)) (fun _ => ?_)⟩
    refine ⟨_, rfl, _, rfl, v, d, P, ts, rfl, r.stp S0B Lsts.nil, fl, dp, hPB, okv, by omega, fun F3 HC SC nC hC => ?_⟩
    rw [esp] at hC
    have hL5C := SC.kp _ _ nn hL5B
    refine tn ⟨[], _, _, rfl, rv_lst hC rvl_ints (by simp; omega), il1, ?_⟩
    refine ⟨_, rfl, tn ⟨[], _, _, rfl, rv_lst hL5C rvl_ints (by simp; omega), il1, ?_⟩⟩
    refine ⟨rfl, _, rfl, ite2 (fun h => absurd h (ne_self _)) (fun _ => ?_)⟩
    -- one more ahead
    have hPC := SC.kp _ _ nn hPB
    refine ⟨_, rfl, .inl ⟨rfl, _, SqL.of hPC⟩, P, _, 0, .non, rfl, rfl, hPC, ?_, by decide, by decide, ?_⟩
    · rw [List.length_map]
      exact Nat.lt_of_le_of_lt (show ts.length ≤ 100 by omega) (by decide)
    have SD : Stp [] H6 (upd HC P (.lst (List.take (0 : Int).toNat (ts.map oV) ++ [.non] ++ List.drop (0 : Int).toNat (ts.map oV)))) := (S7.trans (SB.trans SC)).mut nP
    have PL5 : P ≠ L5 := ne_of_none (S8.kp _ _ nn hP) n5
    have hLD : (upd HC P (.lst (List.take (0 : Int).toNat (ts.map oV) ++ [.non] ++ List.drop (0 : Int).toNat (ts.map oV)))) L5 = some (.lst (sp.map V.int)) := by rw [upd_ne PL5.symm]; exact hL5C
    have hPD : (upd HC P (.lst (List.take (0 : Int).toNat (ts.map oV) ++ [.non] ++ List.drop (0 : Int).toNat (ts.map oV)))) P = some (.lst ((none :: ts).map oV)) := upd_same
    generalize upd HC P (.lst (List.take (0 : Int).toNat (ts.map oV) ++ [.non] ++ List.drop (0 : Int).toNat (ts.map oV))) = HD at *
    have rD := r.stp (S06.trans SD) Lsts.nil
    have okn : ∀ t ∈ none :: ts, OkV t := fun t m => by
      rcases List.mem_cons.mp m with rfl | m
      · exact fun l e => nomatch e
      · exact okv t m
    have e0 : spots n d 0 (none :: ts) = (if lev n none d = 2 then [(0 : Int)] else []) ++ sp.map (· + 1) := by
      show (if lev n none d = 2 then [((0 : Nat) : Int)] else []) ++ spots n d 1 ts = _
      rw [spots_up n d 0 ts, esp]
      rfl
    have il2 : (D.lst (((if lev n none d = 2 then [(0 : Int)] else []) ++ sp.map (· + 1)).map D.int)).Fine := il (fun i m => by
      rcases List.mem_append.mp m with m | m
      · split at m
        · rw [List.mem_singleton.mp m]; decide
        · cases m
      · obtain ⟨j, mj, rfl⟩ := List.mem_map.mp m
        have := sb j mj
        omega) (by split <;> simp <;> omega)
    have lmv : ((if lev n none d = 2 then [(0 : Int)] else []) ++ sp.map (· + 1)).length ≤ 60 := by split <;> simp <;> omega
    refine ⟨_, rfl, v, d, none, rfl, rD, fl, dp, (fun l e => nomatch e), fun HE SE => ?_⟩
    refine ⟨rfl, _, rfl, ite2 (fun h => ?_) (fun h => ?_)⟩
    · have g : lev n none d = 2 := V.int.inj (of_decide_eq_true h)
      rw [if_pos g] at e0 il2 lmv
      refine ⟨(by show 1 ≤ sizeLine; decide), fun M nM => ?_⟩
      have SG : Stp [] HE (upd HE M (.lst [.int 0])) := Stp.new nM _
      have hM : (upd HE M (.lst [.int 0])) M = some (.lst (([0] : List Int).map V.int)) := upd_same
      generalize upd HE M (.lst [.int 0]) = HG at *
      have S8F := SE.trans SG
      have rG := rD.stp S8F Lsts.nil
      have hPG := S8F.kp _ _ nn hPD
      have hLG := S8F.kp _ _ nn hLD
      refine ⟨_, rfl, _, rfl, v, d, P, none :: ts, rfl, rG, fl, dp, hPG, okn, by rw [List.length_cons]; omega, fun F4 HH SH nH hH => ?_⟩
      rw [e0] at hH
      refine tn ⟨[], _, _, rfl, rv_lst hH rvl_ints (by rw [List.length_map]; omega), il2, ?_⟩
      have hMH := SH.kp _ _ nn hM
      have hLH := SH.kp _ _ nn hLG
      refine ⟨_, rfl, _, rfl, L5, rfl, ⟨_, SqL.of hLH⟩, fun L6 n6 => ?_⟩
      refine lc_mapL (ds := (sp.map (· + 1)).map Dt.int) n6 (SqL.of hLH) (by simp) (by rw [List.length_map]; omega) (fun j x dd H5 hx hd S5 Q2 q => ?_) fun ws5 HI SI hI rI => ?_
      · rw [List.getElem?_map] at hx
        rw [List.getElem?_map, List.getElem?_map] at hd
        cases e : sp[j]? with
        | none => rw [e] at hx; cases hx
        | some z =>
          rw [e] at hx hd
          cases hx
          cases hd
          exact ⟨rfl, _, rfl, _, _, rfl, rfl, q _ _ (Stp.refl _ _) (.int _)⟩
      obtain rfl := rpl_ints rI
      have hMI := SI.kp _ _ nn hMH
      refine ⟨M, L6, _, _, rfl, rfl, hMI, hI, by rw [List.length_map, List.length_map, List.length_map]; exact sz (by simp; omega), fun L7 n7 => ?_⟩
      have h7 : (upd HI L7 (.lst (([0] : List Int).map V.int ++ (sp.map (· + 1)).map V.int))) L7 = some (.lst ((([0] : List Int) ++ sp.map (· + 1)).map V.int)) := by
        rw [upd_same, List.map_append]
      have S7 : Stp [] HI (upd HI L7 (.lst (([0] : List Int).map V.int ++ (sp.map (· + 1)).map V.int))) := Stp.new n7 _
      refine tn ⟨[], _, _, rfl, rv_lst h7 rvl_ints (by rw [List.length_map]; omega), il2, ?_⟩
      refine ⟨rfl, ?_⟩
      rw [show ∀ s : Str, decide (V.str s = V.str s) = true from fun s => decide_eq_true rfl]
      exact k _ (S06.trans (SD.trans (S8F.trans (SH.trans (SI.trans S7)))))
    · have g : ¬ lev n none d = 2 := fun g => h (decide_eq_true (congrArg V.int g))
      rw [if_neg g] at e0 il2 lmv
      refine ⟨Nat.zero_le _, fun M nM => ?_⟩
      have SG : Stp [] HE (upd HE M (.lst [])) := Stp.new nM _
      have hM : (upd HE M (.lst [])) M = some (.lst (([] : List Int).map V.int)) := upd_same
      generalize upd HE M (.lst []) = HG at *
      have S8F := SE.trans SG
      have rG := rD.stp S8F Lsts.nil
      have hPG := S8F.kp _ _ nn hPD
      have hLG := S8F.kp _ _ nn hLD
      refine ⟨_, rfl, _, rfl, v, d, P, none :: ts, rfl, rG, fl, dp, hPG, okn, by rw [List.length_cons]; omega, fun F4 HH SH nH hH => ?_⟩
      rw [e0] at hH
      refine tn ⟨[], _, _, rfl, rv_lst hH rvl_ints (by rw [List.length_map]; omega), il2, ?_⟩
      have hMH := SH.kp _ _ nn hM
      have hLH := SH.kp _ _ nn hLG
      refine ⟨_, rfl, _, rfl, L5, rfl, ⟨_, SqL.of hLH⟩, fun L6 n6 => ?_⟩
      refine lc_mapL (ds := (sp.map (· + 1)).map Dt.int) n6 (SqL.of hLH) (by simp) (by rw [List.length_map]; omega) (fun j x dd H5 hx hd S5 Q2 q => ?_) fun ws5 HI SI hI rI => ?_
      · rw [List.getElem?_map] at hx
        rw [List.getElem?_map, List.getElem?_map] at hd
        cases e : sp[j]? with
        | none => rw [e] at hx; cases hx
        | some z =>
          rw [e] at hx hd
          cases hx
          cases hd
          exact ⟨rfl, _, rfl, _, _, rfl, rfl, q _ _ (Stp.refl _ _) (.int _)⟩
      obtain rfl := rpl_ints rI
      have hMI := SI.kp _ _ nn hMH
      refine ⟨M, L6, _, _, rfl, rfl, hMI, hI, by rw [List.length_map, List.length_map, List.length_map]; exact sz (by simp; omega), fun L7 n7 => ?_⟩
      have h7 : (upd HI L7 (.lst (([] : List Int).map V.int ++ (sp.map (· + 1)).map V.int))) L7 = some (.lst ((([] : List Int) ++ sp.map (· + 1)).map V.int)) := by
        rw [upd_same, List.map_append]
      have S7 : Stp [] HI (upd HI L7 (.lst (([] : List Int).map V.int ++ (sp.map (· + 1)).map V.int))) := Stp.new n7 _
      refine tn ⟨[], _, _, rfl, rv_lst h7 rvl_ints (by rw [List.length_map]; omega), il2, ?_⟩
      refine ⟨rfl, ?_⟩
      rw [show ∀ s : Str, decide (V.str s = V.str s) = true from fun s => decide_eq_true rfl]
      exact k _ (S06.trans (SD.trans (S8F.trans (SH.trans (SI.trans S7)))))
abbrev s_law : Stmt := topS 34
abbrev N_law : List Str := ["script", "cell", "bag", "pool", "sieve", "things"]
theorem sc_law : FnScope ["script", "cell", "bag", "pool", "sieve", "things"] ["script"] (defScope s_law) := ⟨rfl, rfl, rfl, by decide +kernel, rfl, by decide +kernel, by decide +kernel⟩

/-! ### the law -/
def spLaw (K : PySem.W.Frag) : Sp := fun vs H Q _ => ∃ (a : Addr) (ns : List Int), vs = [.ref a] ∧ SqL K H a (ns.map V.int) ∧ ns.length ≤ 63 ∧ ∀ H', Q (.bl true) H'
theorem cl_law {f : Addr} {fd : FuncData} (D' : Df K mg "law" s_law ["script"] f fd) (T : Nm mg) (c__law_bag : Cl P w K mg base 1 "_law_bag" s__law_bag ["cell"] spBag) (c__law_draw : Cl P w K mg base 1 "_law_draw" s__law_draw ["bag", "upto"] spDraw)
    (c__law_sieve : Cl P w K mg base 10 "_law_sieve" s__law_sieve ["bag", "room", "pool", "levels"] (spSieve K 6)) (c__law_values : Cl P w K mg base 4 "_law_values" s__law_values ["bag", "pool", "upto"] spVals)
    (c__law_right : ClG P w K mg base 205 "_law_right" s__law_right ["sieve", "things"] (spRight K 100)) :
    FnG P w K mg base 206 f fd ["script"] (spLaw K) := by
  refine D'.g sc_law (fun vs H Q E h => ?_) (fun cdv A outer s H vs Q E hG hr h => ?_)
  · obtain ⟨a, ns, rfl, _⟩ := h
    rfl
  · obtain ⟨a, ns, rfl, hS, hlen, k⟩ := h
    refine ⟨_, (pss_cons (ps_for PassesOwn.never rfl (pi_list (pe_op op_cat (pe_slice sl_list (pv 0) po_none (po_some pe_int)) (pe_lst (pa_cons (pe_op op_add (pe_op op_pow pe_int pe_int) pe_int) pa_nil)))) (pg_name (i := 1) sc_law.nd rfl (by first | exact Or.inl rfl | exact Or.inr rfl)) (pss_cons (ps_par (i := 2) (j := 3) rfl sc_law.nd rfl rfl (by decide) rfl rfl (pa_cons (pe_cl c__law_bag hr (by omega) (pa_cons (pv 1) pa_nil)) (pa_cons (pe_lst pa_nil) pa_nil)) (by rfl))
      (pss_cons (ps_set (i := 4) sc_law.nd rfl (by first | exact Or.inl rfl | exact Or.inr rfl) (pe_cl c__law_sieve hr (by omega) (pa_cons (pv 2) (pa_cons (pe_lst (pa_cons pe_int (pa_cons pe_int pa_nil))) (pa_cons (pv 3) (pa_cons pe_int pa_nil))))))
      (pss_cons (ps_set (i := 5) sc_law.nd rfl (by first | exact Or.inl rfl | exact Or.inr rfl) (pe_cl c__law_values hr (by omega) (pa_cons (pv 2) (pa_cons (pv 3) (pa_cons (pe_ifExp (pt_cmpR op_eq (pe_cl c__law_draw hr (by omega) (pa_cons (pv 2) (pa_cons pe_int pa_nil))) pe_int (by first | exact nomark _ | rfl)) pe_int pe_int) pa_nil)))))
      (pss_one (ps_if (pt_not (pt_val (pe_clG c__law_right hG hr (by omega) (pa_cons (pv 4) (pa_cons (pe_slice sl_list (pv 5) po_none (po_some pe_int)) pa_nil))))) (pss_one (ps_ret pe_bl)) pss_nil))))))
      (pss_one (ps_ret pe_bl))), ?_⟩
    refine ⟨_, rfl, 16, rfl, a, _, rfl, hS, fun p1 np1 => ?_⟩
    refine ⟨_, _, rfl, rfl, ⟨by decide, by decide, by decide⟩, _, _, rfl, rfl, (by show 1 ≤ sizeLine; decide), fun p2 np2 => ?_⟩
    obtain ⟨L1, eL⟩ : ∃ L1, L1 = upd (upd H p1 (.lst (cutV (ns.map V.int) none (some 16)))) p2 (.lst [V.int (10 ^ (18 : Int).toNat + 5)]) := ⟨_, rfl⟩
    have n12 : p1 ≠ p2 := ne_of_none upd_same np2
    have hp1 : L1 p1 = some (.lst (cutV (ns.map V.int) none (some 16))) := by
      rw [eL, upd_ne n12]
      exact upd_same
    have hp2 : L1 p2 = some (.lst [V.int (10 ^ (18 : Int).toNat + 5)]) := by
      rw [eL]
      exact upd_same
    rw [eL] at hp1 hp2
    have hcut : cutV (ns.map V.int) none (some 16) = (ns.take 16).map V.int := by
      rw [show cutV (ns.map V.int) none (some 16) = _ from cut_upto 16, List.map_take]
    refine ⟨p1, p2, _, _, rfl, rfl, hp1, hp2, ?_, fun p3 np3 => ?_⟩
    · rw [hcut, List.length_map, List.length_take]
      exact sz (by simp; omega)
    obtain ⟨cs, ecs⟩ : ∃ cs : List Int, cutV (ns.map V.int) none (some 16) ++ [V.int (10 ^ (18 : Int).toNat + 5)] = cs.map V.int := ⟨ns.take 16 ++ [10 ^ (18 : Int).toNat + 5], by rw [hcut, List.map_append]; rfl⟩
    rw [ecs]
    refine ⟨p3, rfl, ⟨_, SqL.of upd_same⟩, for_list (K := K) (a := p3) (xs := cs.map V.int) (fun i σ H1 => ∃ x1 x2 x3 x4 x5 : Option V, σ = [some (.ref a), x1, x2, x3, x4, x5] ∧ H1 p3 = some (.lst (cs.map V.int)))
      ⟨none, none, none, none, none, rfl, upd_same⟩ (fun i σ H1 _ ⟨_, _, _, _, _, _, h⟩ => SqL.of h) ?_ (fun σ H1 ⟨x1, x2, x3, x4, x5, e, _⟩ => by rw [e]; exact k _)⟩
    rintro i y σ H1 hi ⟨x1, x2, x3, x4, x5, rfl, h3⟩
    obtain ⟨c, rfl⟩ : ∃ c, y = V.int c := by
      rw [List.getElem?_map] at hi
      cases e : cs[i]? with
      | none =>
        rw [e] at hi
        cases hi
      | some u =>
        rw [e] at hi
        exact ⟨u, (Option.some.inj hi).symm⟩
    refine ⟨_, rfl, c, rfl, fun b H2 nb S2 B2 => ?_⟩
    refine ⟨Nat.zero_le _, fun p np => ⟨_, _, rfl, ?_⟩⟩
    have bp : b ≠ p := B2.ne np
    have h32 : H2 p3 = some (.lst (cs.map V.int)) := S2.kp _ _ (fun m => nomatch m) h3
    have n3b : p3 ≠ b := ne_of_none h3 nb
    have n3p : p3 ≠ p := ne_of_none h32 np
    refine ⟨_, rfl, (by show 2 ≤ sizeLine; decide), fun r nr => ?_⟩
    have B3 := B2.upd (o := .lst []) bp
    have pr : p ≠ r := ne_of_none upd_same nr
    have br : b ≠ r := B3.ne nr
    have n3r : p3 ≠ r := by
      refine ne_of_none (H := upd H2 p (.lst [])) (o := .lst (cs.map V.int)) ?_ nr
      rw [upd_ne n3p]
      exact h32
    have s0 : Sto (upd (upd H2 p (.lst [])) r (.lst [.int 12, .int 8])) b r p 0 12 8 [] :=
      ⟨B3.upd br, upd_same, ⟨by rw [upd_ne pr]; exact upd_same, fun l m => nomatch m⟩, br, bp, pr.symm, by decide, by decide⟩
    have h33 : (upd (upd H2 p (.lst [])) r (.lst [.int 12, .int 8])) p3 = some (.lst (cs.map V.int)) := by
      rw [upd_ne n3r, upd_ne n3p]
      exact h32
    refine ⟨_, rfl, b, r, p, 0, 12, 8, [], 5, rfl, by decide, s0, by decide, fun v H3 r0' r1' ls' md S3 s3 => ?_⟩
    obtain ⟨d, rd, fd', dd⟩ := md
    have h34 : H3 p3 = some (.lst (cs.map V.int)) := S3.kp _ _ (fun m => by
      simp at m
      rcases m with m | m | m
      · exact n3b m
      · exact n3r m
      · exact n3p m) h33
    have n3B : p3 ∉ [b] := fun m => n3b (List.mem_singleton.mp m)
    have c5 : cst 5 < 2 ^ 29 + 2 ^ 26 := by decide
    have bk := s3.bag
    have pk := s3.pool
    have fw := s3.few
    have ps0 := s3.pos
    refine ⟨_, rfl, _, rfl, _, rfl, b, 8, _, rfl, bk, by omega, by decide, by decide, fun z H4 z0 z1 o4 B4 => ?_⟩
    have S4 : Stp [b] H3 H4 := o4.stp (List.mem_singleton.mpr rfl)
    have rd4 := rd.stp S4 (Pv.bag_ls bk)
    have h34' := S4.kp _ _ n3B h34
    have pk4 : Pool H4 p ls' := ⟨S4.kp _ _ (fun m => bp (List.mem_singleton.mp m).symm) pk.1, pk.2⟩
    refine ⟨rfl, _, rfl, ite2 (fun h => ?_) (fun h => ?_)⟩
    · refine ⟨b, p, _, ls', 40, rfl, by decide, by decide, B4, by omega, pk4, by omega, bp, fun L ts H5 hL okt few S5 B5 => ?_⟩
      refine ⟨_, rfl, _, rfl, 39, rfl, L, _, rfl, SqL.of hL, fun p4 np4 => ?_⟩
      have c39 : cutV (ts.map oV) none (some 39) = (ts.take 39).map oV := by rw [show cutV (ts.map oV) none (some 39) = _ from cut_upto 39, List.map_take]
      rw [c39]
      have S6 : Stp [] H5 (upd H5 p4 (.lst ((ts.take 39).map oV))) := Stp.new np4 _
      have h4 : (upd H5 p4 (.lst ((ts.take 39).map oV))) p4 = some (.lst ((ts.take 39).map oV)) := upd_same
      generalize upd H5 p4 (.lst ((ts.take 39).map oV)) = H6 at *
      refine ⟨v, d, p4, ts.take 39, rfl, (rd4.stp S5 (Pv.bag_ls B4)).stp S6 Lsts.nil, fd', by omega, h4, fun t m => okt t (List.mem_of_mem_take m), by rw [List.length_take]; omega, fun H7 S7 => ⟨_, rfl, ?_⟩⟩
      exact ⟨_, _, _, _, _, rfl, (S6.trans S7).kp _ _ (fun m => nomatch m) (S5.kp _ _ n3B h34')⟩
    · refine ⟨b, p, _, ls', 10, rfl, by decide, by decide, B4, by omega, pk4, by omega, bp, fun L ts H5 hL okt few S5 B5 => ?_⟩
      refine ⟨_, rfl, _, rfl, 39, rfl, L, _, rfl, SqL.of hL, fun p4 np4 => ?_⟩
      have c39 : cutV (ts.map oV) none (some 39) = (ts.take 39).map oV := by rw [show cutV (ts.map oV) none (some 39) = _ from cut_upto 39, List.map_take]
      rw [c39]
      have S6 : Stp [] H5 (upd H5 p4 (.lst ((ts.take 39).map oV))) := Stp.new np4 _
      have h4 : (upd H5 p4 (.lst ((ts.take 39).map oV))) p4 = some (.lst ((ts.take 39).map oV)) := upd_same
      generalize upd H5 p4 (.lst ((ts.take 39).map oV)) = H6 at *
      refine ⟨v, d, p4, ts.take 39, rfl, (rd4.stp S5 (Pv.bag_ls B4)).stp S6 Lsts.nil, fd', by omega, h4, fun t m => okt t (List.mem_of_mem_take m), by rw [List.length_take]; omega, fun H7 S7 => ⟨_, rfl, ?_⟩⟩
      exact ⟨_, _, _, _, _, rfl, (S6.trans S7).kp _ _ (fun m => nomatch m) (S5.kp _ _ n3B h34')⟩
/-! ### what the top has written, the head -/
theorem all_mk {l : PySem.W.OpenLaw} {w : World} {K : PySem.W.Frag} {h : Heap} {mg : Str → Option Value} {fa : Addr} (X : K.In h) (G : h.Ns mainGlobals mg) (hfa : mg "law" = some (.ref fa))
    {f0 : Addr} {od0 an0 : Option Addr} {sl0 : Array (Option Value)} {oc0 kV0 dc0 pm0 cd0 ct0 : Value}
    (a0 : PySem.W.nsIn K mainGlobals "is_text" = some (some (.ref f0))) (l0 : K.lookup f0 = some ⟨oc0, od0, .func (PySem.W.fnOf "is_text" "is_text" (defArgs s_is_text) (defBody s_is_text) (defScope s_is_text) .none kV0 dc0 pm0 an0 cd0 ct0), sl0⟩) (c0 : PySem.W.codeIn K cd0 "is_text" = true) (k0 : PySem.W.keepIn K (.ref f0) = true)
    {f1 : Addr} {od1 an1 : Option Addr} {sl1 : Array (Option Value)} {oc1 kV1 dc1 pm1 cd1 ct1 : Value}
    (a1 : PySem.W.nsIn K mainGlobals "is_value" = some (some (.ref f1))) (l1 : K.lookup f1 = some ⟨oc1, od1, .func (PySem.W.fnOf "is_value" "is_value" (defArgs s_is_value) (defBody s_is_value) (defScope s_is_value) .none kV1 dc1 pm1 an1 cd1 ct1), sl1⟩) (c1 : PySem.W.codeIn K cd1 "is_value" = true) (k1 : PySem.W.keepIn K (.ref f1) = true)
    {f2 : Addr} {od2 an2 : Option Addr} {sl2 : Array (Option Value)} {oc2 kV2 dc2 pm2 cd2 ct2 : Value}
    (a2 : PySem.W.nsIn K mainGlobals "is_filter" = some (some (.ref f2))) (l2 : K.lookup f2 = some ⟨oc2, od2, .func (PySem.W.fnOf "is_filter" "is_filter" (defArgs s_is_filter) (defBody s_is_filter) (defScope s_is_filter) .none kV2 dc2 pm2 an2 cd2 ct2), sl2⟩) (c2 : PySem.W.codeIn K cd2 "is_filter" = true) (k2 : PySem.W.keepIn K (.ref f2) = true)
    {f3 : Addr} {od3 an3 : Option Addr} {sl3 : Array (Option Value)} {oc3 kV3 dc3 pm3 cd3 ct3 : Value}
    (a3 : PySem.W.nsIn K mainGlobals "can_follow" = some (some (.ref f3))) (l3 : K.lookup f3 = some ⟨oc3, od3, .func (PySem.W.fnOf "can_follow" "can_follow" (defArgs s_can_follow) (defBody s_can_follow) (defScope s_can_follow) .none kV3 dc3 pm3 an3 cd3 ct3), sl3⟩) (c3 : PySem.W.codeIn K cd3 "can_follow" = true) (k3 : PySem.W.keepIn K (.ref f3) = true)
    {f4 : Addr} {od4 an4 : Option Addr} {sl4 : Array (Option Value)} {oc4 kV4 dc4 pm4 cd4 ct4 : Value}
    (a4 : PySem.W.nsIn K mainGlobals "check_value" = some (some (.ref f4))) (l4 : K.lookup f4 = some ⟨oc4, od4, .func (PySem.W.fnOf "check_value" "check_value" (defArgs s_check_value) (defBody s_check_value) (defScope s_check_value) .none kV4 dc4 pm4 an4 cd4 ct4), sl4⟩) (c4 : PySem.W.codeIn K cd4 "check_value" = true) (k4 : PySem.W.keepIn K (.ref f4) = true)
    {f5 : Addr} {od5 an5 : Option Addr} {sl5 : Array (Option Value)} {oc5 kV5 dc5 pm5 cd5 ct5 : Value}
    (a5 : PySem.W.nsIn K mainGlobals "check_filter" = some (some (.ref f5))) (l5 : K.lookup f5 = some ⟨oc5, od5, .func (PySem.W.fnOf "check_filter" "check_filter" (defArgs s_check_filter) (defBody s_check_filter) (defScope s_check_filter) .none kV5 dc5 pm5 an5 cd5 ct5), sl5⟩) (c5 : PySem.W.codeIn K cd5 "check_filter" = true) (k5 : PySem.W.keepIn K (.ref f5) = true)
    {f6 : Addr} {od6 an6 : Option Addr} {sl6 : Array (Option Value)} {oc6 kV6 dc6 pm6 cd6 ct6 : Value}
    (a6 : PySem.W.nsIn K mainGlobals "check_column" = some (some (.ref f6))) (l6 : K.lookup f6 = some ⟨oc6, od6, .func (PySem.W.fnOf "check_column" "check_column" (defArgs s_check_column) (defBody s_check_column) (defScope s_check_column) .none kV6 dc6 pm6 an6 cd6 ct6), sl6⟩) (c6 : PySem.W.codeIn K cd6 "check_column" = true) (k6 : PySem.W.keepIn K (.ref f6) = true)
    {f7 : Addr} {od7 an7 : Option Addr} {sl7 : Array (Option Value)} {oc7 kV7 dc7 pm7 cd7 ct7 : Value}
    (a7 : PySem.W.nsIn K mainGlobals "answer" = some (some (.ref f7))) (l7 : K.lookup f7 = some ⟨oc7, od7, .func (PySem.W.fnOf "answer" "answer" (defArgs s_answer) (defBody s_answer) (defScope s_answer) .none kV7 dc7 pm7 an7 cd7 ct7), sl7⟩) (c7 : PySem.W.codeIn K cd7 "answer" = true) (k7 : PySem.W.keepIn K (.ref f7) = true)
    {f8 : Addr} {od8 an8 : Option Addr} {sl8 : Array (Option Value)} {oc8 kV8 dc8 pm8 cd8 ct8 : Value}
    (a8 : PySem.W.nsIn K mainGlobals "answer_to" = some (some (.ref f8))) (l8 : K.lookup f8 = some ⟨oc8, od8, .func (PySem.W.fnOf "answer_to" "answer_to" (defArgs s_answer_to) (defBody s_answer_to) (defScope s_answer_to) .none kV8 dc8 pm8 an8 cd8 ct8), sl8⟩) (c8 : PySem.W.codeIn K cd8 "answer_to" = true) (k8 : PySem.W.keepIn K (.ref f8) = true)
    {f9 : Addr} {od9 an9 : Option Addr} {sl9 : Array (Option Value)} {oc9 kV9 dc9 pm9 cd9 ct9 : Value}
    (a9 : PySem.W.nsIn K mainGlobals "yes_or_no" = some (some (.ref f9))) (l9 : K.lookup f9 = some ⟨oc9, od9, .func (PySem.W.fnOf "yes_or_no" "yes_or_no" (defArgs s_yes_or_no) (defBody s_yes_or_no) (defScope s_yes_or_no) .none kV9 dc9 pm9 an9 cd9 ct9), sl9⟩) (c9 : PySem.W.codeIn K cd9 "yes_or_no" = true) (k9 : PySem.W.keepIn K (.ref f9) = true)
    {f10 : Addr} {od10 an10 : Option Addr} {sl10 : Array (Option Value)} {oc10 kV10 dc10 pm10 cd10 ct10 : Value}
    (a10 : PySem.W.nsIn K mainGlobals "settled" = some (some (.ref f10))) (l10 : K.lookup f10 = some ⟨oc10, od10, .func (PySem.W.fnOf "settled" "settled" (defArgs s_settled) (defBody s_settled) (defScope s_settled) .none kV10 dc10 pm10 an10 cd10 ct10), sl10⟩) (c10 : PySem.W.codeIn K cd10 "settled" = true) (k10 : PySem.W.keepIn K (.ref f10) = true)
    {f11 : Addr} {od11 an11 : Option Addr} {sl11 : Array (Option Value)} {oc11 kV11 dc11 pm11 cd11 ct11 : Value}
    (a11 : PySem.W.nsIn K mainGlobals "matches" = some (some (.ref f11))) (l11 : K.lookup f11 = some ⟨oc11, od11, .func (PySem.W.fnOf "matches" "matches" (defArgs s_matches) (defBody s_matches) (defScope s_matches) .none kV11 dc11 pm11 an11 cd11 ct11), sl11⟩) (c11 : PySem.W.codeIn K cd11 "matches" = true) (k11 : PySem.W.keepIn K (.ref f11) = true)
    {f12 : Addr} {od12 an12 : Option Addr} {sl12 : Array (Option Value)} {oc12 kV12 dc12 pm12 cd12 ct12 : Value}
    (a12 : PySem.W.nsIn K mainGlobals "passes" = some (some (.ref f12))) (l12 : K.lookup f12 = some ⟨oc12, od12, .func (PySem.W.fnOf "passes" "passes" (defArgs s_passes) (defBody s_passes) (defScope s_passes) .none kV12 dc12 pm12 an12 cd12 ct12), sl12⟩) (c12 : PySem.W.codeIn K cd12 "passes" = true) (k12 : PySem.W.keepIn K (.ref f12) = true)
    {f13 : Addr} {od13 an13 : Option Addr} {sl13 : Array (Option Value)} {oc13 kV13 dc13 pm13 cd13 ct13 : Value}
    (a13 : PySem.W.nsIn K mainGlobals "picked" = some (some (.ref f13))) (l13 : K.lookup f13 = some ⟨oc13, od13, .func (PySem.W.fnOf "picked" "picked" (defArgs s_picked) (defBody s_picked) (defScope s_picked) .none kV13 dc13 pm13 an13 cd13 ct13), sl13⟩) (c13 : PySem.W.codeIn K cd13 "picked" = true) (k13 : PySem.W.keepIn K (.ref f13) = true)
    {f14 : Addr} {od14 an14 : Option Addr} {sl14 : Array (Option Value)} {oc14 kV14 dc14 pm14 cd14 ct14 : Value}
    (a14 : PySem.W.nsIn K mainGlobals "_law_bag" = some (some (.ref f14))) (l14 : K.lookup f14 = some ⟨oc14, od14, .func (PySem.W.fnOf "_law_bag" "_law_bag" (defArgs s__law_bag) (defBody s__law_bag) (defScope s__law_bag) .none kV14 dc14 pm14 an14 cd14 ct14), sl14⟩) (c14 : PySem.W.codeIn K cd14 "_law_bag" = true) (k14 : PySem.W.keepIn K (.ref f14) = true)
    {f15 : Addr} {od15 an15 : Option Addr} {sl15 : Array (Option Value)} {oc15 kV15 dc15 pm15 cd15 ct15 : Value}
    (a15 : PySem.W.nsIn K mainGlobals "_law_draw" = some (some (.ref f15))) (l15 : K.lookup f15 = some ⟨oc15, od15, .func (PySem.W.fnOf "_law_draw" "_law_draw" (defArgs s__law_draw) (defBody s__law_draw) (defScope s__law_draw) .none kV15 dc15 pm15 an15 cd15 ct15), sl15⟩) (c15 : PySem.W.codeIn K cd15 "_law_draw" = true) (k15 : PySem.W.keepIn K (.ref f15) = true)
    {f16 : Addr} {od16 an16 : Option Addr} {sl16 : Array (Option Value)} {oc16 kV16 dc16 pm16 cd16 ct16 : Value}
    (a16 : PySem.W.nsIn K mainGlobals "_law_text" = some (some (.ref f16))) (l16 : K.lookup f16 = some ⟨oc16, od16, .func (PySem.W.fnOf "_law_text" "_law_text" (defArgs s__law_text) (defBody s__law_text) (defScope s__law_text) .none kV16 dc16 pm16 an16 cd16 ct16), sl16⟩) (c16 : PySem.W.codeIn K cd16 "_law_text" = true) (k16 : PySem.W.keepIn K (.ref f16) = true)
    {f17 : Addr} {od17 an17 : Option Addr} {sl17 : Array (Option Value)} {oc17 kV17 dc17 pm17 cd17 ct17 : Value}
    (a17 : PySem.W.nsIn K mainGlobals "_law_near" = some (some (.ref f17))) (l17 : K.lookup f17 = some ⟨oc17, od17, .func (PySem.W.fnOf "_law_near" "_law_near" (defArgs s__law_near) (defBody s__law_near) (defScope s__law_near) .none kV17 dc17 pm17 an17 cd17 ct17), sl17⟩) (c17 : PySem.W.codeIn K cd17 "_law_near" = true) (k17 : PySem.W.keepIn K (.ref f17) = true)
    {f18 : Addr} {od18 an18 : Option Addr} {sl18 : Array (Option Value)} {oc18 kV18 dc18 pm18 cd18 ct18 : Value}
    (a18 : PySem.W.nsIn K mainGlobals "_law_some" = some (some (.ref f18))) (l18 : K.lookup f18 = some ⟨oc18, od18, .func (PySem.W.fnOf "_law_some" "_law_some" (defArgs s__law_some) (defBody s__law_some) (defScope s__law_some) .none kV18 dc18 pm18 an18 cd18 ct18), sl18⟩) (c18 : PySem.W.codeIn K cd18 "_law_some" = true) (k18 : PySem.W.keepIn K (.ref f18) = true)
    {f19 : Addr} {od19 an19 : Option Addr} {sl19 : Array (Option Value)} {oc19 kV19 dc19 pm19 cd19 ct19 : Value}
    (a19 : PySem.W.nsIn K mainGlobals "_law_leaf" = some (some (.ref f19))) (l19 : K.lookup f19 = some ⟨oc19, od19, .func (PySem.W.fnOf "_law_leaf" "_law_leaf" (defArgs s__law_leaf) (defBody s__law_leaf) (defScope s__law_leaf) .none kV19 dc19 pm19 an19 cd19 ct19), sl19⟩) (c19 : PySem.W.codeIn K cd19 "_law_leaf" = true) (k19 : PySem.W.keepIn K (.ref f19) = true)
    {f20 : Addr} {od20 an20 : Option Addr} {sl20 : Array (Option Value)} {oc20 kV20 dc20 pm20 cd20 ct20 : Value}
    (a20 : PySem.W.nsIn K mainGlobals "_law_sieve" = some (some (.ref f20))) (l20 : K.lookup f20 = some ⟨oc20, od20, .func (PySem.W.fnOf "_law_sieve" "_law_sieve" (defArgs s__law_sieve) (defBody s__law_sieve) (defScope s__law_sieve) .none kV20 dc20 pm20 an20 cd20 ct20), sl20⟩) (c20 : PySem.W.codeIn K cd20 "_law_sieve" = true) (k20 : PySem.W.keepIn K (.ref f20) = true)
    {f21 : Addr} {od21 an21 : Option Addr} {sl21 : Array (Option Value)} {oc21 kV21 dc21 pm21 cd21 ct21 : Value}
    (a21 : PySem.W.nsIn K mainGlobals "_law_level" = some (some (.ref f21))) (l21 : K.lookup f21 = some ⟨oc21, od21, .func (PySem.W.fnOf "_law_level" "_law_level" (defArgs s__law_level) (defBody s__law_level) (defScope s__law_level) .none kV21 dc21 pm21 an21 cd21 ct21), sl21⟩) (c21 : PySem.W.codeIn K cd21 "_law_level" = true) (k21 : PySem.W.keepIn K (.ref f21) = true)
    {f22 : Addr} {od22 an22 : Option Addr} {sl22 : Array (Option Value)} {oc22 kV22 dc22 pm22 cd22 ct22 : Value}
    (a22 : PySem.W.nsIn K mainGlobals "_law_values" = some (some (.ref f22))) (l22 : K.lookup f22 = some ⟨oc22, od22, .func (PySem.W.fnOf "_law_values" "_law_values" (defArgs s__law_values) (defBody s__law_values) (defScope s__law_values) .none kV22 dc22 pm22 an22 cd22 ct22), sl22⟩) (c22 : PySem.W.codeIn K cd22 "_law_values" = true) (k22 : PySem.W.keepIn K (.ref f22) = true)
    {f23 : Addr} {od23 an23 : Option Addr} {sl23 : Array (Option Value)} {oc23 kV23 dc23 pm23 cd23 ct23 : Value}
    (a23 : PySem.W.nsIn K mainGlobals "_law_right" = some (some (.ref f23))) (l23 : K.lookup f23 = some ⟨oc23, od23, .func (PySem.W.fnOf "_law_right" "_law_right" (defArgs s__law_right) (defBody s__law_right) (defScope s__law_right) .none kV23 dc23 pm23 an23 cd23 ct23), sl23⟩) (c23 : PySem.W.codeIn K cd23 "_law_right" = true) (k23 : PySem.W.keepIn K (.ref f23) = true)
    {f24 : Addr} {od24 an24 : Option Addr} {sl24 : Array (Option Value)} {oc24 kV24 dc24 pm24 cd24 ct24 : Value}
    (a24 : PySem.W.nsIn K mainGlobals "law" = some (some (.ref f24))) (l24 : K.lookup f24 = some ⟨oc24, od24, .func (PySem.W.fnOf "law" "law" (defArgs s_law) (defBody s_law) (defScope s_law) .none kV24 dc24 pm24 an24 cd24 ct24), sl24⟩) (c24 : PySem.W.codeIn K cd24 "law" = true) (k24 : PySem.W.keepIn K (.ref f24) = true)
    {dN0 : Addr} {esN0 : Array DictEntry} {nN0 : Nat} (aN0 : PySem.W.nsIn K mainGlobals "TURNED" = some (some (.ref dN0))) (lN0 : K.lookup dN0 = some ⟨.type "dict", none, .dict esN0 nN0, #[]⟩) (kN0 : PySem.W.KeysLit w.params esN0.toList)
    {tN0_0 : Tok} (vN0_0 : PySem.W.nsIn K dN0 "yes" = some (some (.str "no" tN0_0)))
    {tN0_1 : Tok} (vN0_1 : PySem.W.nsIn K dN0 "no" = some (some (.str "yes" tN0_1)))
    {tN0_2 : Tok} (vN0_2 : PySem.W.nsIn K dN0 "open" = some (some (.str "open" tN0_2)))
    (z0 : PySem.W.nsIn K mainGlobals "int" = some none)
    (z1 : PySem.W.nsIn K mainGlobals "len" = some none)
    (z2 : PySem.W.nsIn K mainGlobals "max" = some none)
    (z3 : PySem.W.nsIn K mainGlobals "min" = some none)
    (z4 : PySem.W.nsIn K mainGlobals "range" = some none)
    (z5 : PySem.W.nsIn K mainGlobals "type" = some none)
    (z6 : PySem.W.nsIn K mainGlobals "tuple" = some none)
    (z7 : PySem.W.nsIn K mainGlobals "list" = some none)
    (z8 : PySem.W.nsIn K mainGlobals "str" = some none)
    (z9 : PySem.W.nsIn K mainGlobals "bool" = some none)
    (z10 : PySem.W.nsIn K mainGlobals "all" = some none)
    (z11 : PySem.W.nsIn K mainGlobals "sorted" = some none)
    (z12 : PySem.W.nsIn K mainGlobals "repr" = some none)
    (z13 : PySem.W.nsIn K mainGlobals "enumerate" = some none)
    : ∃ fd : FuncData, (∀ (s : Shared) (v : Value), BindsTo s fd ⟨[v], []⟩ [("script", v)]) ∧ ∀ base : Heap, K.In base → base.Ns mainGlobals mg → FnG l.prog w K mg base 206 fa fd ["script"] (spLaw K) := by
  have e := hfa.symm.trans (PySem.W.mg_of X G a24)
  cases e
  have F_is_text := fun_mk (st := s_is_text) l0 c0 k0
  have D_is_text : Df K mg "is_text" s_is_text ["value"] f0 _ := ⟨F_is_text, PySem.W.mg_of X G a0, F_is_text.binds (ps := ["value"]) fun _ _ _ _ _ _ us hl => match us, hl with | [_], _ => rfl⟩
  have F_is_value := fun_mk (st := s_is_value) l1 c1 k1
  have D_is_value : Df K mg "is_value" s_is_value ["value"] f1 _ := ⟨F_is_value, PySem.W.mg_of X G a1, F_is_value.binds (ps := ["value"]) fun _ _ _ _ _ _ us hl => match us, hl with | [_], _ => rfl⟩
  have F_is_filter := fun_mk (st := s_is_filter) l2 c2 k2
  have D_is_filter : Df K mg "is_filter" s_is_filter ["value"] f2 _ := ⟨F_is_filter, PySem.W.mg_of X G a2, F_is_filter.binds (ps := ["value"]) fun _ _ _ _ _ _ us hl => match us, hl with | [_], _ => rfl⟩
  have F_can_follow := fun_mk (st := s_can_follow) l3 c3 k3
  have D_can_follow : Df K mg "can_follow" s_can_follow ["word", "part"] f3 _ := ⟨F_can_follow, PySem.W.mg_of X G a3, F_can_follow.binds (ps := ["word", "part"]) fun _ _ _ _ _ _ us hl => match us, hl with | [_, _], _ => rfl⟩
  have F_check_value := fun_mk (st := s_check_value) l4 c4 k4
  have D_check_value : Df K mg "check_value" s_check_value ["value"] f4 _ := ⟨F_check_value, PySem.W.mg_of X G a4, F_check_value.binds (ps := ["value"]) fun _ _ _ _ _ _ us hl => match us, hl with | [_], _ => rfl⟩
  have F_check_filter := fun_mk (st := s_check_filter) l5 c5 k5
  have D_check_filter : Df K mg "check_filter" s_check_filter ["query"] f5 _ := ⟨F_check_filter, PySem.W.mg_of X G a5, F_check_filter.binds (ps := ["query"]) fun _ _ _ _ _ _ us hl => match us, hl with | [_], _ => rfl⟩
  have F_check_column := fun_mk (st := s_check_column) l6 c6 k6
  have D_check_column : Df K mg "check_column" s_check_column ["column"] f6 _ := ⟨F_check_column, PySem.W.mg_of X G a6, F_check_column.binds (ps := ["column"]) fun _ _ _ _ _ _ us hl => match us, hl with | [_], _ => rfl⟩
  have F_answer := fun_mk (st := s_answer) l7 c7 k7
  have D_answer : Df K mg "answer" s_answer ["query", "value"] f7 _ := ⟨F_answer, PySem.W.mg_of X G a7, F_answer.binds (ps := ["query", "value"]) fun _ _ _ _ _ _ us hl => match us, hl with | [_, _], _ => rfl⟩
  have F_answer_to := fun_mk (st := s_answer_to) l8 c8 k8
  have D_answer_to : Df K mg "answer_to" s_answer_to ["query", "value"] f8 _ := ⟨F_answer_to, PySem.W.mg_of X G a8, F_answer_to.binds (ps := ["query", "value"]) fun _ _ _ _ _ _ us hl => match us, hl with | [_, _], _ => rfl⟩
  have F_yes_or_no := fun_mk (st := s_yes_or_no) l9 c9 k9
  have D_yes_or_no : Df K mg "yes_or_no" s_yes_or_no ["holds"] f9 _ := ⟨F_yes_or_no, PySem.W.mg_of X G a9, F_yes_or_no.binds (ps := ["holds"]) fun _ _ _ _ _ _ us hl => match us, hl with | [_], _ => rfl⟩
  have F_settled := fun_mk (st := s_settled) l10 c10 k10
  have D_settled : Df K mg "settled" s_settled ["answers", "deciding", "otherwise"] f10 _ := ⟨F_settled, PySem.W.mg_of X G a10, F_settled.binds (ps := ["answers", "deciding", "otherwise"]) fun _ _ _ _ _ _ us hl => match us, hl with | [_, _, _], _ => rfl⟩
  have F_matches := fun_mk (st := s_matches) l11 c11 k11
  have D_matches : Df K mg "matches" s_matches ["word", "wanted", "text"] f11 _ := ⟨F_matches, PySem.W.mg_of X G a11, F_matches.binds (ps := ["word", "wanted", "text"]) fun _ _ _ _ _ _ us hl => match us, hl with | [_, _, _], _ => rfl⟩
  have F_passes := fun_mk (st := s_passes) l12 c12 k12
  have D_passes : Df K mg "passes" s_passes ["query", "value"] f12 _ := ⟨F_passes, PySem.W.mg_of X G a12, F_passes.binds (ps := ["query", "value"]) fun _ _ _ _ _ _ us hl => match us, hl with | [_, _], _ => rfl⟩
  have F_picked := fun_mk (st := s_picked) l13 c13 k13
  have D_picked : Df K mg "picked" s_picked ["query", "column"] f13 _ := ⟨F_picked, PySem.W.mg_of X G a13, F_picked.binds (ps := ["query", "column"]) fun _ _ _ _ _ _ us hl => match us, hl with | [_, _], _ => rfl⟩
  have F__law_bag := fun_mk (st := s__law_bag) l14 c14 k14
  have D__law_bag : Df K mg "_law_bag" s__law_bag ["cell"] f14 _ := ⟨F__law_bag, PySem.W.mg_of X G a14, F__law_bag.binds (ps := ["cell"]) fun _ _ _ _ _ _ us hl => match us, hl with | [_], _ => rfl⟩
  have F__law_draw := fun_mk (st := s__law_draw) l15 c15 k15
  have D__law_draw : Df K mg "_law_draw" s__law_draw ["bag", "upto"] f15 _ := ⟨F__law_draw, PySem.W.mg_of X G a15, F__law_draw.binds (ps := ["bag", "upto"]) fun _ _ _ _ _ _ us hl => match us, hl with | [_, _], _ => rfl⟩
  have F__law_text := fun_mk (st := s__law_text) l16 c16 k16
  have D__law_text : Df K mg "_law_text" s__law_text ["bag"] f16 _ := ⟨F__law_text, PySem.W.mg_of X G a16, F__law_text.binds (ps := ["bag"]) fun _ _ _ _ _ _ us hl => match us, hl with | [_], _ => rfl⟩
  have F__law_near := fun_mk (st := s__law_near) l17 c17 k17
  have D__law_near : Df K mg "_law_near" s__law_near ["bag", "word"] f17 _ := ⟨F__law_near, PySem.W.mg_of X G a17, F__law_near.binds (ps := ["bag", "word"]) fun _ _ _ _ _ _ us hl => match us, hl with | [_, _], _ => rfl⟩
  have F__law_some := fun_mk (st := s__law_some) l18 c18 k18
  have D__law_some : Df K mg "_law_some" s__law_some ["bag", "pool"] f18 _ := ⟨F__law_some, PySem.W.mg_of X G a18, F__law_some.binds (ps := ["bag", "pool"]) fun _ _ _ _ _ _ us hl => match us, hl with | [_, _], _ => rfl⟩
  have F__law_leaf := fun_mk (st := s__law_leaf) l19 c19 k19
  have D__law_leaf : Df K mg "_law_leaf" s__law_leaf ["bag", "room", "pool"] f19 _ := ⟨F__law_leaf, PySem.W.mg_of X G a19, F__law_leaf.binds (ps := ["bag", "room", "pool"]) fun _ _ _ _ _ _ us hl => match us, hl with | [_, _, _], _ => rfl⟩
  have F__law_sieve := fun_mk (st := s__law_sieve) l20 c20 k20
  have D__law_sieve : Df K mg "_law_sieve" s__law_sieve ["bag", "room", "pool", "levels"] f20 _ := ⟨F__law_sieve, PySem.W.mg_of X G a20, F__law_sieve.binds (ps := ["bag", "room", "pool", "levels"]) fun _ _ _ _ _ _ us hl => match us, hl with | [_, _, _, _], _ => rfl⟩
  have F__law_level := fun_mk (st := s__law_level) l21 c21 k21
  have D__law_level : Df K mg "_law_level" s__law_level ["sieve", "thing"] f21 _ := ⟨F__law_level, PySem.W.mg_of X G a21, F__law_level.binds (ps := ["sieve", "thing"]) fun _ _ _ _ _ _ us hl => match us, hl with | [_, _], _ => rfl⟩
  have F__law_values := fun_mk (st := s__law_values) l22 c22 k22
  have D__law_values : Df K mg "_law_values" s__law_values ["bag", "pool", "upto"] f22 _ := ⟨F__law_values, PySem.W.mg_of X G a22, F__law_values.binds (ps := ["bag", "pool", "upto"]) fun _ _ _ _ _ _ us hl => match us, hl with | [_, _, _], _ => rfl⟩
  have F__law_right := fun_mk (st := s__law_right) l23 c23 k23
  have D__law_right : Df K mg "_law_right" s__law_right ["sieve", "things"] f23 _ := ⟨F__law_right, PySem.W.mg_of X G a23, F__law_right.binds (ps := ["sieve", "things"]) fun _ _ _ _ _ _ us hl => match us, hl with | [_, _], _ => rfl⟩
  have F_law := fun_mk (st := s_law) l24 c24 k24
  have D_law : Df K mg "law" s_law ["script"] fa _ := ⟨F_law, PySem.W.mg_of X G a24, F_law.binds (ps := ["script"]) fun _ _ _ _ _ _ us hl => match us, hl with | [_], _ => rfl⟩
  have T : Nm mg := ⟨PySem.W.mg_none_of X G z0, PySem.W.mg_none_of X G z1, PySem.W.mg_none_of X G z2, PySem.W.mg_none_of X G z3, PySem.W.mg_none_of X G z4, PySem.W.mg_none_of X G z5, PySem.W.mg_none_of X G z6, PySem.W.mg_none_of X G z7, PySem.W.mg_none_of X G z8, PySem.W.mg_none_of X G z9, PySem.W.mg_none_of X G z10, PySem.W.mg_none_of X G z11, PySem.W.mg_none_of X G z12, PySem.W.mg_none_of X G z13⟩
  have TG : Ng K w mg := ⟨dN0, PySem.W.mg_of X G aN0, (by exact ⟨esN0, nN0, _, lN0, kN0, vN0_0, ⟨_, rfl⟩⟩), (by exact ⟨esN0, nN0, _, lN0, kN0, vN0_1, ⟨_, rfl⟩⟩), (by exact ⟨esN0, nN0, _, lN0, kN0, vN0_2, ⟨_, rfl⟩⟩)⟩
  refine ⟨PySem.W.fnOf "law" "law" (defArgs s_law) (defBody s_law) (defScope s_law) .none kV24 dc24 pm24 an24 cd24 ct24, fun s v => .of_eq rfl, fun base _ _ => ?_⟩
  have c_bag := cl__law_bag (P := l.prog) (w := w) (base := base) D__law_bag T
  have c_draw := cl__law_draw (P := l.prog) (w := w) (base := base) D__law_draw T
  have c_text := cl__law_text D__law_text T c_draw
  have c_near := cl__law_near D__law_near T c_draw
  have c_some := cl__law_some D__law_some T c_draw c_near c_text
  have c_leaf := cl__law_leaf D__law_leaf T c_draw c_some
  have c_sieve := cl__law_sieve D__law_sieve T c_draw c_leaf 6
  have c_ist := cl_is_text (P := l.prog) (w := w) (base := base) D_is_text T
  have c_isf := (both_filter (P := l.prog) (w := w) (base := base) D_is_text D_is_filter D_can_follow T 100).1
  have c_isv := cl_is_value D_is_value T c_ist
  have c_ckv := cl_check_value D_check_value T c_isv
  have c_ckf := cl_check_filter D_check_filter T c_isf
  have c_ckc := cl_check_column D_check_column T c_isv
  have c_yes := cl_yes_or_no (P := l.prog) (w := w) (base := base) D_yes_or_no T
  have c_set := cl_settled (P := l.prog) (w := w) (base := base) D_settled T
  have c_mat := cl_matches (P := l.prog) (w := w) (base := base) D_matches T
  have c_ans := ans_all D_answer_to T TG c_yes c_set c_mat 100
  have c_asw := cl_answer (m := 202) (by decide) D_answer T c_ckf c_ckv (c_ans.mono (by omega))
  have c_pas := cl_passes D_passes T c_ans
  have c_pik := cl_picked (m := 202) (by decide) D_picked T c_ckf c_ckc (c_pas.mono (by omega))
  have c_lev := level_all (P := l.prog) (w := w) (base := base) D__law_level T 100
  have c_val := cl__law_values D__law_values T c_draw c_some
  have c_rig := cl__law_right (m := 204) (by decide) D__law_right T (c_lev.mono (by omega)) (c_asw.mono (by omega)) (c_pik.mono (by omega))
  exact cl_law D_law T c_bag c_draw c_sieve c_val c_rig
end
end Kq
open PySem PySem.W PyProof.Rows in
set_option maxRecDepth 100000 in
set_option maxHeartbeats 0 in
theorem PySem.Challenge.cw_pageskips_k11_answers_and_picks_holds : PySem.Challenge.rw_pageskips_k11_answers_and_picks.Holds := by
  w_on; o_law; k_head; (case hw => w_witness2)
  k_fill
  refine Pg.walk_g (l := PySem.Challenge.rw_pageskips_k11_answers_and_picks) (n := 63) (k := 206) (x := "script") (sp := fun w => Kq.spLaw _) rfl (by decide) rfl ⟨rfl, by decide, by decide⟩ (fun w h Y => PySem.W.kIn_of Y) ?F (fun _ _ a ns hl _ hS => ⟨a, ns, rfl, hS, hl, fun _ => rfl⟩)
  case F =>
    intro w mg fa h KX G hmg
    refine' Kq.all_mk KX G hmg ?a0 ?l0 ?c0 ?k0 ?a1 ?l1 ?c1 ?k1 ?a2 ?l2 ?c2 ?k2 ?a3 ?l3 ?c3 ?k3 ?a4 ?l4 ?c4 ?k4 ?a5 ?l5 ?c5 ?k5 ?a6 ?l6 ?c6 ?k6 ?a7 ?l7 ?c7 ?k7 ?a8 ?l8 ?c8 ?k8 ?a9 ?l9 ?c9 ?k9 ?a10 ?l10 ?c10 ?k10 ?a11 ?l11 ?c11 ?k11 ?a12 ?l12 ?c12 ?k12 ?a13 ?l13 ?c13 ?k13 ?a14 ?l14 ?c14 ?k14 ?a15 ?l15 ?c15 ?k15 ?a16 ?l16 ?c16 ?k16 ?a17 ?l17 ?c17 ?k17 ?a18 ?l18 ?c18 ?k18 ?a19 ?l19 ?c19 ?k19 ?a20 ?l20 ?c20 ?k20 ?a21 ?l21 ?c21 ?k21 ?a22 ?l22 ?c22 ?k22 ?a23 ?l23 ?c23 ?k23 ?a24 ?l24 ?c24 ?k24 ?aN0 ?lN0 ?kN0 ?vN0_0 ?vN0_1 ?vN0_2 ?z0 ?z1 ?z2 ?z3 ?z4 ?z5 ?z6 ?z7 ?z8 ?z9 ?z10 ?z11 ?z12 ?z13
    (case a0 => k_is)
    (case l0 => k_is)
    (case c0 => k_is)
    (case k0 => k_is)
    (case a1 => k_is)
    (case l1 => k_is)
    (case c1 => k_is)
    (case k1 => k_is)
    (case a2 => k_is)
    (case l2 => k_is)
    (case c2 => k_is)
    (case k2 => k_is)
    (case a3 => k_is)
    (case l3 => k_is)
    (case c3 => k_is)
    (case k3 => k_is)
    (case a4 => k_is)
    (case l4 => k_is)
    (case c4 => k_is)
    (case k4 => k_is)
    (case a5 => k_is)
    (case l5 => k_is)
    (case c5 => k_is)
    (case k5 => k_is)
    (case a6 => k_is)
    (case l6 => k_is)
    (case c6 => k_is)
    (case k6 => k_is)
    (case a7 => k_is)
    (case l7 => k_is)
    (case c7 => k_is)
    (case k7 => k_is)
    (case a8 => k_is)
    (case l8 => k_is)
    (case c8 => k_is)
    (case k8 => k_is)
    (case a9 => k_is)
    (case l9 => k_is)
    (case c9 => k_is)
    (case k9 => k_is)
    (case a10 => k_is)
    (case l10 => k_is)
    (case c10 => k_is)
    (case k10 => k_is)
    (case a11 => k_is)
    (case l11 => k_is)
    (case c11 => k_is)
    (case k11 => k_is)
    (case a12 => k_is)
    (case l12 => k_is)
    (case c12 => k_is)
    (case k12 => k_is)
    (case a13 => k_is)
    (case l13 => k_is)
    (case c13 => k_is)
    (case k13 => k_is)
    (case a14 => k_is)
    (case l14 => k_is)
    (case c14 => k_is)
    (case k14 => k_is)
    (case a15 => k_is)
    (case l15 => k_is)
    (case c15 => k_is)
    (case k15 => k_is)
    (case a16 => k_is)
    (case l16 => k_is)
    (case c16 => k_is)
    (case k16 => k_is)
    (case a17 => k_is)
    (case l17 => k_is)
    (case c17 => k_is)
    (case k17 => k_is)
    (case a18 => k_is)
    (case l18 => k_is)
    (case c18 => k_is)
    (case k18 => k_is)
    (case a19 => k_is)
    (case l19 => k_is)
    (case c19 => k_is)
    (case k19 => k_is)
    (case a20 => k_is)
    (case l20 => k_is)
    (case c20 => k_is)
    (case k20 => k_is)
    (case a21 => k_is)
    (case l21 => k_is)
    (case c21 => k_is)
    (case k21 => k_is)
    (case a22 => k_is)
    (case l22 => k_is)
    (case c22 => k_is)
    (case k22 => k_is)
    (case a23 => k_is)
    (case l23 => k_is)
    (case c23 => k_is)
    (case k23 => k_is)
    (case a24 => k_is)
    (case l24 => k_is)
    (case c24 => k_is)
    (case k24 => k_is)
    (case aN0 => k_is)
    (case lN0 => k_is)
    (case kN0 => k_keys)
    (case vN0_0 => k_is)
    (case vN0_1 => k_is)
    (case vN0_2 => k_is)
    (case z0 => k_is)
    (case z1 => k_is)
    (case z2 => k_is)
    (case z3 => k_is)
    (case z4 => k_is)
    (case z5 => k_is)
    (case z6 => k_is)
    (case z7 => k_is)
    (case z8 => k_is)
    (case z9 => k_is)
    (case z10 => k_is)
    (case z11 => k_is)
    (case z12 => k_is)
    (case z13 => k_is)
