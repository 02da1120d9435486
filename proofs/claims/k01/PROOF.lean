import PyProof.Rows.All
import Wide.All
import OpenK.AllK
import Wide.FinOn
import HandS.ForMost
import HandS.Wide
import HandS.TupAny
import HandS.ExcValue
import HandS.Style
import HandS.More
import HandS.Defaults
import HandS.EndBits
import HandS.Flow
import HandS.Zip
import HandS.Star
import HandS.StrMore
import HandS.Set
import HandS.SetTxt0
import HandS.IsInst
import HandS.ExcIs
import KE.KRevSl
import PyProof.Rows.SortShellAny
import HandS.RaiseMore
import HandS.Conv
import HandS.IsInst
import HandS.ExcIs
import KE.KRevSl
import PyProof.InstEq
import KE.DataMinMax
import HandS.SortKw
import HandS.ExcOwn
import HandS.WordsExc
import PyProof.StrLaws
import PyProof.Rows.StrFit
import PySem.Challenge.RW_pageskips_k01_texts
set_option Elab.async false
set_option linter.all false
set_option maxRecDepth 100000
set_option maxHeartbeats 2000000
namespace Pg
open PySem PySem.Spec PyProof.Rows L2
/-! ### heaps: what a piece of the program keeps -/
/-- all that was tracked outside of S stands as it was; in S lists stay lists -/
structure Stp (S : List Addr) (H H' : Hp) : Prop where
  kp : ∀ a o, a ∉ S → H a = some o → H' a = some o
  ls : ∀ a xs, H a = some (.lst xs) → ∃ ys, H' a = some (.lst ys)
theorem Stp.refl (S : List Addr) (H : Hp) : Stp S H H := ⟨fun _ _ _ h => h, fun _ xs h => ⟨xs, h⟩⟩
theorem Stp.trans {S : List Addr} {H H1 H2 : Hp} (a : Stp S H H1) (b : Stp S H1 H2) : Stp S H H2 :=
  ⟨fun x o n h => b.kp x o n (a.kp x o n h), fun x xs h => by
    obtain ⟨ys, h1⟩ := a.ls x xs h
    exact b.ls x ys h1⟩
theorem Stp.sub {S S' : List Addr} {H H' : Hp} (a : Stp S H H') (h : ∀ x ∈ S, x ∈ S') : Stp S' H H' :=
  ⟨fun x o n q => a.kp x o (fun m => n (h x m)) q, a.ls⟩
theorem Stp.nil {S : List Addr} {H H' : Hp} (a : Stp [] H H') : Stp S H H' := a.sub fun _ h => nomatch h
theorem Stp.new {H : Hp} {p : Addr} {o : HO} (h : H p = none) (S : List Addr) : Stp S H (upd H p o) :=
  ⟨fun x u _ q => by rw [upd_ne (ne_of_none q h)]; exact q, fun x xs q => ⟨xs, by rw [upd_ne (ne_of_none q h)]; exact q⟩⟩
theorem Stp.put {S : List Addr} {H : Hp} {p : Addr} {ys : List V} (m : p ∈ S) : Stp S H (upd H p (.lst ys)) :=
  ⟨fun x u n q => by
    rw [upd_ne (fun e => n (by rw [e]; exact m))]
    exact q, fun x xs q => by
    by_cases e : x = p
    · subst e
      exact ⟨ys, upd_same⟩
    · exact ⟨xs, by rw [upd_ne e]; exact q⟩⟩
/-- a local object: it was not there -/
theorem Stp.loc {S : List Addr} {H H' : Hp} {p : Addr} (h : H p = none) (a : Stp (p :: S) H H') : Stp S H H' :=
  ⟨fun x o n q => a.kp x o (fun m => by
    rcases List.mem_cons.mp m with e | m
    · exact ne_of_none q h e
    · exact n m) q, a.ls⟩
theorem Stp.fresh {S : List Addr} {H H' : Hp} {p : Addr} (a : Stp S H H') (n : p ∉ S) (h : H' p = none) : H p = none := by
  cases e : H p with
  | none => rfl
  | some o =>
    rw [a.kp p o n e] at h
    cases h
/-- a list that was not there is changed -/
theorem Stp.mut {S : List Addr} {H H' : Hp} {p : Addr} {ys : List V} (a : Stp S H H') (h : H p = none) : Stp S H (upd H' p (.lst ys)) :=
  ⟨fun x o n q => by
    rw [upd_ne (ne_of_none q h)]
    exact a.kp x o n q, fun x xs q => by
    rw [upd_ne (ne_of_none q h)]
    exact a.ls x xs q⟩
theorem Stp.put' {S : List Addr} {H H' : Hp} {p : Addr} {ys : List V} (a : Stp S H H') (m : p ∈ S) : Stp S H (upd H' p (.lst ys)) := a.trans (Stp.put m)
theorem Stp.new' {S : List Addr} {H H' : Hp} {p : Addr} {o : HO} (a : Stp S H H') (h : H' p = none) : Stp S H (upd H' p o) := a.trans (Stp.new h S)
/-- only the list at p may differ -/
def Only (p : Addr) (H H' : Hp) : Prop := ∃ ys, H' = upd H p (.lst ys)
theorem Only.at {p q : Addr} {H H' : Hp} {o : HO} (h : Only p H H') (e : H q = some o) (n : q ≠ p) : H' q = some o := by
  obtain ⟨ys, rfl⟩ := h
  rw [upd_ne n]
  exact e
theorem Only.stp {p : Addr} {H H' : Hp} {S : List Addr} (h : Only p H H') (m : p ∈ S) : Stp S H H' := by
  obtain ⟨ys, rfl⟩ := h
  exact Stp.put m

/-! ### the draws -/
def BagV (x y z : Int) (n : Nat) : Prop := 0 ≤ x ∧ 0 ≤ y ∧ y < 2 ^ 40 ∧ 0 ≤ z ∧ z ≤ (n : Int)
/-- a bag stands at b, from which at most n draws have been made -/
def Bag (H : Hp) (b : Addr) (n : Nat) : Prop := ∃ x y z, H b = some (.lst [.int x, .int y, .int z]) ∧ BagV x y z n
theorem Bag.mono {H : Hp} {b : Addr} {n m : Nat} (h : Bag H b n) (e : n ≤ m) : Bag H b m := by
  obtain ⟨x, y, z, h1, h2, h3, h4, h5, h6⟩ := h
  exact ⟨x, y, z, h1, h2, h3, h4, h5, by omega⟩
theorem Bag.kp {H H' : Hp} {b : Addr} {n : Nat} {S : List Addr} (h : Bag H b n) (s : Stp S H H') (m : b ∉ S) : Bag H' b n := by
  obtain ⟨x, y, z, h1, h2⟩ := h
  exact ⟨x, y, z, s.kp _ _ m h1, h2⟩
theorem Bag.upd {H : Hp} {b p : Addr} {n : Nat} {o : HO} (h : Bag H b n) (e : b ≠ p) : Bag (L2.upd H p o) b n := by
  obtain ⟨x, y, z, h1, h2⟩ := h
  exact ⟨x, y, z, by rw [upd_ne e]; exact h1, h2⟩
theorem Bag.ne {H : Hp} {b p : Addr} {n : Nat} (h : Bag H b n) (q : H p = none) : b ≠ p := by
  obtain ⟨x, y, z, h1, h2⟩ := h
  exact ne_of_none h1 q
theorem cmul {i j : Int} (a b : Nat) (h1 : 0 ≤ i) (h2 : i < 2 ^ a) (h3 : 0 ≤ j) (h4 : j < 2 ^ b) (ha : 0 < a) (hb : 0 < b) (h : a + b ≤ 1000000) : CMulW i j := by
  refine wide_mul (a := a) (b := b) ?_ ?_ ha hb h
  · have e : ((i.natAbs : Nat) : Int) < ((2 ^ a : Nat) : Int) := by
      rw [Int.natAbs_of_nonneg h1, Int.natCast_pow]
      exact h2
    exact Int.ofNat_lt.mp e
  · have e : ((j.natAbs : Nat) : Int) < ((2 ^ b : Nat) : Int) := by
      rw [Int.natAbs_of_nonneg h3, Int.natCast_pow]
      exact h4
    exact Int.ofNat_lt.mp e
theorem cdiv {i j : Int} (b : Nat) (h1 : 0 < j) (h2 : j < 2 ^ b) (hb : 0 < b) (h9 : b ≤ 9000) : CDivW i j := by
  refine wide_div (b := b) h1 ?_ hb h9
  have e : ((j.natAbs : Nat) : Int) < ((2 ^ b : Nat) : Int) := by
    rw [Int.natAbs_of_nonneg (by omega), Int.natCast_pow]
    exact h2
  exact Int.ofNat_lt.mp e
theorem mul_lt {i j : Int} {a b : Nat} (h1 : 0 ≤ i) (h2 : i < 2 ^ a) (h3 : 0 ≤ j) (h4 : j < 2 ^ b) : 0 ≤ i * j ∧ i * j < 2 ^ (a + b) := by
  refine ⟨Int.mul_nonneg h1 h3, ?_⟩
  have e1 : i * j ≤ i * 2 ^ b := Int.mul_le_mul_of_nonneg_left (Int.le_of_lt h4) h1
  have hp : (0 : Int) < 2 ^ b := Int.pow_pos (by omega)
  have e2 : i * 2 ^ b < 2 ^ a * 2 ^ b := Int.mul_lt_mul_of_pos_right h2 hp
  rw [Int.pow_add]
  omega
/-- a letter for a number -/
theorem genQ {Q : V → Hp → Prop} {H : Hp} {i : Int} (h : ∀ t, t = i → Q (.int t) H) : Q (.int i) H := h i rfl
/-! ### rules of my own -/
section
variable {X : Cx}
/-- 'a' * n -/
theorem op_mul_str : OpR X (binaryOp .Mult) (fun x y H Q => ∃ i j, x = .str i ∧ y = .int j ∧ MulOk i j ∧ Q (.str (Txt.mul i j)) H) := by
  intro pins s σ H x y v u Q I rx ry h
  obtain ⟨i, j, rfl, rfl, hz, q⟩ := h
  obtain ⟨t, rfl⟩ := rx
  obtain ⟨t', rfl⟩ := ry
  exact SB.mul hz (fun t' k => ⟨.str (Txt.mul i j), H, I.tok _, ⟨_, rfl⟩, q⟩)
end
end Pg
namespace Pg
open PySem PySem.Spec PyProof.Rows L2
/-! ### a def of the text: where it stands, what it keeps -/
/-- a def of the text, found by its name -/
structure Df (K : PySem.W.Frag) (mg : Str → Option Value) (x : Str) (st : Stmt) (ps : List Str) (f : Addr) (fd : FuncData) : Prop where
  fn : Fun K x x st f fd
  at_ : mg x = some (.ref f)
  bd : Binds K fd ps []
/-- .. with its promise -/
structure Cl (P : Program) (w : World) (K : PySem.W.Frag) (mg : Str → Option Value) (base : Heap) (k : Nat) (x : Str) (st : Stmt) (ps : List Str) (sp : Sp) : Prop where
  ex : ∃ f fd, Df K mg x st ps f fd ∧ FnOk P w K mg base CX0 k f fd ps sp
theorem Cl.mono {P : Program} {w : World} {K : PySem.W.Frag} {mg : Str → Option Value} {base : Heap} {j k : Nat} {x : Str} {st : Stmt} {ps : List Str} {sp : Sp} (c : Cl P w K mg base j x st ps sp) (h : j ≤ k) : Cl P w K mg base k x st ps sp := by
  obtain ⟨f, fd, D, F⟩ := c.ex
  exact ⟨f, fd, D, F.mono h⟩
theorem Df.cl {P : Program} {w : World} {K : PySem.W.Frag} {mg : Str → Option Value} {base : Heap} {x : Str} {st : Stmt} {f : Addr} {fd : FuncData} {N ps : List Str} {k : Nat} {sp : Sp} (D : Df K mg x st ps f fd) (S : FnScope N ps (defScope st)) (len : ∀ vs H Q E, sp vs H Q E → vs.length = ps.length)
    (hbody : ∀ (cdv : Value) (A : Around) (outer : List Env) (s : Shared) (H : Hp) (vs : List V) (Q : VK) (E : XK), Room k (A.deeper (envOfC x (defScope st) s.heap.objs.size f cdv)) → sp vs H Q E →
      ∃ t, PSs (cxOf CX0 P w K mg base N x (defScope st) f cdv A outer s H E).nox (defBody st) t ∧ t { nx := fun _ H' => Q .non H', rt := Q } (start N vs) H) : Cl P w K mg base (k + 1) x st ps sp :=
  ⟨f, fd, D, D.fn.ok S len hbody⟩
def tCl (sp : Sp) (t : TA) : TE := fun σ H Q => t σ H fun vs H1 => sp vs H1 Q E0
section
variable {X : Cx} {j k : Nat} {st : Stmt} {ps : List Str} {sp : Sp} {x : Str} {p pos : Pos} {e : Expr} {es : List Expr} {t : TA}
theorem pe_cl (c : Cl X.prog X.w X.K X.mg X.base k x st ps sp) (hr : Room j X.A) (hk : k ≤ j) (ha : PA X (e :: es) t) (hg : Gl X x := by rfl) (hdb : (x == ("__debug__" : Str)) = false := by decide)
    (he : starEach (e :: es) X.env = (false, eval e X.env) :: starEach es X.env := by rfl) (hpl : (backTo pos (starEach es X.env)).any (·.1) = false := by rfl) :
    PE X (.Call (.Name x p) (e :: es) [] pos) (tCl sp t) := by
  obtain ⟨f, fd, D, F⟩ := c.ex
  refine ⟨fun pins s σ H Q I h => ?_⟩
  have q := (pe_call (E := E0) (p := p) (F.mono hk) hr hg D.at_ D.fn.kp D.bd .nil pass0 ha hdb he hpl).run pins s σ H Q I
  refine q ?_
  have h' : t σ H (fun vs H1 => sp vs H1 Q E0) := h
  show t σ H fun vs H1 => sp (vs ++ []) H1 Q E0
  simp only [List.append_nil]
  exact h'
theorem pe_cl0 (c : Cl X.prog X.w X.K X.mg X.base k x st ps sp) (hr : Room j X.A) (hk : k ≤ j) (hg : Gl X x := by rfl) (hdb : (x == ("__debug__" : Str)) = false := by decide) :
    PE X (.Call (.Name x p) [] [] pos) (tCl sp tNil) := by
  obtain ⟨f, fd, D, F⟩ := c.ex
  exact pe_call0 (E := E0) (F.mono hk) hr hg D.at_ D.fn.kp D.bd .nil pass0 hdb
/-- f(k = v, ..) -/
def tClK (sp : Sp) (gV : List V → List V → List V) (tk : TA) : TE := fun σ H Q => tk σ H fun zs H1 => sp (gV [] zs) H1 Q E0
theorem pe_clK {ks : List Str} {g : List Value → List Value → List Value} {gV : List V → List V → List V} {kws : List Keyword} {tk : TA} (c : Cl X.prog X.w X.K X.mg X.base k x st ps sp) (hr : Room j X.A) (hk : k ≤ j)
    (hb : ∀ f fd, Fun X.K x x st f fd → KBinds X.K fd ps ks g gV) (hkw : PK X kws tk)
    (hg : Gl X x := by rfl) (hall : (backToKw pos (keywordEach kws X.env)).all (·.1.isSome) = true := by rfl) (hks : (backToKw pos (keywordEach kws X.env)).filterMap (·.1) = ks := by rfl) (hdb : (x == ("__debug__" : Str)) = false := by decide)
    (hpl : ((backTo pos (starEach [] X.env)).any (·.1) || (backToKw pos (keywordEach kws X.env)).any (·.1.isNone)) = false := by rfl) :
    PE X (.Call (.Name x p) [] kws pos) (tClK sp gV tk) := by
  obtain ⟨f, fd, D, F⟩ := c.ex
  refine ⟨fun pins s σ H Q I h => ?_⟩
  refine wpAny_Call_Name_kw (ld_glob I hg D.at_ ?_ hdb)
  refine PySem.W.callWith_KW0 (h₀ := X.base) I.ok.mod.kin D.fn.kp hall ?_ hpl
  refine thn (hkw.run pos pins s σ H _ I h) fun ws s2 ⟨zs, H2, I2, rz, q2⟩ => ⟨I2.kIn, ?_⟩
  rw [hks]
  exact run_fnk (E := E0) (us := []) (vs := []) (F.mono hk) hr (hb f fd D.fn) pass0 I2 .nil rz q2
end
/-- keywords alone, in an order of their own -/
theorem kb_of {K : PySem.W.Frag} {x : Str} {st : Stmt} {f : Addr} {fd : FuncData} {ps ks : List Str} {g : List Value → List Value} {gV : List V → List V} (F : Fun K x x st f fd) (hne : ps ≠ [])
    (h : ∀ (kV doc pm : Value) (an : Option Addr) (cdv ct : Value) (ws : List Value), (g ws).length = ps.length → bindArgs (PySem.W.fnOf x x (defArgs st) (defBody st) (defScope st) .none kV doc pm an cdv ct) ⟨[], ks.zip ws⟩ = pure (ps.zip (g ws)))
    (r : ∀ {zs : List V} {ws : List Value}, Vals zs ws → Vals (gV zs) (g ws)) : KBinds K fd ps ks (fun us ws => match us with | [] => g ws | _ :: _ => []) (fun vs zs => match vs with | [] => gV zs | _ :: _ => []) := by
  obtain ⟨oc, od, kV, doc, pm, an, cdv, ct, osl, rfl, lk, hcd⟩ := F.ex
  refine ⟨fun s us ws _ hl => ?_, fun {vs us zs ws} r1 r2 => ?_⟩
  · cases us with
    | nil => exact .of_eq (h kV doc pm an cdv ct ws hl)
    | cons u us => exact absurd (List.length_eq_zero_iff.mp hl.symm) hne
  · cases r1 with
    | nil => exact r r2
    | cons _ _ => exact .nil
end Pg
namespace Pg
open PySem PySem.Spec PyProof.Rows L2
open Builtin Builtin.Str
/-! ### texts as lists of letters -/
/-- the text of these signs -/
abbrev tx (l : List Nat) : Str := ⟨l.toArray⟩
abbrev Tx (l : List Nat) : V := .str (tx l)
/-- letters a, b, c alone -/
def Abc (l : List Nat) : Prop := ∀ c ∈ l, c = 97 ∨ c = 98 ∨ c = 99
theorem tx_inj {a b : List Nat} (h : tx a = tx b) : a = b := by
  have q : (tx a).cps.toList = (tx b).cps.toList := by rw [h]
  simpa using q
theorem tx_of (s : Str) : ∃ l, s = tx l := ⟨s.cps.toList, by cases s; simp [tx]⟩
theorem tx_len (l : List Nat) : (tx l).length = l.length := by simp [Str.length]
theorem tx_app (a b : List Nat) : tx a ++ tx b = tx (a ++ b) := by
  show (⟨a.toArray ++ b.toArray⟩ : Str) = _
  simp [tx]
theorem tx_cut (l : List Nat) (lo hi : Option Int) : cutS (tx l) lo hi = tx ((l.drop (HT.sIx l.length 0 lo)).take (HT.sIx l.length l.length hi - HT.sIx l.length 0 lo)) := by
  unfold cutS
  rw [tx_len]
theorem tx_upto (l : List Nat) (k : Nat) : cutS (tx l) none (some (k : Int)) = tx (l.take k) := by
  rw [tx_cut, HT.sIx_none, HT.sIx_nat]
  rw [List.drop_zero, Nat.sub_zero]
  rcases Nat.le_total k l.length with h | h
  · rw [Nat.min_eq_left h]
  · rw [Nat.min_eq_right h, List.take_of_length_le (Nat.le_refl _), List.take_of_length_le h]
theorem tx_init (l : List Nat) : cutS (tx l) none (some (-1)) = tx l.dropLast := by
  rw [tx_cut, HT.sIx_none]
  have e : HT.sIx l.length l.length (some (-1)) = l.length - 1 := by
    show (if (-1 : Int) < 0 then ((-1 : Int) + (l.length : Int)).toNat else min (-1 : Int).toNat l.length) = _
    rw [if_pos (by decide)]
    omega
  rw [e, List.drop_zero, Nat.sub_zero, ← List.dropLast_eq_take]
theorem tx_last (l : List Nat) : cutS (tx l) (some (-1)) none = tx (l.drop (l.length - 1)) := by
  rw [tx_cut, HT.sIx_none]
  have e : HT.sIx l.length 0 (some (-1)) = l.length - 1 := by
    show (if (-1 : Int) < 0 then ((-1 : Int) + (l.length : Int)).toNat else min (-1 : Int).toNat l.length) = _
    rw [if_pos (by decide)]
    omega
  rw [e]
  congr 2
  rw [List.take_of_length_le]
  rw [List.length_drop]
  exact Nat.le_refl _
theorem foldl_app_rep {α : Type} (c : α) : ∀ (n : Nat) (acc : Array α), (List.replicate n #[c]).foldl (· ++ ·) acc = acc ++ (List.replicate n c).toArray
  | 0, acc => by simp
  | n + 1, acc => by
    rw [List.replicate_succ, List.foldl_cons, foldl_app_rep c n, List.replicate_succ]
    apply Array.ext'
    simp
theorem tx_mul (c : Nat) (n : Int) : Txt.mul (tx [c]) n = tx (List.replicate n.toNat c) := by
  unfold Txt.mul
  by_cases h : n < 1
  · rw [if_pos h, show n.toNat = 0 by omega]
    rfl
  · rw [if_neg h]
    by_cases h1 : n = 1
    · subst h1
      rfl
    · rw [if_neg (by simp [h1, Str.length])]
      show (⟨(List.replicate n.toNat #[c]).foldl (· ++ ·) #[]⟩ : Str) = _
      rw [foldl_app_rep]
      simp [tx]
theorem mulOk (c : Nat) {n : Int} (h0 : -1000 ≤ n) (h1 : n ≤ 100000) : MulOk (tx [c]) n := by
  refine ⟨by simp; omega, fun a b q => ?_, fun a b => ?_⟩
  · rw [tx_len] at q
    have e : (1 : Int) ≤ (2 ^ 63 - 1) / n := by
      have hp : 0 < n := by omega
      exact (Int.le_ediv_iff_mul_le hp).mpr (by omega)
    have q' : (([c].length : Nat) : Int) = 1 := rfl
    rw [q'] at q
    have e2 : (1 : Int) > (2 ^ 63 - 1) / n := q
    exact absurd e (by omega)
  · rw [tx_len]
    have e : ([c].length * n.toNat) ≤ sizeLine := Nat.le_trans (show [c].length * n.toNat ≤ 100000 by simp; omega) (by decide)
    unfold tooLong
    simpa using e
theorem foldl_app {α : Type} : ∀ (ps : List (List α)) (acc : Array α), (ps.map List.toArray).foldl (fun a p => a ++ p) acc = acc ++ ps.flatten.toArray
  | [], acc => by simp
  | p :: ps, acc => by
    rw [List.map_cons, List.foldl_cons, foldl_app ps, List.flatten_cons]
    apply Array.ext'
    simp
theorem join_abc (cs : List Nat) : Txt.join (tx []) (cs.map fun c => tx [c]) = tx cs := by
  cases cs with
  | nil => rfl
  | cons c cs =>
    show (⟨((cs.map fun c => tx [c])).foldl (fun acc p => acc ++ (tx []).cps ++ p.cps) (tx [c]).cps⟩ : Str) = _
    have e : ∀ (l : List Nat) (acc : Array Nat), (l.map fun c => tx [c]).foldl (fun acc p => acc ++ (tx []).cps ++ p.cps) acc = acc ++ l.toArray := by
      intro l
      induction l with
      | nil => intro acc; simp
      | cons x l ih =>
        intro acc
        rw [List.map_cons, List.foldl_cons, ih]
        apply Array.ext'
        simp
    rw [e]
    simp [tx]
theorem Abc.nil : Abc [] := fun _ h => nomatch h
theorem Abc.app {a b : List Nat} (h : Abc a) (g : Abc b) : Abc (a ++ b) := fun c m => (List.mem_append.mp m).elim (h c) (g c)
theorem Abc.take {a : List Nat} (h : Abc a) (n : Nat) : Abc (a.take n) := fun c m => h c (List.mem_of_mem_take m)
theorem Abc.drop {a : List Nat} (h : Abc a) (n : Nat) : Abc (a.drop n) := fun c m => h c (List.mem_of_mem_drop m)
theorem Abc.init {a : List Nat} (h : Abc a) : Abc a.dropLast := fun c m => h c (List.dropLast_subset _ m)
theorem Abc.rep (n : Nat) {c : Nat} (h : c = 97 ∨ c = 98 ∨ c = 99) : Abc (List.replicate n c) := fun x m => by
  rw [(List.mem_replicate.mp m).2]
  exact h
theorem Abc.one {c : Nat} (h : c = 97 ∨ c = 98 ∨ c = 99) : Abc [c] := fun x m => by
  rw [List.mem_singleton.mp m]
  exact h
theorem abc_lit : ("abc" : Str) = tx [97, 98, 99] := by decide +kernel
theorem nil_lit : ("" : Str) = tx [] := by decide +kernel
theorem goes_abc (c : Nat) : (tx [97, 98, 99]).cps.contains c = true ↔ (c = 97 ∨ c = 98 ∨ c = 99) := by
  simp [tx]
/-- strip('abc') leaves nothing just of letters alone -/
theorem strip_abc (l : List Nat) : (Txt.stripChars (tx l) (tx [97, 98, 99]) = tx []) ↔ Abc l := by
  unfold Txt.stripChars
  rw [stripBy_eq]
  obtain ⟨a1, a2, a3⟩ := lo_facts (tx [97, 98, 99]).cps.contains (tx l)
  obtain ⟨b1, b2, b3, b4⟩ := hi_facts (tx [97, 98, 99]).cps.contains (tx l) _ a1
  generalize stripLo (tx [97, 98, 99]).cps.contains true (tx l) = lo at *
  generalize stripHi (tx [97, 98, 99]).cps.contains true (tx l) lo = hi at *
  have gd : ∀ k, (tx l).cps.getD k 0 = l.getD k 0 := fun k => by rw [← getD_list]
  have hlen : (tx l).length = l.length := tx_len l
  rw [hlen] at a1 a3 b2 b3
  have size : (strSub (tx l) lo hi).length = hi - lo := by
    unfold strSub Str.length
    simp
    omega
  constructor
  · intro h
    have e : hi - lo = 0 := by rw [← size, h]; rfl
    have e2 : hi = lo := by omega
    subst e2
    have all : ∀ k, k < l.length → (tx [97, 98, 99]).cps.contains (l.getD k 0) = true := fun k hk => by
      rw [← gd]
      by_cases q : k < hi
      · exact a2 k q
      · exact b3 k (by omega) hk
    intro c m
    obtain ⟨k, hk, rfl⟩ := List.mem_iff_getElem.mp m
    have := all k hk
    rw [List.getD_eq_getElem?_getD, List.getElem?_eq_getElem hk] at this
    exact (goes_abc _).mp this
  · intro h
    have e : lo = l.length := by
      rcases a3 with e | e
      · exact e
      · by_cases q : lo < l.length
        · rw [gd, List.getD_eq_getElem?_getD, List.getElem?_eq_getElem q] at e
          have := (goes_abc _).mpr (h _ (List.getElem_mem q))
          rw [Option.getD_some] at e
          rw [e] at this
          cases this
        · omega
    have z : (strSub (tx l) lo hi).length = 0 := by omega
    have : (strSub (tx l) lo hi).cps = #[] := Array.eq_empty_of_size_eq_zero z
    cases hh : strSub (tx l) lo hi with
    | mk c =>
      rw [hh] at this
      show (⟨c⟩ : Str) = ⟨#[]⟩
      rw [show c = #[] from this]
/-! ### picking -/
theorem pick {α : Type} {xs : List α} {d : Int} (h0 : 0 ≤ d) (h1 : d < (xs.length : Int)) : ∃ v, v ∈ xs ∧ atI xs d = some v := by
  obtain ⟨k, rfl⟩ := Int.eq_ofNat_of_zero_le h0
  have hk : k < xs.length := by omega
  exact ⟨xs[k], List.getElem_mem hk, atI_nat (List.getElem?_eq_getElem hk)⟩
theorem pick_int {ns : List Int} {d : Int} (h0 : 0 ≤ d) (h1 : d < (ns.length : Int)) : ∃ v, v ∈ ns ∧ atI (ns.map V.int) d = some (.int v) := by
  obtain ⟨v, m, e⟩ := pick (xs := ns.map V.int) h0 (by rw [List.length_map]; exact h1)
  obtain ⟨n, hn, rfl⟩ := List.mem_map.mp m
  exact ⟨n, hn, e⟩
theorem at0 {α : Type} {a : α} {l : List α} : atI (a :: l) 0 = some a := atI_nat (j := 0) rfl
theorem at1 {α : Type} {a b : α} {l : List α} : atI (a :: b :: l) 1 = some b := atI_nat (j := 1) rfl
theorem sz {n : Nat} (h : n ≤ 100000) : n ≤ sizeLine := Nat.le_trans h (by decide)
theorem szt {l : List Nat} (h : l.length ≤ 100000) : (tx l).length ≤ sizeLine := by
  rw [tx_len]
  exact sz h
theorem inV_str (s : Str) : ∀ ws : List Str, inV (.str s) (ws.map V.str) = decide (s ∈ ws)
  | [] => rfl
  | x :: ws => by
    have ih := inV_str s ws
    unfold inV at ih ⊢
    rw [List.map_cons, List.any_cons, ih]
    show ((x == s) || decide (s ∈ ws)) = _
    by_cases e : x = s
    · subst e
      simp
    · have : (x == s) = false := beq_eq_false_iff_ne.mpr e
      rw [this]
      simp
      exact fun q => absurd q.symm e
end Pg
namespace Pg
open PySem PySem.Spec PyProof.Rows L2
/-! ### lists of texts, compared -/
theorem strOk_abc {l : List Nat} (h : Abc l) : PyData.canLay0 (.str (tx l)) = true := by
  unfold PyData.canLay0 PyData.strOk
  simp
  intro c m
  rcases h c m with e | e | e <;> subst e <;> decide
theorem canLay_strs : ∀ {ls : List (List Nat)}, (∀ l ∈ ls, Abc l) → PyData.canLayAll0 (ls.map fun l => .str (tx l)) = true
  | [], _ => rfl
  | l :: ls, h => by
    show (PyData.canLay0 (.str (tx l)) && PyData.canLayAll0 (ls.map fun l => .str (tx l))) = true
    rw [strOk_abc (h l List.mem_cons_self), canLay_strs fun m q => h m (List.mem_cons_of_mem _ q)]
    rfl
theorem depth_strs : ∀ (ls : List (List Nat)), PyData.depthAll (ls.map fun l => .str (tx l)) = 0
  | [] => rfl
  | l :: ls => by
    show max 0 (PyData.depthAll (ls.map fun l => .str (tx l))) = 0
    rw [depth_strs ls]
    rfl
theorem shaped_strs {ls : List (List Nat)} (h : ∀ l ∈ ls, Abc l) : SeqAt.shaped (.list (ls.map fun l => .str (tx l))) = true := by
  unfold SeqAt.shaped
  rw [show PyData.canLay0 (.list (ls.map fun l => .str (tx l))) = true from canLay_strs h]
  rw [show PyData.depth (.list (ls.map fun l => .str (tx l))) = 0 + 1 by show PyData.depthAll _ + 1 = _; rw [depth_strs]]
  rfl
theorem dp_strs {K : PySem.W.Frag} {H : Hp} : ∀ (ls : List (List Nat)), DpAll K H (ls.map Tx) (ls.map fun l => .str (tx l))
  | [] => .nil
  | l :: ls => .cons (.str _) (dp_strs ls)
theorem ne_nil_strs {K : PySem.W.Frag} {H : Hp} {p q : Addr} {ls : List (List Nat)} {Q : VK} (hp : SqL K H p (ls.map Tx)) (h : ∀ l ∈ ls, Abc l) (hq : H q = some (.lst [])) (k : Q (.bl (!ls.isEmpty)) H) : rNeD K (.ref p) (.ref q) H Q := by
  refine ⟨.list (ls.map fun l => .str (tx l)), .list [], .lst hp (dp_strs ls), .lst (SqL.of hq) .nil, shaped_strs h, rfl, ?_⟩
  have e : PyData.eqv (.list (ls.map fun l => .str (tx l))) (.list []) = ls.isEmpty := by
    cases ls with
    | nil => rfl
    | cons l ls => rfl
  rw [e]
  exact k
end Pg
namespace Pg
open PySem PySem.Spec PyProof.Rows L2
/-! ### any values: what they are, as far as the program looks -/
inductive Dt where
  | non | bl (b : Bool) | int (i : Int) | str (l : List Nat) | tup (ds : List Dt) | lst | obj
mutual
def Dt.dep : Dt → Nat
  | .tup ds => Dt.depL ds + 1
  | _ => 0
def Dt.depL : List Dt → Nat
  | [] => 0
  | d :: ds => max d.dep (Dt.depL ds)
end
theorem Dt.dep_mem : ∀ {ds : List Dt} {d : Dt}, d ∈ ds → d.dep ≤ Dt.depL ds
  | e :: ds, d, m => by
    rcases List.mem_cons.mp m with rfl | m
    · exact Nat.le_max_left _ _
    · exact Nat.le_trans (Dt.dep_mem m) (Nat.le_max_right _ _)
theorem Dt.depL_le : ∀ {ds : List Dt} {n : Nat}, (∀ d ∈ ds, d.dep ≤ n) → Dt.depL ds ≤ n
  | [], _, _ => Nat.zero_le _
  | d :: ds, n, h => Nat.max_le.mpr ⟨h d List.mem_cons_self, Dt.depL_le fun e m => h e (List.mem_cons_of_mem _ m)⟩
mutual
inductive Rp (K : PySem.W.Frag) (H : Hp) : V → Dt → Prop
  | non : Rp K H .non .non
  | bl (b : Bool) : Rp K H (.bl b) (.bl b)
  | int (i : Int) : Rp K H (.int i) (.int i)
  | str (l : List Nat) (h : l.length ≤ 100000) : Rp K H (Tx l) (.str l)
  | tup {a : Addr} {vs : List V} {ds : List Dt} : SqT K H a vs → vs.length ≤ 100000 → RpL K H vs ds → Rp K H (.ref a) (.tup ds)
  | lst {a : Addr} {vs : List V} : H a = some (.lst vs) → Rp K H (.ref a) .lst
  | obj {a C : Addr} : H a = some (ExO (.ref C) a) → Rp K H (.ref a) .obj
inductive RpL (K : PySem.W.Frag) (H : Hp) : List V → List Dt → Prop
  | nil : RpL K H [] []
  | cons {v : V} {vs : List V} {d : Dt} {ds : List Dt} : Rp K H v d → RpL K H vs ds → RpL K H (v :: vs) (d :: ds)
end
/-- S has nothing but lists -/
def Lsts (H : Hp) (S : List Addr) : Prop := ∀ p ∈ S, ∃ xs, H p = some (.lst xs)
theorem Lsts.nil {H : Hp} : Lsts H [] := fun _ m => nomatch m
theorem Lsts.one {H : Hp} {p : Addr} {xs : List V} (h : H p = some (.lst xs)) : Lsts H [p] := fun q m => by
  rw [List.mem_singleton.mp m]
  exact ⟨xs, h⟩
theorem Lsts.cons {H : Hp} {p : Addr} {S : List Addr} {xs : List V} (h : H p = some (.lst xs)) (t : Lsts H S) : Lsts H (p :: S) := fun q m => by
  rcases List.mem_cons.mp m with rfl | m
  · exact ⟨xs, h⟩
  · exact t q m
theorem Lsts.stp {H H' : Hp} {S S' : List Addr} (h : Lsts H S) (s : Stp S' H H') : Lsts H' S := fun p m => by
  obtain ⟨xs, e⟩ := h p m
  exact s.ls p xs e
theorem sqt_stp {K : PySem.W.Frag} {H H' : Hp} {S : List Addr} {a : Addr} {vs : List V} (s : Stp S H H') (l : Lsts H S) (h : SqT K H a vs) : SqT K H' a vs := by
  rcases h with (h | ⟨o, h⟩) | h
  · refine .inl (.inl (s.kp a _ (fun m => ?_) h))
    obtain ⟨xs, e⟩ := l a m
    rw [h] at e
    cases e
  · refine .inl (.inr ⟨o, s.kp a _ (fun m => ?_) h⟩)
    obtain ⟨xs, e⟩ := l a m
    rw [h] at e
    cases e
  · exact .inr h
mutual
theorem Rp.stp {K : PySem.W.Frag} {H H' : Hp} {S : List Addr} (s : Stp S H H') (l : Lsts H S) : ∀ {v : V} {d : Dt}, Rp K H v d → Rp K H' v d
  | _, .non, .non => .non
  | _, .bl _, .bl b => .bl b
  | _, .int _, .int i => .int i
  | _, .str _, .str x h => .str x h
  | _, .tup ds, .tup h n r => .tup (sqt_stp s l h) n (RpL.stp s l r)
  | _, .lst, .lst (a := a) (vs := vs) h => by
    obtain ⟨ys, e⟩ := s.ls a vs h
    exact .lst e
  | _, .obj, .obj (a := a) (C := C) h => by
    refine .obj (C := C) (s.kp a _ (fun m => ?_) h)
    obtain ⟨xs, e⟩ := l a m
    rw [h] at e
    cases e
theorem RpL.stp {K : PySem.W.Frag} {H H' : Hp} {S : List Addr} (s : Stp S H H') (l : Lsts H S) : ∀ {vs : List V} {ds : List Dt}, RpL K H vs ds → RpL K H' vs ds
  | _, [], .nil => .nil
  | _, _ :: _, .cons h r => .cons (Rp.stp s l h) (RpL.stp s l r)
end
theorem RpL.len {K : PySem.W.Frag} {H : Hp} : ∀ {vs : List V} {ds : List Dt}, RpL K H vs ds → vs.length = ds.length
  | _, [], .nil => rfl
  | _, _ :: _, .cons _ r => by rw [List.length_cons, List.length_cons, RpL.len r]
theorem RpL.get {K : PySem.W.Frag} {H : Hp} : ∀ {vs : List V} {ds : List Dt} {i : Nat} {v : V}, RpL K H vs ds → vs[i]? = some v → ∃ d, ds[i]? = some d ∧ Rp K H v d
  | _, [], _, _, .nil, e => by simp at e
  | _, d :: _, 0, _, .cons h _, e => by
    simp at e
    subst e
    exact ⟨d, rfl, h⟩
  | _, _ :: _, i + 1, v, .cons _ r, e => RpL.get (i := i) (v := v) r (by simpa using e)
theorem RpL.app {K : PySem.W.Frag} {H : Hp} : ∀ {vs ws : List V} {ds es : List Dt}, RpL K H vs ds → RpL K H ws es → RpL K H (vs ++ ws) (ds ++ es)
  | _, _, [], _, .nil, q => q
  | _, _, _ :: _, _, .cons h r, q => .cons h (RpL.app r q)
theorem RpL.one {K : PySem.W.Frag} {H : Hp} : ∀ {vs : List V} {ds : List Dt}, RpL K H vs ds → vs.length = 1 → ∃ v d, vs = [v] ∧ ds = [d] ∧ Rp K H v d
  | _, [], .nil, h => by simp at h
  | _, [d], .cons h .nil, _ => ⟨_, d, rfl, rfl, h⟩
  | _, _ :: _ :: _, .cons _ (.cons _ _), h => by simp at h
/-! ### type(x), is -/
/-- the name of a value's built-in class; none for an object of the package -/
def Dt.ty : Dt → Option String
  | .non => some "NoneType"
  | .bl _ => some "bool"
  | .int _ => some "int"
  | .str _ => some "str"
  | .tup _ => some "tuple"
  | .lst => some "list"
  | .obj => none
def rTy (K : PySem.W.Frag) : List V → Hp → VK → Prop := fun xs H Q => ∃ x d, xs = [x] ∧ Rp K H x d ∧ ∀ y, (∀ T, d.ty = some T → y = .ty T) → (d.ty = none → ∃ C, y = .ref C) → Q y H
section
variable {X : Cx}
theorem call_type : CallR X (.type "type") (rTy X.K) := by
  intro pins s σ H xs us Q I r h
  obtain ⟨x, d, rfl, rp, q⟩ := h
  have old : ∀ T, TyB X.K H x T → d.ty = some T → wpAny (model X.prog X.w) X.A (call (.type "type") us) (EP X pins σ Q) X.xe s := fun T t e => by
    refine call_type1 pins s σ H [x] us Q I r ⟨x, T, rfl, t, q _ (fun T' e' => ?_) (fun n => ?_)⟩
    · rw [e] at e'
      cases e'
      rfl
    · rw [e] at n
      cases n
  cases rp with
  | non => exact old _ .non rfl
  | bl b => exact old _ (.bl b) rfl
  | int i => exact old _ (.int i) rfl
  | str l hl => exact old _ (.str _) rfl
  | tup hs hn ha => exact old _ (.tup hs) rfl
  | lst hs => exact old _ (.lst (SqL.of hs)) rfl
  | obj ho =>
    rename_i a C
    obtain ⟨u, rfl, rx⟩ := vals1 r
    cases rx
    obtain ⟨⟨oe, vs, e1, ⟨e2, e3⟩, e4, _⟩, _⟩ := I.hok _ _ ho
    obtain ⟨hh, g, dd, t, os⟩ := s
    exact call_type_obj e1 (by rw [e2]; rfl) (by rw [e2]; exact ⟨.ref C, H, I, rfl, q _ (fun T e => nomatch e) (fun _ => ⟨C, rfl⟩)⟩)
def rTyIs (neg : Bool) : R2 := fun x y H Q => ∃ T, y = .ty T ∧ ((∃ T', x = .ty T' ∧ Q (.bl (neg ^^ decide (T' = T))) H) ∨ ∃ C, x = .ref C ∧ Q (.bl neg) H)
theorem op_isTy : OpR X (compareOp .Is) (rTyIs false) := by
  intro pins s σ H x y v u Q I rx ry h
  obtain ⟨T, rfl, ⟨T', rfl, q⟩ | ⟨C, rfl, q⟩⟩ := h
  · exact op_isTyB pins s σ H _ _ _ _ _ I rx ry ⟨T', T, rfl, rfl, by rwa [Bool.false_xor] at q⟩
  · cases (show v = Value.ref C from rx)
    cases (show u = Value.type T from ry)
    exact wpAny_is_other rfl (by intro e; cases e) ⟨.bl false, H, I, rfl, q⟩
theorem op_notTy : OpR X (compareOp .IsNot) (rTyIs true) := by
  intro pins s σ H x y v u Q I rx ry h
  obtain ⟨T, rfl, ⟨T', rfl, q⟩ | ⟨C, rfl, q⟩⟩ := h
  · exact op_notTyB pins s σ H _ _ _ _ _ I rx ry ⟨T', T, rfl, rfl, by rwa [Bool.true_xor] at q⟩
  · cases (show v = Value.ref C from rx)
    cases (show u = Value.type T from ry)
    exact wpAny_isNot_other rfl (by intro e; cases e) ⟨.bl true, H, I, rfl, q⟩
end
/-- type(x) is T, type(x) is not T -/
theorem ty_is {K : PySem.W.Frag} {H : Hp} {x : V} {d : Dt} {T : String} {neg : Bool} {Q : VK} (r : Rp K H x d) (k : Q (.bl (neg ^^ decide (d.ty = some T))) H) : rTy K [x] H fun y H1 => rTyIs neg y (.ty T) H1 Q := by
  refine ⟨x, d, rfl, r, fun y h1 h2 => ⟨T, rfl, ?_⟩⟩
  cases e : d.ty with
  | none =>
    obtain ⟨C, rfl⟩ := h2 e
    refine .inr ⟨C, rfl, ?_⟩
    rw [e] at k
    simpa using k
  | some T' =>
    rw [h1 T' e]
    refine .inl ⟨T', rfl, ?_⟩
    rw [e] at k
    simpa using k
/-! ### type(e) is T as one piece -/
def Mono (te : TE) : Prop := ∀ σ H (Q Q' : VK), (∀ v H', Q v H' → Q' v H') → te σ H Q → te σ H Q'
theorem Mono.var {i : Nat} : Mono (tVar i) := fun σ H Q Q' h ⟨v, e, q⟩ => ⟨v, e, h _ _ q⟩
theorem Mono.c {v : V} : Mono (tC v) := fun σ H Q Q' h q => h _ _ q
theorem Mono.op {r : R2} {ta tb : TE} (ha : Mono ta) (hb : Mono tb) (hr : ∀ x y H (Q Q' : VK), (∀ v H', Q v H' → Q' v H') → r x y H Q → r x y H Q') : Mono (tOp r ta tb) := fun σ H Q Q' h q =>
  ha σ H _ _ (fun x H1 q1 => hb σ H1 _ _ (fun y H2 q2 => hr x y H2 _ _ h q2) q1) q
theorem Mono.ixT {K : PySem.W.Frag} {ta tb : TE} (ha : Mono ta) (hb : Mono tb) : Mono (tOp (rIxT K) ta tb) := Mono.op ha hb fun _ _ _ _ _ h ⟨p, xs, i, v, e1, e2, e3, e4, q⟩ => ⟨p, xs, i, v, e1, e2, e3, e4, h _ _ q⟩
theorem Mono.ixL {K : PySem.W.Frag} {ta tb : TE} (ha : Mono ta) (hb : Mono tb) : Mono (tOp (rIxL K) ta tb) := Mono.op ha hb fun _ _ _ _ _ h ⟨p, xs, i, v, e1, e2, e3, e4, q⟩ => ⟨p, xs, i, v, e1, e2, e3, e4, h _ _ q⟩
def tTyIs (K : PySem.W.Frag) (neg : Bool) (T : String) (te : TE) : TE := fun σ H Q => te σ H fun x H1 => ∃ d, Rp K H1 x d ∧ Q (.bl (neg ^^ decide (d.ty = some T))) H1
def tTTyIs (K : PySem.W.Frag) (neg : Bool) (T : String) (te : TE) : TT := fun σ H Q => te σ H fun x H1 => ∃ d, Rp K H1 x d ∧ Q (neg ^^ decide (d.ty = some T)) H1
section
variable {X : Cx} {e : Expr} {te : TE} {T : String} {x : Str} {p pos q pos2 : Pos}
theorem pe_tyIs (hm : Mono te) (he : PE X e te) (hn : X.mg "type" = none) (hT : X.mg x = none) (hv : bootBuiltins x = some (Value.type T)) (hg : Gl X "type" := by rfl) (hgT : Gl X x := by rfl) (hnn : x ≠ "__name__" := by decide) (hd : (x == ("__debug__" : Str)) = false := by decide)
    (hs : starEach [e] X.env = (false, eval e X.env) :: starEach [] X.env := by rfl) (hpl : (backTo pos (starEach [] X.env)).any (·.1) = false := by rfl) :
    PE X (.Compare (.Call (.Name "type" p) [e] [] pos) [.Is] [.Name x q] pos2) (tTyIs X.K false T te) := by
  have h := pe_cmpR (X := X) (pos := pos2) op_isTy (pe_callTy (p := p) (pos := pos) call_type hg hn (by decide +kernel) (pa_cons he pa_nil (hs := hs)) (he := hs) (hpl := hpl)) (pe_bltn (v := .ty T) (pos := q) hgT hT hv rfl hnn hd) (nomark _)
  refine ⟨fun pins s σ H Q I hw => h.run pins s σ H Q I ?_⟩
  exact hm σ H _ _ (fun v H1 ⟨d, r, k⟩ => ty_is (neg := false) r k) hw
theorem pe_tyNot (hm : Mono te) (he : PE X e te) (hn : X.mg "type" = none) (hT : X.mg x = none) (hv : bootBuiltins x = some (Value.type T)) (hg : Gl X "type" := by rfl) (hgT : Gl X x := by rfl) (hnn : x ≠ "__name__" := by decide) (hd : (x == ("__debug__" : Str)) = false := by decide)
    (hs : starEach [e] X.env = (false, eval e X.env) :: starEach [] X.env := by rfl) (hpl : (backTo pos (starEach [] X.env)).any (·.1) = false := by rfl) :
    PE X (.Compare (.Call (.Name "type" p) [e] [] pos) [.IsNot] [.Name x q] pos2) (tTyIs X.K true T te) := by
  have h := pe_cmpR (X := X) (pos := pos2) op_notTy (pe_callTy (p := p) (pos := pos) call_type hg hn (by decide +kernel) (pa_cons he pa_nil (hs := hs)) (he := hs) (hpl := hpl)) (pe_bltn (v := .ty T) (pos := q) hgT hT hv rfl hnn hd) (nomark _)
  refine ⟨fun pins s σ H Q I hw => h.run pins s σ H Q I ?_⟩
  exact hm σ H _ _ (fun v H1 ⟨d, r, k⟩ => ty_is (neg := true) r k) hw
theorem pt_tyIs (hm : Mono te) (he : PE X e te) (hn : X.mg "type" = none) (hT : X.mg x = none) (hv : bootBuiltins x = some (Value.type T)) (hg : Gl X "type" := by rfl) (hgT : Gl X x := by rfl) (hnn : x ≠ "__name__" := by decide) (hd : (x == ("__debug__" : Str)) = false := by decide)
    (hs : starEach [e] X.env = (false, eval e X.env) :: starEach [] X.env := by rfl) (hpl : (backTo pos (starEach [] X.env)).any (·.1) = false := by rfl) :
    PT X (.Compare (.Call (.Name "type" p) [e] [] pos) [.Is] [.Name x q] pos2) (tTTyIs X.K false T te) := by
  have h := pt_cmpR (X := X) (pos := pos2) op_isTy (pe_callTy (p := p) (pos := pos) call_type hg hn (by decide +kernel) (pa_cons he pa_nil (hs := hs)) (he := hs) (hpl := hpl)) (pe_bltn (v := .ty T) (pos := q) hgT hT hv rfl hnn hd) (nomark _)
  refine ⟨fun pins s σ H Q I hw => h.run pins s σ H Q I ?_⟩
  exact hm σ H _ _ (fun v H1 ⟨d, r, k⟩ => ty_is (neg := false) (Q := fun x H' => ∃ k, x = .bl k ∧ Q k H') r ⟨_, rfl, k⟩) hw
theorem pt_tyNot (hm : Mono te) (he : PE X e te) (hn : X.mg "type" = none) (hT : X.mg x = none) (hv : bootBuiltins x = some (Value.type T)) (hg : Gl X "type" := by rfl) (hgT : Gl X x := by rfl) (hnn : x ≠ "__name__" := by decide) (hd : (x == ("__debug__" : Str)) = false := by decide)
    (hs : starEach [e] X.env = (false, eval e X.env) :: starEach [] X.env := by rfl) (hpl : (backTo pos (starEach [] X.env)).any (·.1) = false := by rfl) :
    PT X (.Compare (.Call (.Name "type" p) [e] [] pos) [.IsNot] [.Name x q] pos2) (tTTyIs X.K true T te) := by
  have h := pt_cmpR (X := X) (pos := pos2) op_notTy (pe_callTy (p := p) (pos := pos) call_type hg hn (by decide +kernel) (pa_cons he pa_nil (hs := hs)) (he := hs) (hpl := hpl)) (pe_bltn (v := .ty T) (pos := q) hgT hT hv rfl hnn hd) (nomark _)
  refine ⟨fun pins s σ H Q I hw => h.run pins s σ H Q I ?_⟩
  exact hm σ H _ _ (fun v H1 ⟨d, r, k⟩ => ty_is (neg := true) (Q := fun x H' => ∃ k, x = .bl k ∧ Q k H') r ⟨_, rfl, k⟩) hw
end
end Pg
namespace Pg
open PySem PySem.Spec PyProof.Rows L2
/-! ### readings are monotone: a piece may be cut off by what it leaves -/
def MonoT (t : TT) : Prop := ∀ σ H (Q Q' : Bool → Hp → Prop), (∀ b H', Q b H' → Q' b H') → t σ H Q → t σ H Q'
def MonoA (t : TA) : Prop := ∀ σ H (Q Q' : List V → Hp → Prop), (∀ vs H', Q vs H' → Q' vs H') → t σ H Q → t σ H Q'
def MonoS (sp : Sp) : Prop := ∀ vs H (Q Q' : VK) E, (∀ v H', Q v H' → Q' v H') → sp vs H Q E → sp vs H Q' E
def MonoR (r : R2) : Prop := ∀ x y H (Q Q' : VK), (∀ v H', Q v H' → Q' v H') → r x y H Q → r x y H Q'
def MonoC (r : List V → Hp → VK → Prop) : Prop := ∀ vs H (Q Q' : VK), (∀ v H', Q v H' → Q' v H') → r vs H Q → r vs H Q'
theorem Mono.cut {te : TE} (m : Mono te) {σ : L2.St} {H : Hp} {Q : VK} (P : V → Hp → Prop) (h : te σ H P) (k : ∀ v H', P v H' → Q v H') : te σ H Q := m σ H P Q k h
theorem MonoT.cut {t : TT} (m : MonoT t) {σ : L2.St} {H : Hp} {Q : Bool → Hp → Prop} (P : Bool → Hp → Prop) (h : t σ H P) (k : ∀ b H', P b H' → Q b H') : t σ H Q := m σ H P Q k h
theorem MonoR.i0 {g : Int → Int → V} : MonoR (rI0 g) := fun _ _ _ _ _ h ⟨i, j, e1, e2, q⟩ => ⟨i, j, e1, e2, h _ _ q⟩
theorem MonoR.i {C : Int → Int → Prop} {g : Int → Int → V} : MonoR (rI C g) := fun _ _ _ _ _ h ⟨i, j, e1, e2, c, q⟩ => ⟨i, j, e1, e2, c, h _ _ q⟩
theorem MonoR.eq : MonoR rEq := fun _ _ _ _ _ h ⟨s, q⟩ => ⟨s, h _ _ q⟩
theorem MonoR.ne : MonoR rNe := fun _ _ _ _ _ h ⟨s, q⟩ => ⟨s, h _ _ q⟩
theorem MonoR.ixL {K : PySem.W.Frag} : MonoR (rIxL K) := fun _ _ _ _ _ h ⟨p, xs, i, v, e1, e2, e3, e4, q⟩ => ⟨p, xs, i, v, e1, e2, e3, e4, h _ _ q⟩
theorem MonoR.ixT {K : PySem.W.Frag} : MonoR (rIxT K) := fun _ _ _ _ _ h ⟨p, xs, i, v, e1, e2, e3, e4, q⟩ => ⟨p, xs, i, v, e1, e2, e3, e4, h _ _ q⟩
theorem MonoR.ixS : MonoR rIxS := fun _ _ _ _ _ h ⟨z, i, c, e1, e2, e3, e4, q⟩ => ⟨z, i, c, e1, e2, e3, e4, h _ _ q⟩
theorem MonoR.inn {K : PySem.W.Frag} {neg : Bool} : MonoR (rIn K neg) := fun _ _ _ _ _ h ⟨p, xs, e1, e2, e3, e4, q⟩ => ⟨p, xs, e1, e2, e3, e4, h _ _ q⟩
theorem MonoR.neD {K : PySem.W.Frag} : MonoR (rNeD K) := fun _ _ _ _ _ h ⟨d, e, a, b, c, f, q⟩ => ⟨d, e, a, b, c, f, h _ _ q⟩
theorem MonoR.eqD {K : PySem.W.Frag} : MonoR (rEqD K) := fun _ _ _ _ _ h ⟨d, e, a, b, c, f, q⟩ => ⟨d, e, a, b, c, f, h _ _ q⟩
theorem MonoR.str {C : Str → Str → Prop} {g : Str → Str → V} : MonoR (fun x y H Q => ∃ i j, x = .str i ∧ y = .str j ∧ C i j ∧ Q (g i j) H) := fun _ _ _ _ _ h ⟨i, j, a, b, c, q⟩ => ⟨i, j, a, b, c, h _ _ q⟩
theorem MonoR.str0 {g : Str → Str → V} : MonoR (fun x y H Q => ∃ i j, x = .str i ∧ y = .str j ∧ Q (g i j) H) := fun _ _ _ _ _ h ⟨i, j, a, b, q⟩ => ⟨i, j, a, b, h _ _ q⟩
theorem Mono.op' {r : R2} {ta tb : TE} (hr : MonoR r) (ha : Mono ta) (hb : Mono tb) : Mono (tOp r ta tb) := Mono.op ha hb hr
theorem Mono.tif {t : TT} {ta tb : TE} (ht : MonoT t) (ha : Mono ta) (hb : Mono tb) : Mono (tIf t ta tb) := fun σ H Q Q' h q => ht σ H _ _ (fun b H1 q1 => by
  cases b with
  | true => exact ha σ H1 _ _ h q1
  | false => exact hb σ H1 _ _ h q1) q
theorem MonoT.test {te : TE} (h : Mono te) : MonoT (tTest te) := fun σ H Q Q' k q => h σ H _ _ (fun x H1 ⟨c, e, q1⟩ => ⟨c, e, k _ _ q1⟩) q
theorem MonoT.b {te : TE} (h : Mono te) : MonoT (tB te) := fun σ H Q Q' k q => h σ H _ _ (fun x H1 ⟨c, e, q1⟩ => ⟨c, e, k _ _ q1⟩) q
theorem MonoT.not {t : TT} (h : MonoT t) : MonoT (tNot t) := fun σ H Q Q' k q => h σ H _ _ (fun b H1 q1 => k _ _ q1) q
theorem MonoT.and {t u : TT} (h : MonoT t) (g : MonoT u) : MonoT (tAnd t u) := fun σ H Q Q' k q => h σ H _ _ (fun b H1 q1 => by
  cases b with
  | true => exact g σ H1 _ _ k q1
  | false => exact k _ _ q1) q
theorem MonoT.or {t u : TT} (h : MonoT t) (g : MonoT u) : MonoT (tOr t u) := fun σ H Q Q' k q => h σ H _ _ (fun b H1 q1 => by
  cases b with
  | true => exact k _ _ q1
  | false => exact g σ H1 _ _ k q1) q
theorem MonoA.nil : MonoA tNil := fun _ _ _ _ h q => h _ _ q
theorem MonoA.cons {te : TE} {ta : TA} (h : Mono te) (g : MonoA ta) : MonoA (tCons te ta) := fun σ H Q Q' k q => h σ H _ _ (fun x H1 q1 => g σ H1 _ _ (fun vs H2 q2 => k _ _ q2) q1) q
theorem Mono.cl {sp : Sp} {ta : TA} (hs : MonoS sp) (ha : MonoA ta) : Mono (tCl sp ta) := fun σ H Q Q' k q => ha σ H _ _ (fun vs H1 q1 => hs vs H1 _ _ E0 k q1) q
theorem Mono.cb {r : List V → Hp → VK → Prop} {ta : TA} (hs : MonoC r) (ha : MonoA ta) : Mono (tCB r ta) := fun σ H Q Q' k q => ha σ H _ _ (fun vs H1 q1 => hs vs H1 _ _ k q1) q
theorem Mono.tup {ta : TA} (ha : MonoA ta) : Mono (tTup ta) := fun σ H Q Q' k q => ha σ H _ _ (fun vs H1 ⟨l, q1⟩ => ⟨l, fun p hp => k _ _ (q1 p hp)⟩) q
theorem Mono.lst {ta : TA} (ha : MonoA ta) : Mono (tLst ta) := fun σ H Q Q' k q => ha σ H _ _ (fun vs H1 ⟨l, q1⟩ => ⟨l, fun p hp => k _ _ (q1 p hp)⟩) q
/-- one of two constants -/
theorem ite_tC {c : Prop} [Decidable c] {a b : V} {σ : L2.St} {H : Hp} {Q : VK} (h : ∀ v, v = a ∨ v = b → Q v H) : if c then tC a σ H Q else tC b σ H Q := by
  split
  · exact h a (.inl rfl)
  · exact h b (.inr rfl)
theorem MonoC.two {g : Int → Int → V} : MonoC (fun xs H Q => ∃ i j, xs = [.int i, .int j] ∧ Q (g i j) H) := fun _ _ _ _ h ⟨i, j, e, q⟩ => ⟨i, j, e, h _ _ q⟩
theorem MonoC.int1 : MonoC (fun xs H Q => (∃ i, xs = [.int i] ∧ Q (.int i) H) ∨ ∃ k : Bool, xs = [.bl k] ∧ Q (.int (if k then 1 else 0)) H) := fun _ _ _ _ h q => by
  rcases q with ⟨i, e, q⟩ | ⟨i, e, q⟩
  · exact .inl ⟨i, e, h _ _ q⟩
  · exact .inr ⟨i, e, h _ _ q⟩
theorem RpL.strs {K : PySem.W.Frag} {H : Hp} : ∀ {ws : List (List Nat)}, (∀ l ∈ ws, l.length ≤ 100000) → RpL K H (ws.map Tx) (ws.map Dt.str)
  | [], _ => .nil
  | l :: ws, h => .cons (.str l (h l List.mem_cons_self)) (RpL.strs fun m q => h m (List.mem_cons_of_mem _ q))
theorem dep_strs : ∀ (ws : List (List Nat)), Dt.depL (ws.map Dt.str) = 0
  | [] => rfl
  | l :: ws => by
    show max 0 (Dt.depL (ws.map Dt.str)) = 0
    rw [dep_strs ws]
    rfl
/-- a text of the program's own as a value -/
theorem Rp.lit {K : PySem.W.Frag} {H : Hp} (s : Str) (h : s.cps.toList.length ≤ 100000 := by decide +kernel) : Rp K H (.str s) (.str s.cps.toList) := by
  have := Rp.str (K := K) (H := H) s.cps.toList h
  have e : tx s.cps.toList = s := by cases s <;> simp [tx]
  rwa [Tx, e] at this
end Pg
namespace Pg
open PySem PySem.Spec PyProof.Rows L2
/-! ### expressions that build data: what they evaluate to -/
def EvD (K : PySem.W.Frag) (te : TE) (σ : L2.St) (H : Hp) (d : Dt) : Prop := ∀ H1, Stp [] H H1 → ∀ Q : VK, (∀ v H2, Stp [] H1 H2 → Rp K H2 v d → Q v H2) → te σ H1 Q
def EvDA (K : PySem.W.Frag) (ta : TA) (σ : L2.St) (H : Hp) (ds : List Dt) : Prop := ∀ H1, Stp [] H H1 → ∀ Q : List V → Hp → Prop, (∀ vs H2, Stp [] H1 H2 → RpL K H2 vs ds → Q vs H2) → ta σ H1 Q
section
variable {K : PySem.W.Frag} {te : TE} {ta : TA} {σ : L2.St} {H : Hp} {d : Dt} {ds : List Dt}
theorem EvD.bl {b : Bool} : EvD K (tC (.bl b)) σ H (.bl b) := fun H1 _ _ k => k _ H1 (Stp.refl _ _) (.bl b)
theorem EvD.int {i : Int} : EvD K (tC (.int i)) σ H (.int i) := fun H1 _ _ k => k _ H1 (Stp.refl _ _) (.int i)
theorem EvD.non : EvD K (tC .non) σ H .non := fun H1 _ _ k => k _ H1 (Stp.refl _ _) .non
theorem EvD.str {s : Str} (h : s.cps.toList.length ≤ 100000 := by decide +kernel) : EvD K (tC (.str s)) σ H (.str s.cps.toList) := fun H1 _ _ k => k _ H1 (Stp.refl _ _) (Rp.lit s h)
theorem EvD.var {i : Nat} {v : V} (r : Rp K H v d) (e : σ[i]? = some (some v) := by rfl) : EvD K (tVar i) σ H d := fun H1 s _ k => ⟨v, e, k v H1 (Stp.refl _ _) (r.stp s Lsts.nil)⟩
theorem EvDA.nil : EvDA K tNil σ H [] := fun H1 _ _ k => k [] H1 (Stp.refl _ _) .nil
theorem EvDA.cons (h : EvD K te σ H d) (g : EvDA K ta σ H ds) : EvDA K (tCons te ta) σ H (d :: ds) := fun H1 s Q k =>
  h H1 s _ fun v H2 s2 r => g H2 (s.trans s2) _ fun vs H3 s3 rs => k (v :: vs) H3 (s2.trans s3) (.cons (r.stp s3 Lsts.nil) rs)
theorem EvD.tup (h : EvDA K ta σ H ds) (hl : ds.length ≤ 1000) : EvD K (tTup ta) σ H (.tup ds) := fun H1 s Q k =>
  h H1 s _ fun vs H2 s2 rs => ⟨sz (by rw [rs.len]; omega), fun p np => k _ _ (s2.new' np) (.tup (SqT.of upd_same) (by rw [rs.len]; omega) (rs.stp (Stp.new np []) Lsts.nil))⟩
theorem EvD.lst (h : EvDA K ta σ H ds) (hl : ds.length ≤ 1000) : EvD K (tLst ta) σ H .lst := fun H1 s Q k =>
  h H1 s _ fun vs H2 s2 rs => ⟨sz (by rw [rs.len]; omega), fun p np => k _ _ (s2.new' np) (.lst upd_same)⟩
theorem EvD.exc {C : Addr} (h : EvD K te σ H d) : EvD K (fun σ H Q => te σ H fun _ H1 => ∀ a, H1 a = none → Q (.ref a) (upd H1 a (ExO (.ref C) a))) σ H .obj := fun H1 s Q k =>
  h H1 s _ fun v H2 s2 _ => fun a na => k _ _ (s2.new' na) (.obj upd_same)
theorem EvD.cat {tb : TE} {a b : List Nat} (h : EvD K te σ H (.str a)) (g : EvD K tb σ H (.str b)) (hl : a.length + b.length ≤ 100000) : EvD K (tOp (fun x y H Q => ∃ i j, x = .str i ∧ y = .str j ∧ i.length + j.length ≤ sizeLine ∧ Q (.str (i ++ j)) H) te tb) σ H (.str (a ++ b)) := fun H1 s Q k =>
  h H1 s _ fun v H2 s2 r => g H2 (s.trans s2) _ fun u H3 s3 q => by
    cases r with
    | str _ h1 =>
      cases q with
      | str _ h2 =>
        refine ⟨tx a, tx b, rfl, rfl, by rw [tx_len, tx_len]; exact sz hl, ?_⟩
        rw [tx_app]
        exact k _ _ (s2.trans s3) (.str _ (by rw [List.length_append]; exact hl))
theorem EvD.pow {i j : Int} (h : CPow i j) : EvD K (tOp (rI CPow fun i j => .int (i ^ j.toNat)) (tC (.int i)) (tC (.int j))) σ H (.int (i ^ j.toNat)) := fun H1 s Q k =>
  ⟨i, j, rfl, rfl, h, k _ _ (Stp.refl _ _) (.int _)⟩
theorem EvD.neg {i : Int} : EvD K (tUn (rU fun i => .int (-i)) (tC (.int i))) σ H (.int (-i)) := fun H1 s Q k => ⟨i, rfl, k _ _ (Stp.refl _ _) (.int _)⟩
/-- list(t) of a tuple -/
theorem EvD.list (h : EvD K te σ H (.tup ds)) : EvD K (tCB (fun xs H Q => ∃ p ys, xs = [.ref p] ∧ (SqL K H p ys ∨ SqT K H p ys) ∧ ∀ l, H l = none → Q (.ref l) (upd H l (.lst ys))) (tCons te tNil)) σ H .lst := fun H1 s Q k =>
  h H1 s _ fun v H2 s2 r => by
    cases r with
    | tup hs hn rl => exact ⟨_, _, rfl, .inr hs, fun l nl => k _ _ (s2.new' nl) (.lst upd_same)⟩
theorem EvDA.use (h : EvDA K ta σ H ds) {Q : List V → Hp → Prop} (k : ∀ vs H2, Stp [] H H2 → RpL K H2 vs ds → Q vs H2) : ta σ H Q := h H (Stp.refl _ _) Q k
theorem EvD.use (h : EvD K te σ H d) {Q : VK} (k : ∀ v H2, Stp [] H H2 → Rp K H2 v d → Q v H2) : te σ H Q := h H (Stp.refl _ _) Q k
/-- a new list of data -/
theorem EvDA.newl (h : EvDA K ta σ H ds) (hl : ds.length ≤ 1000) {Q : VK} (k : ∀ p vs H2, Stp [] H H2 → H p = none → H2 p = some (.lst vs) → RpL K H2 vs ds → Q (.ref p) H2) : tLst ta σ H Q :=
  h.use fun vs H2 s rs => ⟨sz (by rw [rs.len]; omega), fun p np => k p vs _ (s.new' np) (s.fresh (fun m => nomatch m) np) upd_same (rs.stp (Stp.new np []) Lsts.nil)⟩
end
/-! ### tuples put together, cut -/
theorem catA_use {K : PySem.W.Frag} {H : Hp} {a b : Addr} {xs ys : List V} {Q : VK} (ha : SqT K H a xs) (hb : SqT K H b ys) (hl : xs.length + ys.length ≤ 100000) (k : ∀ p H', Stp [] H H' → SqT K H' p (xs ++ ys) → Q (.ref p) H') : rCatA K (.ref a) (.ref b) H Q := by
  refine ⟨a, b, xs, ys, rfl, rfl, ha, hb, sz hl, fun e => ?_, fun _ e => ?_, fun _ _ p np => ?_⟩
  · subst e
    exact k b H (Stp.refl _ _) hb
  · subst e
    refine k a H (Stp.refl _ _) ?_
    rw [List.append_nil]
    exact ha
  · exact k p _ (Stp.new np _) (SqT.of upd_same)
theorem slA_use {K : PySem.W.Frag} {H : Hp} {a : Addr} {xs : List V} {lo hi : Option Int} {Q : VK} (ha : SqT K H a xs) (k : ∀ p H', Stp [] H H' → SqT K H' p (cutV xs lo hi) → Q (.ref p) H') : rSlA K (.ref a) lo hi H Q := by
  refine ⟨a, xs, rfl, ha, fun ⟨e1, e2⟩ => ?_, fun _ p np => ?_⟩
  · refine k a H (Stp.refl _ _) ?_
    have e : cutV xs lo hi = xs := by
      unfold cutV
      rw [e1, e2, List.drop_zero, Nat.sub_zero, List.take_length]
    rw [e]
    exact ha
  · exact k p _ (Stp.new np _) (SqT.of upd_same)
theorem cut_upto {xs : List V} (k : Nat) : cutV xs none (some (k : Int)) = xs.take k := by
  unfold cutV
  rw [HT.sIx_none, HT.sIx_nat, List.drop_zero, Nat.sub_zero]
  rcases Nat.le_total k xs.length with h | h
  · rw [Nat.min_eq_left h]
  · rw [Nat.min_eq_right h, List.take_of_length_le (Nat.le_refl _), List.take_of_length_le h]
theorem cut_from {xs : List V} (k : Nat) : cutV xs (some (k : Int)) none = xs.drop k := by
  unfold cutV
  rw [HT.sIx_none, HT.sIx_nat]
  rcases Nat.le_total k xs.length with h | h
  · rw [Nat.min_eq_left h, List.take_of_length_le (by rw [List.length_drop]; exact Nat.le_refl _)]
  · rw [Nat.min_eq_right h, List.drop_length, List.drop_of_length_le h, List.take_nil]
theorem RpL.take {K : PySem.W.Frag} {H : Hp} : ∀ {vs : List V} {ds : List Dt} (n : Nat), RpL K H vs ds → RpL K H (vs.take n) (ds.take n)
  | _, _, 0, _ => by rw [List.take_zero, List.take_zero]; exact .nil
  | _, [], _ + 1, .nil => .nil
  | _, _ :: _, n + 1, .cons h r => .cons h (RpL.take n r)
theorem RpL.drop {K : PySem.W.Frag} {H : Hp} : ∀ {vs : List V} {ds : List Dt} (n : Nat), RpL K H vs ds → RpL K H (vs.drop n) (ds.drop n)
  | _, _, 0, r => r
  | _, [], _ + 1, .nil => .nil
  | _, _ :: _, n + 1, .cons _ r => RpL.drop n r
/-! ### heads of statements -/
theorem asg_name {te : TE} {i : Nat} {u : TS} {D : Ends} {σ : L2.St} {H : Hp} (h : te σ H fun x H1 => u D (σ.set i (some x)) H1) : tSeq (tAsg te (gName i)) u D σ H := h
theorem op_var {r : R2} {i : Nat} {tb : TE} {σ : L2.St} {H : Hp} {Q : VK} {v : V} (e : σ[i]? = some (some v)) (h : tb σ H fun y H2 => r v y H2 Q) : tOp r (tVar i) tb σ H Q := ⟨v, e, h⟩
theorem nopart {σ : L2.St} {H : Hp} {Q : Option Int → Hp → Prop} (h : Q none H) : tNoPart σ H Q := h
end Pg
namespace Pv
open PySem PySem.Spec PyProof.Rows L2 Pg
/-! ### values with all that is in them -/
inductive D where
  | non | bl (b : Bool) | int (i : Int) | str (l : List Nat) | tup (ds : List D) | lst (ds : List D) | obj (C : Addr)
mutual
def D.old : D → Dt
  | .non => .non
  | .bl b => .bl b
  | .int i => .int i
  | .str l => .str l
  | .tup ds => .tup (D.olds ds)
  | .lst _ => .lst
  | .obj _ => .obj
def D.olds : List D → List Dt
  | [] => []
  | d :: ds => d.old :: D.olds ds
end
def D.ty (d : D) : Option String := d.old.ty
/-- isinstance(d, T) -/
def D.isi (T : String) : D → Bool
  | .bl _ => T == "bool" || T == "int"
  | .int _ => T == "int"
  | .str _ => T == "str"
  | .tup _ => T == "tuple"
  | .lst _ => T == "list"
  | _ => false
/-- what the class of an object says -/
structure OkC (K : PySem.W.Frag) (C : Addr) : Prop where
  exc : ExcC K C
  is_str : PySem.W.kitOne K (.ref C) (.type "str") = some false
  is_int : PySem.W.kitOne K (.ref C) (.type "int") = some false
  is_bool : PySem.W.kitOne K (.ref C) (.type "bool") = some false
  is_tuple : PySem.W.kitOne K (.ref C) (.type "tuple") = some false
  is_list : PySem.W.kitOne K (.ref C) (.type "list") = some false
mutual
/-- v is d; no list in it stands at an address of S -/
inductive Rv (K : PySem.W.Frag) (S : List Addr) (H : Hp) : V → D → Prop
  | non : Rv K S H .non .non
  | bl (b : Bool) : Rv K S H (.bl b) (.bl b)
  | int (i : Int) : Rv K S H (.int i) (.int i)
  | str (l : List Nat) (h : l.length ≤ 100000) : Rv K S H (Tx l) (.str l)
  | tup {a : Addr} {vs : List V} {ds : List D} : SqT K H a vs → vs.length ≤ 100000 → RvL K S H vs ds → Rv K S H (.ref a) (.tup ds)
  | lst {a : Addr} {vs : List V} {ds : List D} : H a = some (.lst vs) → a ∉ S → vs.length ≤ 100000 → RvL K S H vs ds → Rv K S H (.ref a) (.lst ds)
  | obj {a C : Addr} : H a = some (ExO (.ref C) a) → OkC K C → Rv K S H (.ref a) (.obj C)
inductive RvL (K : PySem.W.Frag) (S : List Addr) (H : Hp) : List V → List D → Prop
  | nil : RvL K S H [] []
  | cons {v : V} {vs : List V} {d : D} {ds : List D} : Rv K S H v d → RvL K S H vs ds → RvL K S H (v :: vs) (d :: ds)
end
section
variable {K : PySem.W.Frag} {S : List Addr} {H H' : Hp}
mutual
theorem Rv.old : ∀ {v : V} {d : D}, Rv K S H v d → Rp K H v d.old
  | _, .non, .non => .non
  | _, .bl _, .bl b => .bl b
  | _, .int _, .int i => .int i
  | _, .str _, .str x h => .str x h
  | _, .tup ds, .tup h n r => .tup h n (RvL.old r)
  | _, .lst _, .lst h _ _ _ => .lst h
  | _, .obj _, .obj h _ => .obj h
theorem RvL.old : ∀ {vs : List V} {ds : List D}, RvL K S H vs ds → RpL K H vs (D.olds ds)
  | _, [], .nil => .nil
  | _, _ :: _, .cons h r => .cons (Rv.old h) (RvL.old r)
end
mutual
theorem Rv.fr {S' : List Addr} (s : Stp S' H H') (l : Lsts H S') (sub : ∀ x ∈ S', x ∈ S) : ∀ {v : V} {d : D}, Rv K S H v d → Rv K S H' v d
  | _, .non, .non => .non
  | _, .bl _, .bl b => .bl b
  | _, .int _, .int i => .int i
  | _, .str _, .str x h => .str x h
  | _, .tup ds, .tup h n r => .tup (sqt_stp s l h) n (RvL.fr s l sub r)
  | _, .lst ds, .lst h o n r => .lst (s.kp _ _ (fun m => o (sub _ m)) h) o n (RvL.fr s l sub r)
  | _, .obj _, .obj (a := a) (C := C) h k => by
    refine .obj (C := C) (s.kp a _ (fun m => ?_) h) k
    obtain ⟨xs, e⟩ := l a m
    rw [h] at e
    cases e
theorem RvL.fr {S' : List Addr} (s : Stp S' H H') (l : Lsts H S') (sub : ∀ x ∈ S', x ∈ S) : ∀ {vs : List V} {ds : List D}, RvL K S H vs ds → RvL K S H' vs ds
  | _, [], .nil => .nil
  | _, _ :: _, .cons h r => .cons (Rv.fr s l sub h) (RvL.fr s l sub r)
end
theorem Rv.stp {v : V} {d : D} (r : Rv K S H v d) (s : Stp S H H') (l : Lsts H S) : Rv K S H' v d := Rv.fr s l (fun _ m => m) r
theorem RvL.stp {vs : List V} {ds : List D} (r : RvL K S H vs ds) (s : Stp S H H') (l : Lsts H S) : RvL K S H' vs ds := RvL.fr s l (fun _ m => m) r
theorem Rv.up {v : V} {d : D} (r : Rv K S H v d) (s : Stp [] H H') : Rv K S H' v d := Rv.fr s Lsts.nil (fun _ m => nomatch m) r
theorem RvL.up {vs : List V} {ds : List D} (r : RvL K S H vs ds) (s : Stp [] H H') : RvL K S H' vs ds := RvL.fr s Lsts.nil (fun _ m => nomatch m) r
mutual
theorem Rv.sub {S' : List Addr} (h : ∀ x ∈ S', x ∈ S) : ∀ {v : V} {d : D}, Rv K S H v d → Rv K S' H v d
  | _, .non, .non => .non
  | _, .bl _, .bl b => .bl b
  | _, .int _, .int i => .int i
  | _, .str _, .str x h => .str x h
  | _, .tup ds, .tup q n r => .tup q n (RvL.sub h r)
  | _, .lst ds, .lst q o n r => .lst q (fun m => o (h _ m)) n (RvL.sub h r)
  | _, .obj _, .obj q k => .obj q k
theorem RvL.sub {S' : List Addr} (h : ∀ x ∈ S', x ∈ S) : ∀ {vs : List V} {ds : List D}, RvL K S H vs ds → RvL K S' H vs ds
  | _, [], .nil => .nil
  | _, _ :: _, .cons q r => .cons (Rv.sub h q) (RvL.sub h r)
end
theorem RvL.len : ∀ {vs : List V} {ds : List D}, RvL K S H vs ds → vs.length = ds.length
  | _, [], .nil => rfl
  | _, _ :: _, .cons _ r => by rw [List.length_cons, List.length_cons, RvL.len r]
theorem RvL.get : ∀ {vs : List V} {ds : List D} {i : Nat} {v : V}, RvL K S H vs ds → vs[i]? = some v → ∃ d, ds[i]? = some d ∧ Rv K S H v d
  | _, [], _, _, .nil, e => by simp at e
  | _, d :: _, 0, _, .cons h _, e => by
    simp at e
    subst e
    exact ⟨d, rfl, h⟩
  | _, _ :: _, i + 1, v, .cons _ r, e => RvL.get (i := i) (v := v) r (by simpa using e)
theorem RvL.app : ∀ {vs ws : List V} {ds es : List D}, RvL K S H vs ds → RvL K S H ws es → RvL K S H (vs ++ ws) (ds ++ es)
  | _, _, [], _, .nil, q => q
  | _, _, _ :: _, _, .cons h r, q => .cons h (RvL.app r q)
theorem RvL.take : ∀ {vs : List V} {ds : List D} (n : Nat), RvL K S H vs ds → RvL K S H (vs.take n) (ds.take n)
  | _, _, 0, _ => by rw [List.take_zero, List.take_zero]; exact .nil
  | _, [], _ + 1, .nil => .nil
  | _, _ :: _, n + 1, .cons h r => .cons h (RvL.take n r)
theorem RvL.drop : ∀ {vs : List V} {ds : List D} (n : Nat), RvL K S H vs ds → RvL K S H (vs.drop n) (ds.drop n)
  | _, _, 0, r => r
  | _, [], _ + 1, .nil => .nil
  | _, _ :: _, n + 1, .cons _ r => RvL.drop n r
theorem RvL.rev : ∀ {vs : List V} {ds : List D}, RvL K S H vs ds → RvL K S H vs.reverse ds.reverse
  | _, [], .nil => .nil
  | _, _ :: _, .cons h r => by
    rw [List.reverse_cons, List.reverse_cons]
    exact RvL.app (RvL.rev r) (.cons h .nil)
theorem RvL.pick {vs : List V} {ds : List D} {i : Int} (r : RvL K S H vs ds) (h0 : 0 ≤ i) (h1 : i < (ds.length : Int)) : ∃ v d, d ∈ ds ∧ Rv K S H v d ∧ atI vs i = some v := by
  obtain ⟨k, rfl⟩ := Int.eq_ofNat_of_zero_le h0
  have hk : k < vs.length := by rw [r.len]; omega
  obtain ⟨d, hd, rd⟩ := r.get (List.getElem?_eq_getElem hk)
  exact ⟨vs[k], d, List.mem_of_getElem? hd, rd, atI_nat (List.getElem?_eq_getElem hk)⟩
/-- a text of the program's own -/
def wd (s : Str) : D := .str s.cps.toList
theorem tx_cps (s : Str) : tx s.cps.toList = s := by cases s <;> simp [tx]
theorem Rv.lit (s : Str) (h : s.cps.toList.length ≤ 100000 := by decide +kernel) : Rv K S H (.str s) (wd s) := by
  have := Rv.str (K := K) (S := S) (H := H) s.cps.toList h
  rwa [Tx, tx_cps] at this
theorem out_new {p : Addr} (l : Lsts H S) (h : H p = none) : p ∉ S := fun m => by
  obtain ⟨xs, e⟩ := l p m
  rw [h] at e
  cases e
/-- a new tuple, a new list -/
theorem Rv.newT {p : Addr} {vs : List V} {ds : List D} (np : H p = none) (r : RvL K S H vs ds) (h : ds.length ≤ 100000) : Rv K S (upd H p (.tup vs)) (.ref p) (.tup ds) := .tup (SqT.of upd_same) (by rw [r.len]; exact h) (r.up (Stp.new np []))
theorem Rv.newL {p : Addr} {vs : List V} {ds : List D} (l : Lsts H S) (np : H p = none) (r : RvL K S H vs ds) (h : ds.length ≤ 100000) : Rv K S (upd H p (.lst vs)) (.ref p) (.lst ds) := .lst upd_same (out_new l np) (by rw [r.len]; exact h) (r.up (Stp.new np []))
theorem Lsts.up {H H' : Hp} (l : Lsts H S) (s : Stp [] H H') : Lsts H' S := l.stp s
end
/-! ### type(x) is T -/
theorem D.ty_old (d : D) : d.old.ty = d.ty := rfl
theorem ty_non : D.non.ty = some "NoneType" := rfl
theorem ty_bl {b : Bool} : (D.bl b).ty = some "bool" := rfl
theorem ty_int {i : Int} : (D.int i).ty = some "int" := rfl
theorem ty_str {l : List Nat} : (D.str l).ty = some "str" := rfl
theorem ty_tup {ds : List D} : (D.tup ds).ty = some "tuple" := by unfold D.ty D.old; rfl
theorem ty_lst {ds : List D} : (D.lst ds).ty = some "list" := by unfold D.ty D.old; rfl
theorem ty_obj {C : Addr} : (D.obj C).ty = none := rfl
theorem D.lst_of {d : D} (h : d.ty = some "list") : ∃ ds, d = .lst ds := by
  cases d with
  | lst ds => exact ⟨ds, rfl⟩
  | tup ds => rw [ty_tup] at h; exact absurd h (by decide)
  | obj C => rw [ty_obj] at h; cases h
  | non => exact absurd h (by rw [ty_non]; decide)
  | bl b => exact absurd h (by rw [ty_bl]; decide)
  | int i => exact absurd h (by rw [ty_int]; decide)
  | str l => exact absurd h (by rw [ty_str]; decide)
theorem D.tup_of {d : D} (h : d.ty = some "tuple") : ∃ ds, d = .tup ds := by
  cases d with
  | tup ds => exact ⟨ds, rfl⟩
  | lst ds => rw [ty_lst] at h; exact absurd h (by decide)
  | obj C => rw [ty_obj] at h; cases h
  | non => exact absurd h (by rw [ty_non]; decide)
  | bl b => exact absurd h (by rw [ty_bl]; decide)
  | int i => exact absurd h (by rw [ty_int]; decide)
  | str l => exact absurd h (by rw [ty_str]; decide)
theorem D.str_of {d : D} (h : d.ty = some "str") : ∃ l, d = .str l := by
  cases d with
  | str ds => exact ⟨ds, rfl⟩
  | lst ds => rw [ty_lst] at h; exact absurd h (by decide)
  | tup ds => rw [ty_tup] at h; exact absurd h (by decide)
  | obj C => rw [ty_obj] at h; cases h
  | non => exact absurd h (by rw [ty_non]; decide)
  | bl b => exact absurd h (by rw [ty_bl]; decide)
  | int i => exact absurd h (by rw [ty_int]; decide)
theorem D.int_of {d : D} (h : d.ty = some "int") : ∃ i, d = .int i := by
  cases d with
  | int i => exact ⟨i, rfl⟩
  | lst ds => rw [ty_lst] at h; exact absurd h (by decide)
  | tup ds => rw [ty_tup] at h; exact absurd h (by decide)
  | obj C => rw [ty_obj] at h; cases h
  | non => exact absurd h (by rw [ty_non]; decide)
  | bl b => exact absurd h (by rw [ty_bl]; decide)
  | str l => exact absurd h (by rw [ty_str]; decide)
/-! ### isinstance -/
def rIsD (K : PySem.W.Frag) (T : String) : List V → Hp → VK → Prop := fun xs H Q => ∃ (S : List Addr) (x : V) (d : D), xs = [x, .ty T] ∧ Rv K S H x d ∧ Q (.bl (d.isi T)) H
section
variable {X : Cx} {T : String}
theorem tyx_of {K : PySem.W.Frag} {S : List Addr} {H : Hp} {x : V} {d : D} (r : Rv K S H x d) (t : String) (h : d.ty = some t) : TyX K H x (.type t) := by
  cases r with
  | non => rw [ty_non] at h; cases h; exact .base .non
  | bl b => rw [ty_bl] at h; cases h; exact .base (.bl b)
  | int i => rw [ty_int] at h; cases h; exact .base (.int i)
  | str l hl => rw [ty_str] at h; cases h; exact .base (.str _)
  | lst hs _ _ _ => rw [ty_lst] at h; cases h; exact .base (.lst hs)
  | obj ho _ => rw [ty_obj] at h; cases h
  | tup hs _ _ =>
    rw [ty_tup] at h
    cases h
    rcases hs with (hs | ⟨o, hs⟩) | ⟨o, its, n, e, c, _⟩
    · exact .base (.tup hs)
    · exact .fTuple hs
    · exact .kTuple e c
theorem kit_str : ∀ t : String, t ∈ ["NoneType", "bool", "int", "str", "tuple", "list"] → kitB t "str" = some (t == "str") := by decide +kernel
theorem kit_int : ∀ t : String, t ∈ ["NoneType", "bool", "int", "str", "tuple", "list"] → kitB t "int" = some (t == "bool" || t == "int") := by decide +kernel
theorem kit_bool : ∀ t : String, t ∈ ["NoneType", "bool", "int", "str", "tuple", "list"] → kitB t "bool" = some (t == "bool") := by decide +kernel
theorem kit_tuple : ∀ t : String, t ∈ ["NoneType", "bool", "int", "str", "tuple", "list"] → kitB t "tuple" = some (t == "tuple") := by decide +kernel
theorem kit_list : ∀ t : String, t ∈ ["NoneType", "bool", "int", "str", "tuple", "list"] → kitB t "list" = some (t == "list") := by decide +kernel
theorem kit_d {d : D} {t : String} (h : d.ty = some t) (hT : T ∈ ["str", "int", "bool", "tuple", "list"]) : kitB t T = some (d.isi T) := by
  simp only [List.mem_cons, List.not_mem_nil, or_false] at hT
  have go : ∀ u, d.ty = some u → u = t := fun u e => by rw [h] at e; exact (Option.some.inj e).symm
  rcases hT with rfl | rfl | rfl | rfl | rfl <;> cases d
  all_goals first
    | (have q := go _ ty_non; subst q; first | exact kit_str _ (by decide) | exact kit_int _ (by decide) | exact kit_bool _ (by decide) | exact kit_tuple _ (by decide) | exact kit_list _ (by decide))
    | (have q := go _ ty_bl; subst q; first | exact kit_str _ (by decide) | exact kit_int _ (by decide) | exact kit_bool _ (by decide) | exact kit_tuple _ (by decide) | exact kit_list _ (by decide))
    | (have q := go _ ty_int; subst q; first | exact kit_str _ (by decide) | exact kit_int _ (by decide) | exact kit_bool _ (by decide) | exact kit_tuple _ (by decide) | exact kit_list _ (by decide))
    | (have q := go _ ty_str; subst q; first | exact kit_str _ (by decide) | exact kit_int _ (by decide) | exact kit_bool _ (by decide) | exact kit_tuple _ (by decide) | exact kit_list _ (by decide))
    | (have q := go _ ty_tup; subst q; first | exact kit_str _ (by decide) | exact kit_int _ (by decide) | exact kit_bool _ (by decide) | exact kit_tuple _ (by decide) | exact kit_list _ (by decide))
    | (have q := go _ ty_lst; subst q; first | exact kit_str _ (by decide) | exact kit_int _ (by decide) | exact kit_bool _ (by decide) | exact kit_tuple _ (by decide) | exact kit_list _ (by decide))
    | (rw [ty_obj] at h; cases h)
theorem D.has_ty (d : D) : (∃ t, d.ty = some t) ∨ ∃ C, d = .obj C := by
  cases d with
  | obj C => exact .inr ⟨C, rfl⟩
  | non => exact .inl ⟨_, ty_non⟩
  | bl b => exact .inl ⟨_, ty_bl⟩
  | int i => exact .inl ⟨_, ty_int⟩
  | str l => exact .inl ⟨_, ty_str⟩
  | tup ds => exact .inl ⟨_, ty_tup⟩
  | lst ds => exact .inl ⟨_, ty_lst⟩
theorem call_isiD (hT : T ∈ ["str", "int", "bool", "tuple", "list"]) : CallR X (.builtin "isinstance") (rIsD X.K T) := by
  intro pins s σ H xs us Q I r h
  obtain ⟨S, x, d, rfl, rv, q⟩ := h
  rcases d.has_ty with ⟨t, ht⟩ | ⟨C, rfl⟩
  · exact call_isi pins s σ H _ us Q I r ⟨x, .ty T, _, _, d.isi T, rfl, .ty T, tyx_of rv t ht, kit_ty (kit_d ht hT), q⟩
  · cases rv with
    | obj ho ok =>
      rename_i a
      obtain ⟨u1, u2, rfl, r1, r2⟩ := vals2 r
      cases r1
      cases (show u2 = Value.type T from r2)
      obtain ⟨⟨oe, vs, e1, ⟨e2, e3⟩, e4, _⟩, _⟩ := I.hok _ _ ho
      have J : PySem.W.InstAt s.heap a oe C none := by
        obtain ⟨oc, od, oda, osl⟩ := oe
        dsimp only at e2 e3 e4
        subst e2 e3 e4
        exact ⟨e1, rfl, rfl, trivial⟩
      have kit : PySem.W.kitOne X.K (.ref C) (.type T) = some ((D.obj C).isi T) := by
        simp only [List.mem_cons, List.not_mem_nil, or_false] at hT
        rcases hT with rfl | rfl | rfl | rfl | rfl
        · exact ok.is_str
        · exact ok.is_int
        · exact ok.is_bool
        · exact ok.is_tuple
        · exact ok.is_list
      exact PySem.W.kia_one (PySem.W.handS_kitx_exc ok.exc.hg ok.exc.hk ok.exc.hs ok.exc.hd ok.exc.ha ok.exc.hn ok.exc.ht ok.exc.hm) I.kIn J kit (fun z => nomatch z) fun tk => ⟨.bl ((D.obj C).isi T), H, I.kept (t' := tk) fun _ _ z => z, rfl, q⟩
end
theorem call_isiDK {X : Cx} {T : String} {K : PySem.W.Frag} (hK : X.K = K) (hT : T ∈ ["str", "int", "bool", "tuple", "list"]) : CallR X (.builtin "isinstance") (rIsD K T) := by
  subst hK
  exact call_isiD hT
/-! ### t[::-1] -/
section
variable {prog : Program} {w : World} {A : Around} {E : Value → Shared → Prop} {s : Shared}
open HT
theorem sliceApplied_rev {sl : Addr} {vl vu vs : Value} {n : Nat} {Q : Int × Int × Nat → Shared → Prop} (hs : s.heap.IsSliceOf sl vl vu vs) (pl : IsPart vl none) (pu : IsPart vu none) (ps : IsPart vs (some (-1)))
    (h : Q ((n : Int) - 1, -1, n) s) : wpAny (model prog w) A (Builtin.Slice.sliceApplied (.ref sl) (pure (n : Int))) Q E s := by
  obtain ⟨os, hos, hcs, hds⟩ := id hs
  unfold Builtin.Slice.sliceApplied Builtin.Slice.sliceFields
  refine wpAny_bind (wpAny_bind (wpAny_field hos hds (x := vl) rfl (wpAny_bind (wpAny_field hos hds (x := vu) rfl (wpAny_bind (wpAny_field hos hds (x := vs) rfl (wpAny_pure ?_)))))))
  refine wpAny_bind (slicePart_ ps ?_)
  show wpAny _ _ (if ((-1 : Int) == 0) = true then _ else _) _ _ s
  rw [if_neg (by decide)]
  refine wpAny_bind (slicePart_ pl (wpAny_bind (slicePart_ pu (wpAny_bind (wpAny_pure ?_)))))
  show wpAny _ _ (pure ((n : Int) - 1, (-1 : Int), Builtin.Slice.slicePlaces ((n : Int) - 1) (-1) (-1))) _ _ s
  have e : Builtin.Slice.slicePlaces ((n : Int) - 1) (-1) (-1) = n := by
    unfold Builtin.Slice.slicePlaces
    rw [if_neg (by decide)]
    by_cases c : (n : Int) - 1 > -1
    · rw [if_pos c, show (- -1 : Int) = 1 by decide, Int.ediv_one]
      omega
    · rw [if_neg c]
      omega
  rw [e]
  exact wpAny_pure h
theorem pick_rev (xs : Array Value) : ((List.range xs.size).filterMap fun (k : Nat) => xs[((xs.size : Int) - 1 + (k : Int) * (-1)).toNat]?).toArray = xs.toList.reverse.toArray := by
  have e : (fun (k : Nat) => xs[((xs.size : Int) - 1 + (k : Int) * (-1)).toNat]?) = (fun k => xs[xs.size - 1 - k]?) := by
    funext k
    have : ((xs.size : Int) - 1 + (k : Int) * (-1)).toNat = xs.size - 1 - k := by omega
    rw [this]
  rw [e]
  have e2 : (fun k => xs[xs.size - 1 - k]?) = (fun k => xs[k]?) ∘ fun k => xs.size - 1 - k := rfl
  rw [e2, ← List.filterMap_map, PySem.W.krv_range, List.filterMap_reverse, PySem.W.krv_all]
theorem getItem_tuple_rev {t sl : Addr} {items : Array Value} {vl vu vs : Value} {Q : Value → Shared → Prop} (ht : IsTup s.heap t items) (hs : s.heap.IsSliceOf sl vl vu vs) (pl : IsPart vl none) (pu : IsPart vu none) (ps : IsPart vs (some (-1)))
    (h : Q (.ref s.heap.objs.size) { s with heap := s.heap.push { cls := .type "tuple", data := .seq items.toList.reverse.toArray } })
    (hsz : items.size ≤ sizeLine) : wpAny (model prog w) A (getItem (.ref t) (.ref sl)) Q E s := by
  have htake : sizeOk (.seq items.toList.reverse.toArray) := by
    show items.toList.reverse.toArray.size ≤ sizeLine
    rw [List.size_toArray, List.length_reverse, Array.length_toList]
    exact hsz
  obtain ⟨os, hos, hcs, hds⟩ := id hs
  have hTs : s.TypeIs (.ref sl) "slice" := ⟨os, hos, hcs⟩
  unfold getItem
  try with_reducible refine wpAny_holding ?_
  first | refine wpAny_bind (wpAny_pure ?_) | skip
  refine wpAny_bind (wpAny_sequenceKey ht.typeIs (by decide) ?_)
  refine wpAny_bind (wpAny_callSpecial?_slot (name := Str.ofString "__getitem__") ht.typeIs PyProof.Rows.slot_tuple_getitem
    (wpAny_call_entry PyProof.Rows.slot_tuple_getitem ht.typeIs entry_tuple_getitem ?_ (args_tuple_getitem _ _)))
  show wpAny _ _ (Builtin.Tuple.tupleItemsOf (.ref t) >>= _) _ _ s
  refine wpAny_bind (tupleItemsOf_ ht ?_)
  refine wpAny_bind (wpAny_typeOf hTs ?_)
  rw [if_pos (by decide)]
  refine wpAny_bind (sliceApplied_rev hs pl pu ps ?_)
  have hno : ¬ ((((items.size : Int) - 1) == 0 && (-1 : Int) == 1 && items.size == items.size) = true) := by
    intro q
    rw [Bool.and_eq_true, Bool.and_eq_true] at q
    exact absurd q.1.2 (by decide)
  show wpAny _ _ (if (((items.size : Int) - 1) == 0 && (-1 : Int) == 1 && items.size == items.size) = true then _ else _) _ _ s
  rw [if_neg hno, pick_rev]
  first
    | exact wpAny_bind (m := Builtin.Tuple.tupleExact _) (wpAny_newObj_type (wpAny_pure ⟨_, rfl, wpAny_pure h⟩) htake)
    | exact wpAny_bind (m := Builtin.Tuple.tupleExact _) (wpAny_newObj_type (wpAny_bind (wpAny_pure (wpAny_pure ⟨_, rfl, wpAny_pure h⟩))) htake)
    | exact wpAny_bind (wpAny_bind (m := Builtin.Tuple.tupleExact _) (wpAny_newObj_type (wpAny_pure (wpAny_pure ⟨_, rfl, wpAny_pure h⟩)) htake))
    | exact wpAny_bind (wpAny_bind (m := Builtin.Tuple.tupleExact _) (wpAny_newObj_type (wpAny_pure ⟨_, rfl, wpAny_pure h⟩) htake))
end
section
variable {X : Cx}
def tRevT (K : PySem.W.Frag) (te : TE) : TE := fun σ H Q => te σ H fun x H1 => ∃ a xs, x = .ref a ∧ SqT K H1 a xs ∧ ∀ p, H1 p = none → Q (.ref p) (upd H1 p (.tup xs.reverse))
theorem pe_revT {e : Expr} {te : TE} {k : Nat} {p1 p2 p3 pos : Pos} (he : PE X e te) : PE X (.Subscript e (.Slice none none (some (.UnaryOp .USub (.Constant (.int 1) k p1) p2)) p3) pos) (tRevT X.K te) := by
  refine ⟨fun pins s σ H Q I h => ?_⟩
  refine Subscript_ (thn (he.run pins s σ H _ I h) fun v s1 ⟨x, H1, I1, r1, q1⟩ => ?_)
  obtain ⟨a, xs, ex, hx, q⟩ := q1
  subst ex
  cases r1
  have hst : PO X (some (.UnaryOp .USub (.Constant (.int 1) k p1) p2)) (tPart (tUn (rU fun i => .int (-i)) (tC (.int 1)))) := po_some (pe_un un_neg pe_int)
  refine wpAny_Slice (thn (po_none.run pins s1 σ H1 (fun o H2 => o = none ∧ H2 = H1) I1 ⟨rfl, rfl⟩) fun vl s2 ⟨l, H2, I2, pl, el, e2⟩ => ?_)
  subst el e2
  refine thn (po_none.run pins s2 σ H2 (fun o H3 => o = none ∧ H3 = H2) I2 ⟨rfl, rfl⟩) fun vu s3 ⟨u, H3, I3, pu, eu, e3⟩ => ?_
  subst eu e3
  refine thn (hst.run pins s3 σ H3 (fun o H4 => o = some (-1) ∧ H4 = H3) I3 ⟨1, rfl, -1, rfl, rfl, rfl⟩) fun vs s4 ⟨o, H4, I4, ps, eo, e4⟩ => ?_
  subst eo e4
  have I5 : Inv X pins σ H4 { s4 with heap := s4.heap.push { cls := .type "slice", data := .fields #[vl, vu, vs] } } := I4.kept (t' := s4.toks) fun b ob q => Heap.get?_push_of_some _ q
  obtain ⟨its, r, ht, hz⟩ := I5.tuple hx
  have hlen := r.length
  show wpAny (model X.prog X.w) X.A (subscriptTail e (.Slice none none (some (.UnaryOp .USub (.Constant (.int 1) k p1) p2)) p3) (.ref a) (.ref s4.heap.objs.size)) (EP X pins σ Q) X.xe { s4 with heap := s4.heap.push { cls := .type "slice", data := .fields #[vl, vu, vs] } }
  refine tail_any (ops := [.ref a, .ref s4.heap.objs.size]) ht.typeIs (PyProof.Rows.slot_tuple_getitem.lookup) ?_ (by with_unfolding_all rfl)
  refine getItem_tuple_rev ht (Heap.IsSliceOf.new _ vl vu vs) pl pu ps ?_ (by rw [List.size_toArray]; omega)
  refine ⟨.ref _, _, I5.laid (t' := s4.toks) (o := .tup xs.reverse) (fun b ob q => Heap.get?_push_of_some _ q) (Nat.le_refl _) ?_, rfl, q _ (I5.hok.fresh (Nat.le_refl _))⟩
  exact ⟨by rw [List.length_reverse]; exact hz, _, r.reverse, IsTup.new _ _⟩
end
/-! ### expressions that build values -/
def EvD (K : PySem.W.Frag) (S : List Addr) (te : TE) (σ : L2.St) (H : Hp) (d : D) : Prop := ∀ H1, Stp [] H H1 → ∀ Q : VK, (∀ v H2, Stp [] H1 H2 → Rv K S H2 v d → Q v H2) → te σ H1 Q
def EvDA (K : PySem.W.Frag) (S : List Addr) (ta : TA) (σ : L2.St) (H : Hp) (ds : List D) : Prop := ∀ H1, Stp [] H H1 → ∀ Q : List V → Hp → Prop, (∀ vs H2, Stp [] H1 H2 → RvL K S H2 vs ds → Q vs H2) → ta σ H1 Q
section
variable {K : PySem.W.Frag} {S : List Addr} {te : TE} {ta : TA} {σ : L2.St} {H : Hp} {d : D} {ds : List D}
theorem EvD.bl {b : Bool} : EvD K S (tC (.bl b)) σ H (.bl b) := fun H1 _ _ k => k _ H1 (Stp.refl _ _) (.bl b)
theorem EvD.int {i : Int} : EvD K S (tC (.int i)) σ H (.int i) := fun H1 _ _ k => k _ H1 (Stp.refl _ _) (.int i)
theorem EvD.non : EvD K S (tC .non) σ H .non := fun H1 _ _ k => k _ H1 (Stp.refl _ _) .non
theorem EvD.str {s : Str} (h : s.cps.toList.length ≤ 100000 := by decide +kernel) : EvD K S (tC (.str s)) σ H (wd s) := fun H1 _ _ k => k _ H1 (Stp.refl _ _) (Rv.lit s h)
theorem EvD.var {i : Nat} {v : V} (r : Rv K S H v d) (e : σ[i]? = some (some v) := by rfl) : EvD K S (tVar i) σ H d := fun H1 s _ k => ⟨v, e, k v H1 (Stp.refl _ _) (r.up s)⟩
theorem EvDA.nil : EvDA K S tNil σ H [] := fun H1 _ _ k => k [] H1 (Stp.refl _ _) .nil
theorem EvDA.cons (h : EvD K S te σ H d) (g : EvDA K S ta σ H ds) : EvDA K S (tCons te ta) σ H (d :: ds) := fun H1 s Q k =>
  h H1 s _ fun v H2 s2 r => g H2 (s.trans s2) _ fun vs H3 s3 rs => k (v :: vs) H3 (s2.trans s3) (.cons (r.up s3) rs)
theorem EvD.tup (h : EvDA K S ta σ H ds) (hl : ds.length ≤ 1000) : EvD K S (tTup ta) σ H (.tup ds) := fun H1 s Q k =>
  h H1 s _ fun vs H2 s2 rs => ⟨sz (by rw [rs.len]; omega), fun p np => k _ _ (s2.new' np) (Rv.newT np rs (by omega))⟩
theorem EvD.lst (L : Lsts H S) (h : EvDA K S ta σ H ds) (hl : ds.length ≤ 1000) : EvD K S (tLst ta) σ H (.lst ds) := fun H1 s Q k =>
  h H1 s _ fun vs H2 s2 rs => ⟨sz (by rw [rs.len]; omega), fun p np => k _ _ (s2.new' np) (Rv.newL (Pv.Lsts.up L (s.trans s2)) np rs (by omega))⟩
theorem EvD.exc {C : Addr} (ok : OkC K C) (h : EvD K S te σ H d) : EvD K S (fun σ H Q => te σ H fun _ H1 => ∀ a, H1 a = none → Q (.ref a) (upd H1 a (ExO (.ref C) a))) σ H (.obj C) := fun H1 s Q k =>
  h H1 s _ fun v H2 s2 _ => fun a na => k _ _ (s2.new' na) (.obj upd_same ok)
theorem EvD.pow {i j : Int} (h : CPow i j) : EvD K S (tOp (rI CPow fun i j => .int (i ^ j.toNat)) (tC (.int i)) (tC (.int j))) σ H (.int (i ^ j.toNat)) := fun H1 s Q k =>
  ⟨i, j, rfl, rfl, h, k _ _ (Stp.refl _ _) (.int _)⟩
theorem EvD.neg {i : Int} : EvD K S (tUn (rU fun i => .int (-i)) (tC (.int i))) σ H (.int (-i)) := fun H1 s Q k => ⟨i, rfl, k _ _ (Stp.refl _ _) (.int _)⟩
theorem EvDA.use (h : EvDA K S ta σ H ds) {Q : List V → Hp → Prop} (k : ∀ vs H2, Stp [] H H2 → RvL K S H2 vs ds → Q vs H2) : ta σ H Q := h H (Stp.refl _ _) Q k
theorem EvD.use (h : EvD K S te σ H d) {Q : VK} (k : ∀ v H2, Stp [] H H2 → Rv K S H2 v d → Q v H2) : te σ H Q := h H (Stp.refl _ _) Q k
theorem EvDA.newl (h : EvDA K S ta σ H ds) (hl : ds.length ≤ 1000) {Q : VK} (k : ∀ p vs H2, Stp [] H H2 → H p = none → H2 p = some (.lst vs) → RvL K S H2 vs ds → Q (.ref p) H2) : tLst ta σ H Q :=
  h.use fun vs H2 s rs => ⟨sz (by rw [rs.len]; omega), fun p np => k p vs _ (s.new' np) (s.fresh (fun m => nomatch m) np) upd_same (rs.up (Stp.new np []))⟩
end
/-! ### lists of truths, compared -/
theorem dp_bools {K : PySem.W.Frag} {H : Hp} : ∀ (bs : List Bool), DpAll K H (bs.map V.bl) (bs.map PyData.bool)
  | [] => .nil
  | b :: bs => .cons (.bl b) (dp_bools bs)
theorem lay_bools : ∀ (bs : List Bool), PyData.canLayAll0 (bs.map PyData.bool) = true
  | [] => rfl
  | b :: bs => by
    show (PyData.canLay0 (.bool b) && PyData.canLayAll0 (bs.map PyData.bool)) = true
    rw [lay_bools bs]
    rfl
theorem dep_bools : ∀ (bs : List Bool), PyData.depthAll (bs.map PyData.bool) = 0
  | [] => rfl
  | b :: bs => by
    show max 0 (PyData.depthAll (bs.map PyData.bool)) = 0
    rw [dep_bools bs]
    rfl
theorem shaped_bools (bs : List Bool) : SeqAt.shaped (.list (bs.map PyData.bool)) = true := by
  unfold SeqAt.shaped
  rw [show PyData.canLay0 (.list (bs.map PyData.bool)) = true from lay_bools bs]
  rw [show PyData.depth (.list (bs.map PyData.bool)) = 0 + 1 by show PyData.depthAll _ + 1 = _; rw [dep_bools]]
  rfl
/-- the same list of truths twice: != says no -/
theorem ne_bools {K : PySem.W.Frag} {H : Hp} {p q : Addr} {bs : List Bool} {Q : VK} (hp : SqL K H p (bs.map V.bl)) (hq : SqL K H q (bs.map V.bl)) (k : Q (.bl false) H) : rNeD K (.ref p) (.ref q) H Q := by
  refine ⟨.list (bs.map PyData.bool), .list (bs.map PyData.bool), .lst hp (dp_bools bs), .lst hq (dp_bools bs), shaped_bools bs, shaped_bools bs, ?_⟩
  rw [SeqAt.eqv_refl _ (show PyData.canLay0 (.list (bs.map PyData.bool)) = true from lay_bools bs)]
  exact k
end Pv
namespace Pv
open PySem PySem.Spec PyProof.Rows L2 Pg
/-- the ways of an expression, joined by what they leave -/
theorem te_join {te : TE} {σ : L2.St} {H : Hp} {Q : VK} (I : V → Hp → Prop) (h : (∀ v H', I v H' → Q v H') → te σ H Q) (k : ∀ v H', I v H' → Q v H') : te σ H Q := h k
/-- xs + ys, new lists of values -/
theorem cat_use {K : PySem.W.Frag} {S : List Addr} {H : Hp} {a b : Addr} {xs ys : List V} {ds es : List D} {Q : VK} (ha : H a = some (.lst xs)) (hb : H b = some (.lst ys)) (ra : RvL K S H xs ds) (rb : RvL K S H ys es) (hl : ds.length + es.length ≤ 100000)
    (k : ∀ p, H p = none → ∀ H' zs, Stp [] H H' → H' p = some (.lst zs) → RvL K S H' zs (ds ++ es) → Q (.ref p) H') : rCat (.ref a) (.ref b) H Q :=
  ⟨a, b, xs, ys, rfl, rfl, ha, hb, by rw [ra.len, rb.len]; exact sz hl, fun p np => k p np _ _ (Stp.new np _) upd_same ((ra.app rb).up (Stp.new np _))⟩
/-- xs + ys, also of a list that is locked -/
def rCatS (K : PySem.W.Frag) : R2 := fun x y H Q => ∃ l b xs zs, x = .ref l ∧ y = .ref b ∧ SqL K H l xs ∧ SqL K H b zs ∧ xs.length + zs.length ≤ sizeLine ∧ ∀ p, H p = none → Q (.ref p) (upd H p (.lst (xs ++ zs)))
theorem op_catS {X : Cx} : OpR X (binaryOp .Add) (rCatS X.K) := by
  intro pins s σ H x y v u Q I rx ry h
  obtain ⟨l, b, xs, zs, rfl, rfl, hH, hB, hz, q⟩ := h
  cases rx
  cases ry
  obtain ⟨its, r, pl, _⟩ := I.list hH
  obtain ⟨its2, r2, pl2, _⟩ := I.list hB
  have hl := r.length
  have hl2 := r2.length
  have ea : its.toArray ++ its2.toArray = (its ++ its2).toArray := by simp
  obtain ⟨⟨cls, dd, data, sl⟩, ho, hc, n, hd⟩ := pl.isList
  obtain ⟨⟨cls2, dd2, data2, sl2⟩, ho2, hc2, n2, hd2⟩ := pl2.isList
  simp only at hc hd hc2 hd2
  subst hc hd hc2 hd2
  refine concat_meets ⟨_, ho, rfl⟩ ⟨_, ho2, rfl⟩ noFill_list_add seq_list_add PySem.F.slot_list_add PySem.F.entry_list_add (PySem.F.args_list_add_2 _ _) (list_addW l b its.toArray its2.toArray n n2 dd dd2 sl sl2 (by rw [List.size_toArray, List.size_toArray]; omega)) ⟨ho, ho2, ?_⟩
  rw [ea]
  exact ⟨.ref _, _, I.lnew (t' := s.toks) (r.append r2) (by rw [List.length_append]; omega), rfl, q _ I.fresh⟩
theorem out_of {b p : Addr} {H : Hp} {o : HO} (h : H b = some o) (np : H p = none) : p ∉ [b] := fun m => by
  rw [List.mem_singleton.mp m, h] at np
  cases np
end Pv
namespace Pv
open PySem PySem.Spec PyProof.Rows L2 Pg
section
variable {K : PySem.W.Frag} {S : List Addr} {te : TE} {ta : TA} {σ : L2.St} {H : Hp} {d : D} {ds es : List D}
theorem catT {a b : Addr} {xs ys : List V} {Q : VK} (ha : SqT K H a xs) (hb : SqT K H b ys) (ra : RvL K S H xs ds) (rb : RvL K S H ys es) (hl : ds.length + es.length ≤ 100000)
    (k : ∀ p zs H', Stp [] H H' → SqT K H' p zs → RvL K S H' zs (ds ++ es) → Q (.ref p) H') : rCatA K (.ref a) (.ref b) H Q :=
  catA_use ha hb (by rw [ra.len, rb.len]; exact hl) fun p H' s h => k p _ H' s h ((ra.app rb).up s)
theorem upT {a : Addr} {xs : List V} {n : Nat} {Q : VK} (ha : SqT K H a xs) (ra : RvL K S H xs ds) (k : ∀ p zs H', Stp [] H H' → SqT K H' p zs → RvL K S H' zs (ds.take n) → Q (.ref p) H') : rSlA K (.ref a) none (some (n : Int)) H Q :=
  slA_use ha fun p H' s h => k p _ H' s (by rwa [cut_upto] at h) ((ra.take n).up s)
theorem fromT {a : Addr} {xs : List V} {n : Nat} {Q : VK} (ha : SqT K H a xs) (ra : RvL K S H xs ds) (k : ∀ p zs H', Stp [] H H' → SqT K H' p zs → RvL K S H' zs (ds.drop n) → Q (.ref p) H') : rSlA K (.ref a) (some (n : Int)) none H Q :=
  slA_use ha fun p H' s h => k p _ H' s (by rwa [cut_from] at h) ((ra.drop n).up s)
theorem fromT1 {a : Addr} {xs : List V} {n : Nat} {Q : VK} (ha : SqT K H a xs) (ra : RvL K S H xs ds) (k : ∀ p zs H', Stp [] H H' → SqT K H' p zs → RvL K S H' zs (ds.drop (n + 1)) → Q (.ref p) H') : rSlA K (.ref a) (some ((n : Int) + 1)) none H Q :=
  Pv.fromT (n := n + 1) ha ra k
/-! more expressions -/
theorem Rv.tupE {a : V} (r : Rv K S H a (.tup ds)) : ∃ p vs, a = .ref p ∧ SqT K H p vs ∧ vs.length ≤ 100000 ∧ RvL K S H vs ds := by
  cases r with
  | tup h n r => exact ⟨_, _, rfl, h, n, r⟩
theorem EvD.list (L : Lsts H S) (h : EvD K S te σ H (.tup ds)) : EvD K S (tCB (fun xs H Q => ∃ p ys, xs = [.ref p] ∧ (SqL K H p ys ∨ SqT K H p ys) ∧ ∀ l, H l = none → Q (.ref l) (upd H l (.lst ys))) (tCons te tNil)) σ H (.lst ds) := fun H1 s Q k =>
  h H1 s _ fun v H2 s2 r => by
    obtain ⟨p, vs, rfl, hs, n, rl⟩ := r.tupE
    exact ⟨_, _, rfl, .inr hs, fun l nl => k _ _ (s2.new' nl) (Rv.newL (Pg.Lsts.stp L (s.trans s2)) nl rl (by rw [← rl.len]; exact n))⟩
theorem EvD.upT {n : Nat} (h : EvD K S te σ H (.tup ds)) : EvD K S (tSl (rSlA K) te tNoPart (tPart (tC (.int (n : Int))))) σ H (.tup (ds.take n)) := fun H1 s Q k =>
  h H1 s _ fun v H2 s2 r => by
    obtain ⟨p, vs, rfl, hs, n, rl⟩ := r.tupE
    exact ⟨_, rfl, Pv.upT hs rl fun p zs H' s3 h2 r2 => k _ _ (s2.trans s3) (.tup h2 (by rw [r2.len, List.length_take, ← rl.len]; omega) r2)⟩
theorem EvD.fromT {n : Nat} (h : EvD K S te σ H (.tup ds)) : EvD K S (tSl (rSlA K) te (tPart (tC (.int (n : Int)))) tNoPart) σ H (.tup (ds.drop n)) := fun H1 s Q k =>
  h H1 s _ fun v H2 s2 r => by
    obtain ⟨p, vs, rfl, hs, n, rl⟩ := r.tupE
    exact ⟨_, rfl, Pv.fromT hs rl fun p zs H' s3 h2 r2 => k _ _ (s2.trans s3) (.tup h2 (by rw [r2.len, List.length_drop, ← rl.len]; omega) r2)⟩
theorem EvD.catT {tb : TE} (h : EvD K S te σ H (.tup ds)) (g : EvD K S tb σ H (.tup es)) (hl : ds.length + es.length ≤ 100000) : EvD K S (tOp (rCatA K) te tb) σ H (.tup (ds ++ es)) := fun H1 s Q k =>
  h H1 s _ fun v H2 s2 r => g H2 (s.trans s2) _ fun u H3 s3 q => by
    obtain ⟨p, vs, rfl, hs, n, rl⟩ := (r.up s3).tupE
    obtain ⟨p2, vs2, rfl, hs2, n2, rl2⟩ := q.tupE
    exact Pv.catT hs hs2 rl rl2 hl fun p zs H' s4 h2 r2 => k _ _ ((s2.trans s3).trans s4) (.tup h2 (by rw [r2.len, List.length_append]; exact hl) r2)
theorem EvD.ixT {i : Nat} (h : EvD K S te σ H (.tup ds)) (e : ds[i]? = some d) : EvD K S (tOp (rIxT K) te (tC (.int (i : Int)))) σ H d := fun H1 s Q k =>
  h H1 s _ fun v H2 s2 r => by
    obtain ⟨p, vs, rfl, hs, n, rl⟩ := r.tupE
    have hi : i < vs.length := by
      rw [rl.len]
      exact (List.getElem?_eq_some_iff.mp e).1
    obtain ⟨d', e', r'⟩ := rl.get (List.getElem?_eq_getElem hi)
    rw [e] at e'
    cases e'
    exact ⟨p, vs, _, _, rfl, rfl, hs, atI_nat (List.getElem?_eq_getElem hi), k _ _ s2 r'⟩
theorem EvD.revT (h : EvD K S te σ H (.tup ds)) : EvD K S (tRevT K te) σ H (.tup ds.reverse) := fun H1 s Q k =>
  h H1 s _ fun v H2 s2 r => by
    obtain ⟨p, vs, rfl, hs, n, rl⟩ := r.tupE
    exact ⟨p, vs, rfl, hs, fun p np => k _ _ (s2.new' np) (Rv.newT np rl.rev (by rw [List.length_reverse, ← rl.len]; exact n))⟩
theorem op_newl {r : R2} {tb : TE} {Q : VK} (h : EvDA K S ta σ H ds) (hl : ds.length ≤ 1000) (k : ∀ p vs H2, Stp [] H H2 → H p = none → H2 p = some (.lst vs) → RvL K S H2 vs ds → tb σ H2 fun y H3 => r (.ref p) y H3 Q) : tOp r (tLst ta) tb σ H Q := h.newl hl k
theorem EvDA.one (h : EvD K S te σ H d) : EvDA K S (tCons te tNil) σ H [d] := .cons h .nil
end
end Pv
namespace Pv
open PySem PySem.Spec PyProof.Rows L2 Pg
/-! ### xs == [], xs any values -/
def rEqNil (K : PySem.W.Frag) : R2 := fun x y H Q => ∃ a b xs, x = .ref a ∧ y = .ref b ∧ a ≠ b ∧ SqL K H a xs ∧ SqL K H b [] ∧ Q (.bl xs.isEmpty) H
def rNeNil (K : PySem.W.Frag) : R2 := fun x y H Q => ∃ a b xs, x = .ref a ∧ y = .ref b ∧ a ≠ b ∧ SqL K H a xs ∧ SqL K H b [] ∧ Q (.bl (!xs.isEmpty)) H
theorem op_eqNil {X : Cx} (hu : X.A.units + 64 < cLine) : OpR X (compareOp .Eq) (rEqNil X.K) := by
  intro pins s σ H x y v u Q I rx ry h
  obtain ⟨a, b, xs, rfl, rfl, ne, hH, hB, q⟩ := h
  cases rx
  cases ry
  obtain ⟨its, r, pl, _⟩ := I.list hH
  obtain ⟨its2, r2, pl2, _⟩ := I.list hB
  cases r2
  cases xs with
  | nil =>
    cases r
    refine SeqAt.RcAt.lists (e := fun _ => true) pl.isList pl2.isList rfl (by omega) (fun j h1 h2 => absurd h1 (by simp)) _ _ _ _ ?_
    exact ⟨.bl true, H, I, rfl, q⟩
  | cons x xs =>
    cases r with
    | cons r1 r =>
      refine SeqAt.RcAt.lists_lengths pl.isList pl2.isList (by simp) (by omega) _ _ _ _ ?_
      exact ⟨.bl false, H, I, rfl, q⟩
theorem op_neNil {X : Cx} (hu : X.A.units + 64 < cLine) : OpR X (compareOp .NotEq) (rNeNil X.K) := by
  intro pins s σ H x y v u Q I rx ry h
  obtain ⟨a, b, xs, rfl, rfl, ne, hH, hB, q⟩ := h
  cases rx
  cases ry
  obtain ⟨its, r, pl, _⟩ := I.list hH
  obtain ⟨its2, r2, pl2, _⟩ := I.list hB
  cases r2
  cases xs with
  | nil =>
    cases r
    refine SeqAt.RcNeAt.lists (e := fun _ => true) pl.isList pl2.isList rfl (by omega) (fun j h1 h2 => absurd h1 (by simp)) _ _ _ _ ?_
    exact ⟨.bl false, H, I, rfl, q⟩
  | cons x xs =>
    cases r with
    | cons r1 r =>
      refine SeqAt.RcNeAt.lists_lengths pl.isList pl2.isList (by simp) (by omega) _ _ _ _ ?_
      exact ⟨.bl true, H, I, rfl, q⟩
/-- one value told twice -/
theorem eq_rel {v : V} {d : D} {K : PySem.W.Frag} {S : List Addr} {H : Hp} {u u' : Value} (h : Rv K S H v d) (r : RelV v u) (r' : RelV v u') (A : Around) (s : Shared) : SeqAt.EqAt A s u u' true := by
  cases h with
  | non => cases r; cases r'; exact SeqAt.EqAt.same _
  | bl b => cases r; cases r'; exact SeqAt.EqAt.same _
  | int i =>
    obtain ⟨t, rfl⟩ := r
    obtain ⟨t', rfl⟩ := r'
    have := (MeetsSeq.EqGives.int i i t t').at A s
    rwa [show (i == i) = true from beq_self_eq_true i] at this
  | str l hl =>
    obtain ⟨t, rfl⟩ := r
    obtain ⟨t', rfl⟩ := r'
    have := (SeqRoads2.EqGives.str (tx l) (tx l) t t').at A s
    rwa [show ((tx l).cps.toList == (tx l).cps.toList) = true from beq_self_eq_true _] at this
  | tup _ _ _ => cases r; cases r'; exact SeqAt.EqAt.same _
  | lst _ _ _ _ => cases r; cases r'; exact SeqAt.EqAt.same _
  | obj _ _ => cases r; cases r'; exact SeqAt.EqAt.same _
theorem vals_at : ∀ {vs : List V} {us us' : List Value} {ds : List D} {K : PySem.W.Frag} {S : List Addr} {H : Hp}, RvL K S H vs ds → Vals vs us → Vals vs us' → ∀ (A : Around) (s : Shared) (j : Nat) (h1 : j < us.length) (h2 : j < us'.length), SeqAt.EqAt A s us[j] us'[j] true
  | _, _, _, _, _, _, _, .nil, .nil, .nil, _, _, _, h1, _ => absurd h1 (Nat.not_lt_zero _)
  | _, _, _, _, _, _, _, .cons h _, .cons r _, .cons r' _, A, s, 0, _, _ => eq_rel h r r' A s
  | _, _, _, _, _, _, _, .cons _ h, .cons _ r, .cons _ r', A, s, j + 1, h1, h2 => vals_at h r r' A s j (Nat.lt_of_succ_lt_succ h1) (Nat.lt_of_succ_lt_succ h2)
/-- xs != ys, both hold the same values -/
def rNeL (K : PySem.W.Frag) : R2 := fun x y H Q => ∃ (S : List Addr) (a b : Addr) (xs : List V) (ds : List D), x = .ref a ∧ y = .ref b ∧ SqL K H a xs ∧ SqL K H b xs ∧ RvL K S H xs ds ∧ Q (.bl false) H
theorem op_neL {X : Cx} (hu : X.A.units + 64 < cLine) : OpR X (compareOp .NotEq) (rNeL X.K) := by
  intro pins s σ H x y v u Q I rx ry h
  obtain ⟨S, a, b, xs, ds, rfl, rfl, hH, hB, rv, q⟩ := h
  cases rx
  cases ry
  obtain ⟨its, r, pl, _⟩ := I.list hH
  obtain ⟨its2, r2, pl2, _⟩ := I.list hB
  have e1 := Vals.length r
  have e2 := Vals.length r2
  refine SeqAt.RcNeAt.lists (e := fun _ => true) pl.isList pl2.isList (by simp; omega) (by omega) (fun j h1 h2 => ?_) _ _ _ _ ?_
  · have := vals_at rv r r2 X.A.in1 s j (by simpa using h1) (by simpa using h2)
    simpa using this
  · refine ⟨.bl _, H, I, rfl, ?_⟩
    rw [show ((List.range its.toArray.size).all fun _ => true) = true from by simp]
    exact q
end Pv
namespace PySem.W
open PySem PySem.Spec PySem.Calls PyProof.Rows Sem
/-- what a class says of == and != : no own ones -/
structure SameC (K : Frag) (D : Addr) : Prop where
  eq : findIn K (.ref D) "__eq__" = some (some (.builtin "object.__eq__"))
  ne : findIn K (.ref D) "__ne__" = some (some (.builtin "object.__ne__"))
  sub : subIn K (.ref D) (.type "object") = some true
section
variable {prog : Program} {w : World} {A : Around} {E : Value → Shared → Prop} {K : Frag} {x D : Addr} {ox : Obj} {h : Heap} {g : Array GenState} {d : Drawn} {t : Nat} {os : OsState}
theorem sp_same {name : Str} {id : String} {args : List Value} {Q : Option Value → Shared → Prop} (LS : Looks (model prog w) h (specialOf (.ref x) name) (some (.builtin id))) (S : PySem.Slot "object" name id)
    (hcall : wpAny (model prog w) A (call (.builtin id) (.ref x :: args)) (fun v => Q (some v)) E ⟨h, g, d, t, os⟩) : wpAny (model prog w) A (callSpecialIfBound? (.ref x) name args) Q E ⟨h, g, d, t, os⟩ := by
  simp only [callSpecialIfBound?, bindSpecialIfBound?]
  refine wpAny_holding (wpAny_bind (wpAny_bind (LS.at ?_)))
  simp only [S.bind]
  refine wpAny_bind (wpAny_askSetting (wpAny_ite ?_))
  have fin : wpAny (model prog w) A (call (.builtin id) ([.ref x] ++ args) >>= fun v => Pure.pure (some v)) Q E ⟨h, g, d, t, os⟩ :=
    wpAny_bind (wpAny_mono hcall (fun v s' h' => wpAny_pure h') fun _ _ h' => h')
  split
  · exact wpAny_bind (wpAny_pure (wpAny_pure fin))
  · exact wpAny_tryCatch (wpAny_bind (wpAny_pure (wpAny_pure fin)))
theorem eq_same (C : SameC K D) (X : K.In h) (I : InstAt h x ox D none) {Q : Option Value → Shared → Prop} (hq : Q (some (.bool true)) ⟨h, g, d, t, os⟩) :
    wpAny (model prog w) A (callSpecialIfBound? (.ref x) "__eq__" [.ref x]) Q E ⟨h, g, d, t, os⟩ := by
  have L0 := I.type (M := model prog w)
  have sub : Looks (model prog w) h (isInstance (.ref x) (.type "object")) true := L0.andThen (looks_subIn X C.sub)
  refine sp_same (L0.andThen (looks_findIn X C.eq)) PySem.F.cmp_object.eq ?_
  refine wpAny_call (codeAny_call_builtin PySem.F.cmp_object.eq.plain PySem.F.cmpEntry_eq ?_)
  exact @check_slot (model prog w) _ _ ⟨h, g, d, t, os⟩ "object.__eq__" "object" "__eq__" (.ref x) [.ref x] [] _ PySem.F.cmpKind_eq PySem.F.cmpSplit_eq sub (PySem.F.cmpArgs_eq _ _) (objEq_entry_same hq)
theorem ne_same (C : SameC K D) (X : K.In h) (I : InstAt h x ox D none) (hu : A.units + 1 < cLine) {Q : Option Value → Shared → Prop} (hq : Q (some (.bool false)) ⟨h, g, d, t, os⟩) :
    wpAny (model prog w) A (callSpecialIfBound? (.ref x) "__ne__" [.ref x]) Q E ⟨h, g, d, t, os⟩ := by
  have L0 := I.type (M := model prog w)
  have sub : Looks (model prog w) h (isInstance (.ref x) (.type "object")) true := L0.andThen (looks_subIn X C.sub)
  refine sp_same (L0.andThen (looks_findIn X C.ne)) PySem.F.cmp_object.ne ?_
  refine wpAny_call (codeAny_call_builtin PySem.F.cmp_object.ne.plain PySem.F.cmpEntry_ne ?_)
  refine @check_slot (model prog w) _ _ ⟨h, g, d, t, os⟩ "object.__ne__" "object" "__ne__" (.ref x) [.ref x] [] _ PySem.F.cmpKind_ne PySem.F.cmpSplit_ne sub (PySem.F.cmpArgs_ne _ _) ?_
  unfold Builtin.«object.__ne__»
  repeat (first | with_reducible refine wpAny_cRoomFor hu ?_ | with_reducible refine eq_same C X I ?_ | wp_step)
  exact hq
theorem compare_ne_same (C : SameC K D) (X : K.In h) (I : InstAt h x ox D none) (hu : A.units + 1 < cLine) {Q : Value → Shared → Prop} (hq : Q (.bool false) ⟨h, g, d, t, os⟩) :
    wpAny (model prog w) A (compareOp .NotEq (.ref x) (.ref x)) Q E ⟨h, g, d, t, os⟩ := by
  have hu0 : A.units < cLine := Nat.lt_of_succ_lt hu
  show wpAny (model prog w) A (richCompare .NotEq (.ref x) (.ref x)) Q E ⟨h, g, d, t, os⟩
  simp only [richCompare, cmpInfo_NotEq, oneThing_ref]
  have L0 := I.type (M := model prog w)
  have tc : ∀ {Q : Option Value → Shared → Prop}, Q (some (.bool false)) ⟨h, g, d, t, os⟩ → wpAny (model prog w) A (tryCompare (.ref x) "__ne__" (.ref x)) Q E ⟨h, g, d, t, os⟩ := fun hq => by
    simp only [tryCompare]
    exact wpAny_bind (ne_same C X I hu (wpAny_pure hq))
  repeat (first | with_reducible refine wpAny_cRoomFor hu0 ?_ | with_reducible refine L0.at ?_ | with_reducible refine tc ?_ | wp_step)
  exact hq
end
end PySem.W
namespace Pv
open PySem PySem.Spec PyProof.Rows L2 Pg
/-- x != x, any value -/
def rNeV (K : PySem.W.Frag) : R2 := fun x y H Q => x = y ∧ ∃ (S : List Addr) (d : D), Rv K S H x d ∧ (∀ C, d = .obj C → PySem.W.SameC K C) ∧ Q (.bl false) H
/-- kept != due: lists of the same values, or one value -/
def rNeK (K : PySem.W.Frag) : R2 := fun x y H Q => rNeL K x y H Q ∨ rNeV K x y H Q
theorem op_neK {X : Cx} (hu : X.A.units + 64 < cLine) : OpR X (compareOp .NotEq) (rNeK X.K) := by
  intro pins s σ H x y v u Q I rx ry h
  rcases h with h | ⟨rfl, S, d, rv, ob, q⟩
  · exact op_neL hu pins s σ H x y v u Q I rx ry h
  · have sc := fun e => op_ne pins s σ H x x v u Q I rx ry ⟨e, by rw [decide_eq_true rfl]; exact q⟩
    cases rv with
    | non => exact sc rfl
    | bl b => exact sc rfl
    | int i => exact sc rfl
    | str l hl => exact sc rfl
    | lst ha hn hl rl => exact op_neL hu pins s σ H _ _ v u Q I rx ry ⟨S, _, _, _, _, rfl, rfl, SqL.of ha, SqL.of ha, rl, q⟩
    | tup hs hl rl =>
      cases rx
      cases ry
      obtain ⟨its, r, pl, _⟩ := I.tuple hs
      refine SeqAt.RcNeAt.tuples (e := fun _ => true) pl pl (by omega) (fun j h1 h2 => SeqAt.EqAt.same _) _ _ _ _ ?_
      refine ⟨.bl _, H, I, rfl, ?_⟩
      have e : ∀ n : Nat, ((List.range n).all fun _ => true) = true := fun n => List.all_eq_true.mpr fun _ _ => rfl
      rw [e]
      simpa using q
    | obj ho ok =>
      rename_i a C
      cases rx
      cases ry
      obtain ⟨⟨oe, vs, e1, ⟨e2, e3⟩, e4, _⟩, _⟩ := I.hok _ _ ho
      have J : PySem.W.InstAt s.heap a oe C none := by
        obtain ⟨oc, od, oda, osl⟩ := oe
        dsimp only at e2 e3 e4
        subst e2 e3 e4
        exact ⟨e1, rfl, rfl, trivial⟩
      obtain ⟨hp, g, d, t, os⟩ := s
      refine PySem.W.compare_ne_same (ob C rfl) I.kIn J (by omega) ⟨.bl false, H, I, rfl, q⟩
end Pv
namespace Pg
open PySem PySem.Spec PyProof.Rows L2 PySem.Froz
/-! ### sets of texts, with what their order leans on -/
/-- the payload D holds the texts l; its table rises, and its order is to be told -/
structure TxR (P : Program) (w : World) (D : SD) (l : List Str) : Prop where
  ok : TxOk P w D l
  all : ∃ us : List Tok, us.length = l.length ∧ D.1.toList.Perm ((l.zip us).map fun p => (hashStr w p.1, Value.str p.1 p.2))
  nd : l.Nodup
  ris : Ris D.2.2.place.toList
  led : w.params.followText "set-order" = true ∨ D.2.2.led = true
section
variable {P : Program} {w : World} {A : Around} {E : Value → Shared → Prop} {s : Shared}
theorem tail_ris {ep : Nat} {xs : Array (Int × Value)} {t : SetTable} {b : Bool} (h : Ris t.place.toList) : Ris (tailTx ep xs t b).2.2.place.toList := by
  unfold tailTx
  by_cases c : (!b && t.tooFull) = true
  · rw [if_pos c]; exact relayAll_ris _ _ _
  · rw [if_neg c]; exact h
theorem tail_led {ep : Nat} {xs : Array (Int × Value)} {t : SetTable} {b : Bool} : (tailTx ep xs t b).2.2.led = t.led := by
  unfold tailTx
  by_cases c : (!b && t.tooFull) = true
  · rw [if_pos c]; exact relayAll_led _ _ _
  · rw [if_neg c]
theorem tail_all {ep : Nat} {xs : Array (Int × Value)} {t : SetTable} {b : Bool} : (tailTx ep xs t b).1.toList.Perm xs.toList := by
  unfold tailTx
  by_cases c : (!b && t.tooFull) = true
  · rw [if_pos c]; exact relayAll_perm _ _ _
  · rw [if_neg c]
theorem TxR.add {D : SD} {l : List Str} {k : Str} (u : Tok) (R : TxR P w D l) (hk : k ∉ l) : TxR P w (addTx (hashStr w k) (.str k u) D) (k :: l) := by
  obtain ⟨us, hu, hp⟩ := R.all
  refine ⟨add_ok u R.ok, ⟨u :: us, by rw [List.length_cons, List.length_cons, hu], ?_⟩, List.nodup_cons.mpr ⟨hk, R.nd⟩, ?_, ?_⟩
  · have p1 : (addTx (hashStr w k) (.str k u) D).1.toList.Perm (D.1.push (hashStr w k, .str k u)).toList := tail_all.trans (layNew_perm _ _ _ _)
    rw [Array.toList_push] at p1
    exact p1.trans ((List.perm_append_singleton _ _).trans (hp.cons _))
  · refine tail_ris ?_
    have q := layNew_ris D.2.2 D.1 (hashStr w k) (.str k u) R.ris
    split
    · exact q
    · exact q
  · have e1 : (addTx (hashStr w k) (.str k u) D).2.2.led = D.2.2.led := by
      unfold addTx
      rw [tail_led]
      have q := layNew_led D.2.2 D.1 (hashStr w k) (.str k u)
      split
      · exact q
      · exact q
    exact R.led.imp id fun z => e1.trans z
/-- a text that is there already is put in -/
theorem add_old {a : Addr} {T : String} {D : SD} {l : List Str} {k : Str} {u : Tok} {Q : Bool → Shared → Prop} (at_ : s.heap.get? a = some (sObj T D)) (F : TxOk P w D l) (hk : k ∈ l) (hb : l.length < scanBound)
    (h : Q false s) : wpAny (model P w) A (setAddHashed a (.str k u) (hashStr w k)) Q E s := by
  obtain ⟨xs, ep, t⟩ := D
  obtain ⟨e, he, hq⟩ := (F.mem k).mp hk
  have size : xs.size < scanBound := by have e : xs.size = l.length := F.sz; omega
  obtain ⟨j, hj⟩ : ∃ j, List.findIdx? (fun e => (strKind P w).is k e.2) xs.toList = some j := by
    cases c : List.findIdx? (fun e => (strKind P w).is k e.2) xs.toList with
    | some j => exact ⟨j, rfl⟩
    | none =>
      have := List.findIdx?_eq_none_iff.mp c e he
      rw [hq] at this
      cases this
  have dat : (sObj T (xs, ep, t)).data = .set xs ep t := rfl
  unfold setAddHashed setAddHashedIn
  refine wpAny_holding (wpAny_bind (wpAny_setState_of at_ dat F.fit ?_)); dsimp only
  rw [byScan_of rfl size F.el]; simp only [↓reduceIte]
  unfold setAddByScan
  refine wpAny_bind (wpAny_bind (wpAny_rule (wpAny_bind (wpAny_setScan_of (knd := strKind P w) (k := k) (is_str k u) at_ dat F.fit F.el ?_))))
  rw [hj]; dsimp only
  exact wpAny_pure (wpAny_pure h)
end
end Pg
namespace Pg
open PySem PySem.Spec PyProof.Rows L2 PySem.Froz
/-- of some texts each once: in the order in which a set takes them -/
def onceL (acc : List Str) : List Str → List Str
  | [] => acc
  | x :: xs => onceL (if x ∈ acc then acc else x :: acc) xs
theorem once_mem : ∀ (xs acc : List Str) (k : Str), k ∈ onceL acc xs ↔ k ∈ acc ∨ k ∈ xs
  | [], acc, k => by show k ∈ acc ↔ _; simp
  | x :: xs, acc, k => by
    show k ∈ onceL (if x ∈ acc then acc else x :: acc) xs ↔ _
    rw [once_mem xs]
    by_cases h : x ∈ acc
    · rw [if_pos h, List.mem_cons]
      constructor
      · rintro (q | q)
        · exact .inl q
        · exact .inr (.inr q)
      · rintro (q | rfl | q)
        · exact .inl q
        · exact .inl h
        · exact .inr q
    · rw [if_neg h, List.mem_cons, List.mem_cons]
      constructor
      · rintro ((q | q) | q)
        · exact .inr (.inl q)
        · exact .inl q
        · exact .inr (.inr q)
      · rintro (q | q | q)
        · exact .inl (.inr q)
        · exact .inl (.inl q)
        · exact .inr q
theorem once_len : ∀ (xs acc : List Str), (onceL acc xs).length ≤ acc.length + xs.length
  | [], acc => Nat.le_refl _
  | x :: xs, acc => by
    have h := once_len xs (if x ∈ acc then acc else x :: acc)
    show (onceL (if x ∈ acc then acc else x :: acc) xs).length ≤ _
    have e : (if x ∈ acc then acc else x :: acc).length ≤ acc.length + 1 := by split <;> simp
    rw [List.length_cons]
    omega
/-- a set of these texts stands at a -/
def SetS (P : Program) (w : World) (h : Heap) (a : Addr) (l : List Str) : Prop := ∃ D, h.get? a = some (sObj "set" D) ∧ TxR P w D l
section
variable {P : Program} {w : World} {A : Around} {E : Value → Shared → Prop} {s : Shared}
/-- one text is put in, new or not -/
theorem put_txt {a : Addr} {l : List Str} {k : Str} {u : Tok} {Q : Bool → Shared → Prop} (R : SetS P w s.heap a l) (hb : l.length + 1 < scanBound)
    (h : ∀ (b : Bool) h', Heap.SameBut a s.heap h' → SetS P w h' a (if k ∈ l then l else k :: l) → Q b { s with heap := h' }) : wpAny (model P w) A (setAddHashed a (.str k u) (hashStr w k)) Q E s := by
  obtain ⟨D, at_, R⟩ := R
  by_cases hk : k ∈ l
  · refine add_old at_ R.ok hk (by omega) ?_
    exact h false s.heap (Heap.SameBut.refl _ _) (by rw [if_pos hk]; exact ⟨D, at_, R⟩)
  · refine add_x at_ R.ok hk hb ?_
    refine h true _ (Heap.SameBut.update s.heap a _) ?_
    rw [if_neg hk]
    exact ⟨_, get_upd _ at_ rfl, R.add u hk⟩
end
section
variable {prog : Program} {w : World} {A : Around} {R : Result → Shared → Prop} {I : Addr} {fp wr : List Addr} {G : Array GenState → Array GenState → Prop} {n : Nat} {P : Nat → Value → Prop} {St : Nat → Shared → Prop}
theorem SetS.moved {h h' : Heap} {a : Addr} {l : List Str} (R : SetS prog w h a l) (k : ∀ o, h.get? a = some o → h'.get? a = some o) : SetS prog w h' a l := by
  obtain ⟨D, at_, q⟩ := R
  exact ⟨D, k _ at_, q⟩
/-- the loop that puts the items of a walk in -/
theorem puts (W : WalksS prog w A.in1 I fp wr G n P St) {D : Addr} (out : D ∉ fp) (xs : List Str) (len : xs.length = n) (few : n + 1 < scanBound) (is : ∀ i v, P i v → ∃ t, v = .str (xs.getD i Str.empty) t) :
    ∀ (m i : Nat) (s : Shared) (acc : List Str), n - i = m → i ≤ n → acc.length ≤ i → St i s → SetS prog w s.heap D acc →
      (∀ s', Moved (D :: wr) G s s' → SetS prog w s'.heap D (onceL acc (xs.drop i)) → R (.ok (.ret .none)) s') →
      codeAny (model prog w) A (.builtin "set.update.loop" ⟨[.ref D, .ref I], []⟩) R s := by
  have offw : D ∉ wr := fun q => out (W.sub _ q)
  have up : ∀ b ∈ wr, b ∈ D :: wr := fun b q => List.mem_cons_of_mem _ q
  intro m
  induction m with
  | zero =>
    intro i s acc hm hi _ st S fin
    obtain rfl : i = n := by omega
    refine codeAny_builtin PyProof.Rows.F.entry_set_update_loop ?_
    rw [Around.under_plainId PyProof.Rows.F.plain_set_update_loop _]
    refine wpAny_bind (W.done s _ _ st fun s' mv => wpAny_pure (fin s' (mv.mono up) ?_))
    rw [List.drop_of_length_le (by omega)]
    exact S.moved fun o e => mv.heap D o offw e
  | succ m ih =>
    intro i s acc hm hi ha st S fin
    have lt : i < n := by omega
    refine codeAny_builtin PyProof.Rows.F.entry_set_update_loop ?_
    rw [Around.under_plainId PyProof.Rows.F.plain_set_update_loop _]
    refine wpAny_bind (W.item i s _ _ lt st fun v s' pv st' mv => ?_)
    obtain ⟨t, rfl⟩ := is i v pv
    have S' : SetS prog w s'.heap D acc := S.moved fun o e => mv.heap D o offw e
    show wpAny _ A.in1 (holding [Value.str (xs.getD i Str.empty) t] (setAdd D (.str (xs.getD i Str.empty) t)) >>= _) _ _ s'
    refine wpAny_bind (wpAny_holding ?_)
    unfold setAdd
    refine wpAny_holding (wpAny_bind ((PySem.strKind prog w).pyHash (k := xs.getD i Str.empty) (strKind_is _ _ _ _) ?_))
    refine put_txt (s := { s' with toks := s'.toks + 1 }) S' (by omega) fun b h' sb S2 => ?_
    have dr : xs.drop i = xs.getD i Str.empty :: xs.drop (i + 1) := by
      rw [List.drop_eq_getElem_cons (by omega), List.getD_eq_getElem?_getD, List.getElem?_eq_getElem (by omega)]
      rfl
    refine wpAny_pure ⟨plainId_quiet PyProof.Rows.F.plain_set_update_loop _, ih (i + 1) _ (if xs.getD i Str.empty ∈ acc then acc else xs.getD i Str.empty :: acc) (by omega) lt ?_ (W.frame _ s' _ _ st' (Nat.le_succ _) fun b hb o e => ?_) S2 fun s'' mv2 S3 => ?_⟩
    · split
      · omega
      · rw [List.length_cons]; omega
    · rw [sb.2 b fun z => out (z ▸ hb)]; exact e
    · refine fin s'' (Moved.trans W.gtrans ((mv.mono up).then_heap (Nat.le_succ _) fun b o hb e => ?_) mv2) ?_
      · rw [sb.2 b fun z => hb (z ▸ List.mem_cons_self)]; exact e
      · rw [dr]; exact S3
end
end Pg
namespace Pg
open PySem PySem.Spec PyProof.Rows L2 PySem.Froz
section
variable {prog : Program} {w : World} {A : Around} {E : Value → Shared → Prop} {s : Shared}
/-- an empty set as it is laid -/
abbrev set0 (w : World) : Obj := { cls := .type "set", dict := none, data := .set #[] 0 (.fresh 0 0 (!w.params.followText "set-order")) }
theorem code_new1 (x : Value) {Z : Value → Shared → Prop} (h : Z (.ref s.heap.objs.size) { s with heap := s.heap.push (set0 w) }) : codeAny (model prog w) A (.call (.builtin "set.__new__") ⟨[.type "set", x], []⟩) (wants Z E) s := by
  refine codeAny_of_tree ?_
  show wpAny _ A.in1 (do checkBuiltinCall "set.__new__" ⟨[.type "set", x], []⟩; again (.builtin "set.__new__" ⟨[.type "set", x], []⟩)) _ _ s
  refine wpAny_bind (wpAny_of_eq (PySem.F.newCall_set_1 x) (wpAny_pure ⟨plainId_quiet PySem.F.plain_set_new _, codeAny_builtin PySem.F.entry_set_new ?_⟩)); rw [Around.under_plainId PySem.F.plain_set_new _]
  unfold Builtin.«set.__new__» Builtin.Frozenset.newClass
  have _sub := sub_set_self
  obtain ⟨heap, gens, drawn, toks, os⟩ := s; dsimp only; wp_walk
  refine wpAny_askSetting (wpAny_pure ?_); dsimp only; simp only [newObj]
  exact wpAny_bind (wpAny_alloc (wpAny_pure (wpAny_pure h)))
theorem set0_ok {h : Heap} : SetS prog w (h.push (set0 w)) h.objs.size [] := by
  refine ⟨(#[], 0, .fresh 0 0 (!w.params.followText "set-order")), Heap.get?_push_size _ rfl, TxOk.nil (by rfl), ⟨[], rfl, List.Perm.refl _⟩, List.nodup_nil, List.Pairwise.nil, ?_⟩
  show _ ∨ (!w.params.followText "set-order") = true
  cases w.params.followText "set-order" with
  | true => exact .inl rfl
  | false => exact .inr rfl
theorem str_at : ∀ {vs : List Value} {xs : List Str}, StrsAre vs xs → ∀ (i : Nat) (v : Value), vs[i]? = some v → ∃ t, v = .str (xs.getD i Str.empty) t
  | _, _, .nil, i, v, h => by simp at h
  | _, _, .cons n t r, 0, v, h => by
    rw [List.getElem?_cons_zero] at h
    exact ⟨t, (Option.some.inj h).symm⟩
  | _, _, .cons n t r, i + 1, v, h => str_at r i v h
set_option maxHeartbeats 4000000 in
/-- set(xs), xs a list of texts -/
theorem call_set_txt {l : Addr} {items : Array Value} {xs : List Str} {Q : Value → Shared → Prop} (hh : A.handled = none) (hl : s.heap.IsList l items) (his : StrsAre items.toList xs) (few : xs.length + 1 < scanBound)
    (h : ∀ (h' : Heap) (tk : Nat), SetS prog w h' s.heap.objs.size (onceL [] xs) → (∀ b o, s.heap.get? b = some o → h'.get? b = some o) → Q (.ref s.heap.objs.size) { s with heap := h', toks := tk }) :
    wpAny (model prog w) A (call (.type "set") [.ref l]) Q E s := by
  obtain ⟨cc, tt, mro⟩ := PySem.F.called_set.mro
  have g1 := PySem.F.called_set.made; have g2 := PySem.F.called_set.sub
  refine wpAny_call (codeAny_of_tree (wpAny_pure ⟨Code.quiet_builtin _ (by decide +kernel), codeAny_builtin PySem.F.entry_type_call ?_⟩))
  rw [Around.under_plain (weight_type_call_type "set" [.ref l] []) rfl]
  have g3 := PySem.F.called_set.notType; have g4 := PySem.F.called_set.canCreate; have g5 := PySem.F.typeCall_set_1 (.ref l)
  repeat (any_goals (first | assumption | wp_step))
  refine codeAny_mono (code_new1 (prog := prog) (.ref l) (E := E) (Z := fun obj z => obj = .ref s.heap.objs.size ∧ z = { s with heap := s.heap.push (set0 w) }) ⟨rfl, rfl⟩) fun r z hr => ?_
  cases r with
  | error e => exact hr
  | ok fl =>
    cases fl with
    | ret obj =>
      obtain ⟨rfl, rfl⟩ := hr
      have at0 : (s.heap.push (set0 w)).get? s.heap.objs.size = some (set0 w) := Heap.get?_push_size _ rfl
      have ty : Shared.TypeIs { s with heap := s.heap.push (set0 w) } (.ref s.heap.objs.size) "set" := ⟨_, at0, rfl⟩
      have g6 := PySem.F.called_set.init.lookup; have g7 := PySem.F.called_set.init.bind (.ref s.heap.objs.size)
      repeat (any_goals (first | assumption | wp_step))
      refine codeAny_mono (codeAny_call_builtin (R := wants (fun r z => r = .none ∧ ∃ h' tk, z = { s with heap := h', toks := tk } ∧ SetS prog w h' s.heap.objs.size (onceL [] xs) ∧ (∀ b o, s.heap.get? b = some o → h'.get? b = some o)) E)
        PySem.F.called_set.init.plain PySem.F.entry_set_init (check_set_init_1 ty ?_)) fun r2 z2 hr2 => ?_
      · obtain ⟨⟨oc, od, odata, osl⟩, hol, hcl, nl, hdl⟩ := hl
        simp only at hcl hdl
        subst hcl hdl
        have hol2 : (s.heap.push (set0 w)).get? l = some { cls := .type "list", dict := od, data := .seq items nl, slots := osl } := Heap.get?_push_of_some _ hol
        have hl2 : (s.heap.push (set0 w)).IsList l items := ⟨_, hol2, rfl, nl, rfl⟩
        have q1 := PySem.F.sub_list_set; have q2 := PySem.F.sub_list_frozenset
        have q3 : (Value.type "list" == Value.type "dict") = false := by decide
        unfold Builtin.«set.__init__» noKeywords Builtin.Frozenset.updateFrom
        generalize hp : pyIter = pi
        wp_walk
        subst hp
        refine wpAny_pyIter_list hl2 (wpAny_bind (wpAny_runValue ?_))
        have lt : l < s.heap.objs.size := Heap.lt_size hol
        have handled : A.in1.in1.in1.handled = none := by simp [hh]
        have sz1 : (s.heap.push (set0 w)).objs.size = s.heap.objs.size + 1 := Heap.size_push _ _
        have ne : l ≠ (s.heap.push (set0 w)).objs.size := by rw [sz1]; exact Nat.ne_of_lt (Nat.lt_succ_of_lt lt)
        have out : s.heap.objs.size ∉ [(s.heap.push (set0 w)).objs.size, l] := by
          rw [sz1]
          intro m
          rcases List.mem_cons.mp m with m | m
          · exact absurd m (Nat.ne_of_lt (Nat.lt_succ_self _))
          · exact absurd (List.mem_singleton.mp m) (Nat.ne_of_gt lt)
        have len : xs.length = items.size := by rw [← StrsAre.len_eq his, Array.length_toList]
        have is : ∀ (i : Nat) (v : Value), items[i]? = some v → ∃ t, v = .str (xs.getD i Str.empty) t := fun i v hv => str_at his i v (by rw [Array.getElem?_toList]; exact hv)
        refine puts ((Walks.list handled _ l ne items).toS) out xs len (by rw [← len]; exact few) is (items.size - 0) 0 _ [] (by omega) (Nat.zero_le _) (Nat.le_refl _) ⟨⟨_, Heap.get?_push_size _ rfl, rfl, rfl⟩, hl2.push _⟩ (set0_ok.moved fun o e => Heap.get?_push_of_some _ e) ?_
        rintro ⟨h', g', d', tk', os'⟩ mv S
        obtain rfl : g' = s.gens := mv.gens
        obtain rfl : d' = s.drawn := mv.drawn
        obtain rfl : os' = s.os := mv.os
        refine wpAny_pure ?_
        refine wpAny_pure ⟨rfl, h', tk', rfl, S, fun b o e => ?_⟩
        have hb : b < s.heap.objs.size := Heap.lt_size e
        refine mv.heap b o (fun m => ?_) (Heap.get?_push_of_some _ (Heap.get?_push_of_some _ e))
        rcases List.mem_cons.mp m with m | m
        · exact absurd m (Nat.ne_of_lt hb)
        · have q := List.mem_singleton.mp m
          rw [sz1] at q
          exact absurd q (Nat.ne_of_lt (Nat.lt_succ_of_lt hb))
      · cases r2 with
        | error e => exact hr2
        | ok fl2 =>
          cases fl2 with
          | ret r =>
            obtain ⟨rfl, h', tk, rfl, a1, a2⟩ := hr2
            repeat (any_goals (first | assumption | wp_step))
            exact h _ _ a1 a2
          | _ => exact hr2.elim
    | _ => exact hr.elim
end
end Pg
namespace Pg
open PySem PySem.Spec PyProof.Rows L2 PySem.Froz
section
variable {prog : Program} {w : World} {A : Around} {E : Value → Shared → Prop} {s : Shared}
/-- the values of a set of texts, in some order, are texts -/
theorem vals_strs : ∀ {vs : List Value} {ps : List (Str × Tok)}, vs.Perm (ps.map fun p => Value.str p.1 p.2) → StrsAre vs (vs.map strOf) ∧ (vs.map strOf).Perm (ps.map Prod.fst) := fun {vs ps} h => by
  refine ⟨strsAre_map vs fun v m => ?_, ?_⟩
  · obtain ⟨p, _, rfl⟩ := List.mem_map.mp (h.mem_iff.mp m)
    exact ⟨p.1, p.2, rfl⟩
  · have q := h.map strOf
    rw [List.map_map] at q
    exact q.trans (List.Perm.of_eq rfl)
theorem zip_fst {α β : Type} : ∀ (l : List α) (us : List β), us.length = l.length → (l.zip us).map Prod.fst = l
  | [], _, _ => rfl
  | x :: l, [], h => by simp at h
  | x :: l, u :: us, h => by rw [List.zip_cons_cons, List.map_cons, zip_fst l us (by simpa using h)]
/-- sorted(a), a set of texts -/
theorem sorted_txt {a : Addr} {l : List Str} {Q : Value → Shared → Prop} (R : SetS prog w s.heap a l) (hh : A.handled = none) (few : l.length < 4000)
    (h : ∀ z p (out : Array Value) (n : Nat) (ys : List Str), (∀ b o, s.heap.get? b = some o → z.heap.get? b = some o) → z.gens = s.gens → z.os = s.os → s.heap.objs.size ≤ p → z.heap.get? p = some (seqObj "list" out n) →
      StrsAre out.toList ys → ys.Perm l → sortedS ys = true → Q (.ref p) z) : wpAny (model prog w) A (call (.builtin "sorted") [.ref a]) Q E s := by
  obtain ⟨⟨es, ep, t⟩, at_, R⟩ := R
  obtain ⟨us, hu, pm⟩ := R.all
  have sz : es.size = l.length := R.ok.sz
  have scan : es.size < scanBound := by rw [sz]; exact Nat.lt_of_lt_of_le few (by decide)
  refine Calls.call_function_entry kind_sorted plain_sorted entry_sorted (args_sorted1 _) ?_
  unfold Builtin.«sorted»
  refine wpAny_bind (m := checkCount "sorted" 1 1 _) (wpAny_pure (wpAny_bind (collect_set (A := A.in1) hh ⟨_, at_, rfl, rfl⟩ R.ok.fit scan R.ris R.led fun z vs k1 hz g1 o1 pv => ?_)))
  have pv2 : vs.Perm ((l.zip us).map fun p => Value.str p.1 p.2) := by
    have q := pv.trans (pm.map (·.2))
    rw [List.map_map] at q
    exact q
  obtain ⟨st, ps⟩ := vals_strs pv2
  rw [zip_fst l us hu] at ps
  have vlen : vs.length = l.length := by
    have := ps.length_eq
    rwa [List.length_map] at this
  refine wpAny_bind (wpAny_newList ?_ (by rw [vlen, sizeLine_eq]; omega))
  have new : (z.heap.push (seqObj "list" vs.toArray 0)).get? z.heap.objs.size = some (seqObj "list" vs.toArray 0) := Heap.get?_push_size _ rfl
  refine wpAny_bind (wpAny_holding (wpAny_call_entry slot_list_sort ⟨_, new, rfl⟩ entry_list_sort (list_sort_treeKAny strKind_oneLt new st.keysOf (fun v1 v2 rest e => keyKind_strs (by rw [← e]; exact st)) (by rw [vlen, sizeLine_eq]; omega) fun st' hp hs => ?_) (args_list_sort _)))
  obtain ⟨ys, y1, y2, y3⟩ := sorted_out_str st hp hs
  obtain ⟨n, hn⟩ := sortedHeap_at (vs := vs) (out := (arrOf st').map (·.2)) new
  refine ⟨_, rfl, wpAny_pure ⟨_, rfl, h _ z.heap.objs.size _ n ys (fun b o e => ?_) g1 o1 hz hn y1 (y2.trans ps) y3⟩⟩
  have q := k1 b o e
  have lt := Heap.lt_size q
  show (sortedHeap (z.heap.push (seqObj "list" vs.toArray 0)) z.heap.objs.size vs _).get? b = some o
  rw [sortedHeap_old (Nat.ne_of_lt lt) (by rw [size_push']; exact Nat.lt_succ_of_lt lt)]
  exact Heap.get?_push_of_some _ q
end
end Pg
namespace Pg
open PySem PySem.Spec PyProof.Rows L2
/-! ### defs that are called where no text is being written of anything -/
structure FnG (P : Program) (w : World) (K : PySem.W.Frag) (mg : Str → Option Value) (base : Heap) (k : Nat) (f : Addr) (fd : FuncData) (ps : List Str) (sp : Sp) : Prop where
  ln : ∀ vs H Q E, sp vs H Q E → vs.length = ps.length
  go : ∀ (A : Around), A.guards = some [] → Room k A → ∀ (outer : List Env) (s : Shared) (H : Hp), Env0 P w K mg base A outer s H →
    ∀ (args : Args) (us : List Value) (vs : List V) (Q : VK) (E : XK), BindsTo s fd args (ps.zip us) → Vals vs us → sp vs H Q E →
    codeAny (model P w) A (.call (.ref f) args) (CR CX0 outer P w H s Q E) s
section
variable {P : Program} {w : World} {K : PySem.W.Frag} {mg : Str → Option Value} {base : Heap}
theorem FnG.of {k : Nat} {f : Addr} {fd : FuncData} {ps : List Str} {sp : Sp} (F : FnOk P w K mg base CX0 k f fd ps sp) : FnG P w K mg base k f fd ps sp :=
  ⟨F.len, fun A _ r outer s H e args us vs Q E b v h => F.run A outer s H args us vs Q E r e b v h⟩
theorem FnG.mono {j k : Nat} {f : Addr} {fd : FuncData} {ps : List Str} {sp : Sp} (F : FnG P w K mg base j f fd ps sp) (h : j ≤ k) : FnG P w K mg base k f fd ps sp :=
  ⟨F.ln, fun A g r => F.go A g (r.mono h)⟩
/-- a def by its body -/
theorem Df.g {x : Str} {st : Stmt} {f : Addr} {fd : FuncData} {N ps : List Str} {k : Nat} {sp : Sp} (D : Df K mg x st ps f fd) (S : FnScope N ps (defScope st)) (len : ∀ vs H Q E, sp vs H Q E → vs.length = ps.length)
    (hb : ∀ (cdv : Value) (A : Around) (outer : List Env) (s : Shared) (H : Hp) (vs : List V) (Q : VK) (E : XK), (A.deeper (envOfC x (defScope st) s.heap.objs.size f cdv)).guards = some [] →
      Room k (A.deeper (envOfC x (defScope st) s.heap.objs.size f cdv)) → sp vs H Q E →
      ∃ t, PSs (cxOf CX0 P w K mg base N x (defScope st) f cdv A outer s H E).nox (defBody st) t ∧ t { nx := fun _ H' => Q .non H', rt := Q } (start N vs) H) : FnG P w K mg base (k + 1) f fd ps sp := by
  obtain ⟨oc, od, kV, doc, pm, an, cdv, ct, osl, rfl, lk, hcd⟩ := D.fn.ex
  refine ⟨len, fun A g hr outer s H e0 args us vs Q E bt rv hsp => ?_⟩
  have hlen := len _ _ _ _ hsp
  have KX : K.In s.heap := e0.mod.kin.keeps fun b o e => (e0.bs b o e).1
  have lim : s.heap.NoLimit := e0.mod.nolimit.keeps fun b o e => (e0.bs b o e).1
  refine codeAny_call_function hr.depth (KX _ _ lk) rfl S.co S.gen rfl (PySem.W.codeRec_of KX hcd) (bt _ _ _ _ ?_)
  refine wpAny_newFunctionEnv_cells S.kind (fun y hy => ?_) fun env he s1 x1 => ?_
  · have hp : y.1 ∈ ps := (List.of_mem_zip (show (y.1, y.2) ∈ ps.zip us from hy)).1
    refine (S.par y.1 hp).imp id fun q => ⟨q, ?_⟩
    exact PySem.W.cellsFrom_some _ _ _ (.inl q)
  subst he
  refine ⟨lim.keeps x1.toInCall.keep, codeAny_func ?_⟩
  obtain ⟨t, ht, hq⟩ := hb cdv A outer s H vs Q E (by rw [← g]; rfl) (hr.deeper _) hsp
  refine wpAny_mono (ht.nox.run [] s1 (start N vs) H _ (inv_start S hr.hd e0 hlen rv x1) hq) (fun fl s' hs => ?_) fun e s' hs => hs
  cases fl with
  | ret u =>
    obtain ⟨v, σ', H', J, rv', q⟩ := hs
    exact ⟨v, H', J.os, J.bare, J.base, J.hok, rv', q⟩
  | next =>
    obtain ⟨σ', H', J, q⟩ := hs
    exact ⟨.non, H', J.os, J.bare, J.base, J.hok, rfl, q⟩
  | brk =>
    obtain ⟨_, _, _, q⟩ := hs
    exact q.elim
  | cont =>
    obtain ⟨_, _, _, q⟩ := hs
    exact q.elim
end
/-- a def of the text with such a promise -/
structure ClG (P : Program) (w : World) (K : PySem.W.Frag) (mg : Str → Option Value) (base : Heap) (k : Nat) (x : Str) (st : Stmt) (ps : List Str) (sp : Sp) : Prop where
  ex : ∃ f fd, Df K mg x st ps f fd ∧ FnG P w K mg base k f fd ps sp
section
variable {X : Cx} {j k : Nat} {st : Stmt} {f : Addr} {fd : FuncData} {ps : List Str} {sp : Sp} {x : Str} {p pos : Pos} {e : Expr} {es : List Expr} {t : TA}
theorem run_g {pins : List (Addr × Obj)} {σ : L2.St} {H : Hp} {s : Shared} {Q : VK} {us : List Value} {vs : List V} (F : FnG X.prog X.w X.K X.mg X.base k f fd ps sp) (hG : X.A.guards = some []) (hr : Room k X.A) (hb : Binds X.K fd ps [])
    (I : Inv X pins σ H s) (r : Vals vs us) (h : sp vs H Q E0) : wpAny (model X.prog X.w) X.A (call (.ref f) us) (EP X pins σ Q) X.xe s := by
  have hl : (us ++ []).length = ps.length := by rw [List.append_nil, ← r.length]; exact F.ln _ _ _ _ h
  have bt := hb s us I.kIn hl
  rw [List.append_nil] at bt
  refine wpAny_call (codeAny_mono (F.go X.A hG hr X.stack s H I.env0 ⟨us, []⟩ us vs Q E0 bt r h) fun r s' hq => ?_)
  cases r with
  | error e => exact (pass0 (X := X) pins σ H s e s' I hq)
  | ok fl =>
    cases fl with
    | ret u => exact I.after hq
    | next => exact hq.elim
    | brk => exact hq.elim
    | cont => exact hq.elim
theorem pe_clG (c : ClG X.prog X.w X.K X.mg X.base k x st ps sp) (hG : X.A.guards = some []) (hr : Room j X.A) (hk : k ≤ j) (ha : PA X (e :: es) t) (hg : Gl X x := by rfl) (hdb : (x == ("__debug__" : Str)) = false := by decide)
    (he : starEach (e :: es) X.env = (false, eval e X.env) :: starEach es X.env := by rfl) (hpl : (backTo pos (starEach es X.env)).any (·.1) = false := by rfl) :
    PE X (.Call (.Name x p) (e :: es) [] pos) (tCl sp t) := by
  obtain ⟨f, fd, D, F⟩ := c.ex
  refine ⟨fun pins s σ H Q I h => ?_⟩
  refine wpAny_Call_Name_kw (ld_glob I hg D.at_ ?_ hdb)
  refine PySem.W.callWith_K (h₀ := X.base) I.ok.mod.kin D.fn.kp (thn (ha.run pos pins s σ H _ I h) fun us s1 ⟨vs, H1, I1, r, q⟩ => ⟨I1.kIn, ?_⟩) he hpl
  exact run_g (F.mono hk) hG hr D.bd I1 r q
end
end Pg
namespace Pg
open PySem PySem.Spec PyProof.Rows L2
/-! ### the end of a law, from a promise that is kept where no text is being written -/
section
variable {P : Program} {w : World} {K : PySem.W.Frag} {mg mb : Str → Option Value} {h : Heap} {a : Addr} {ob : Obj} {xs : List V}
/-- what is known of the store at first: the script, where it is no object of the module -/
def H0 (K : PySem.W.Frag) (a : Addr) (ob : Obj) (xs : List V) : Hp := fun b => if b = a ∧ K.lookup a = none then some (.frz ob (.lst xs)) else none
theorem h0_cases (b : Addr) : H0 K a ob xs b = none ∨ (b = a ∧ K.lookup a = none ∧ H0 K a ob xs b = some (.frz ob (.lst xs))) := by
  by_cases c : b = a ∧ K.lookup a = none
  · exact .inr ⟨c.1, c.2, if_pos c⟩
  · exact .inl (if_neg c)
theorem h0_none {b : Addr} (n : b ≠ a) : H0 K a ob xs b = none := if_neg fun c => n c.1
theorem h0_base {b : Addr} {o : Obj} (e : h.get? b = some o) (n : H0 K a ob xs b = none) : (hidT h (H0 K a ob xs)).get? b = some o := hidT_get e n
theorem h0_ns {b : Addr} {m : Str → Option Value} {l : List Value} {n : Nat} (ha : h.get? a = some { cls := .type "list", data := .seq l.toArray n }) (q : h.Ns b m) : (hidT h (H0 K a ob xs)).Ns b m := by
  obtain ⟨o, es, ep, e, d, r⟩ := q
  refine ⟨o, es, ep, h0_base e (h0_none fun z => ?_), d, r⟩
  subst z
  rw [ha] at e
  cases e
  exact Data.noConfusion d
theorem law_g {k : Nat} {fa : Addr} {fd : FuncData} {x : Str} {sp : Sp} {s₁ : Shared} {vs : List Value} {ns : List Int}
    (KX : K.In s₁.heap) (hns : s₁.heap.Ns mainGlobals mg) (hb : s₁.heap.Ns builtinsNs mb) (hbb : ∀ x : Str, x ≠ "__name__" → mb x = bootBuiltins x) (hlim : s₁.heap.NoLimit) (hg : s₁.gens = #[])
    (ha : s₁.heap.get? a = some { cls := .type "list", data := .seq vs.toArray }) (hi : IntsAre vs ns) (hl : ns.length ≤ sizeLine) (hr : Room k callerA)
    (F : ∀ base : Heap, K.In base → base.Ns mainGlobals mg → FnG P w K mg base k fa fd [x] sp) (hbind : ∀ (s : Shared) (u : Value), BindsTo s fd ⟨[u], []⟩ [(x, u)])
    (hsp : ∀ H : Hp, L2.Only H → SqL K H a (ns.map V.int) → sp [.ref a] H (fun v _ => v = .bl true) fun _ _ _ => False) :
    codeAny (model P w) callerA (.call (.ref fa) ⟨[.ref a], []⟩) (fun r s' => r = .ok (.ret (.bool true)) ∧ OldK s₁.heap s'.heap ∧ s'.os = s₁.os ∧ AllBare s'.gens) s₁ := by
  have rv := vals_ints hi
  have hlen : (ns.map V.int).length ≤ sizeLine := by rw [List.length_map]; exact hl
  have hK : K.In (hidT s₁.heap (H0 K a { cls := .type "list", data := .seq vs.toArray } (ns.map V.int))) := fun b o e => h0_base (KX b o e) (by
    rcases h0_cases (K := K) (a := a) (ob := { cls := .type "list", data := .seq vs.toArray }) (xs := ns.map V.int) b with q | ⟨rfl, q, _⟩
    · exact q
    · rw [q] at e
      cases e)
  have hM : Mod K mg (hidT s₁.heap (H0 K a { cls := .type "list", data := .seq vs.toArray } (ns.map V.int))) := by
    obtain ⟨mc, l1, l2⟩ := hlim
    exact ⟨hK, h0_ns ha hns, ⟨mb, h0_ns ha hb, hbb⟩, ⟨mc, h0_ns ha l1, l2⟩⟩
  have hok : HOk P w (H0 K a { cls := .type "list", data := .seq vs.toArray } (ns.map V.int)) s₁.heap := fun b u z => by
    rcases h0_cases (K := K) (a := a) (ob := { cls := .type "list", data := .seq vs.toArray }) (xs := ns.map V.int) b with q | ⟨rfl, _, q⟩
    · rw [q] at z
      cases z
    · rw [q] at z
      cases z
      exact ⟨ha, hlen, vs, _, rv, ha⟩
  have e0 : Env0 P w K mg (hidT s₁.heap (H0 K a { cls := .type "list", data := .seq vs.toArray } (ns.map V.int))) callerA [] s₁ (H0 K a { cls := .type "list", data := .seq vs.toArray } (ns.map V.int)) :=
    ⟨rfl, hM, fun b o e => of_hidT e, Nat.le_of_eq (hidT_size _ _), trivial, fun b z => absurd (show b ∈ ([] : List Addr) from z) (by simp), hok, .of_eq hg⟩
  have hO : L2.Only (H0 K a { cls := .type "list", data := .seq vs.toArray } (ns.map V.int)) := fun b => by
    rcases h0_cases (K := K) (a := a) (ob := { cls := .type "list", data := .seq vs.toArray }) (xs := ns.map V.int) b with q | ⟨_, _, q⟩
    · exact .inl q
    · exact .inr ⟨_, _, q⟩
  have hS : SqL K (H0 K a { cls := .type "list", data := .seq vs.toArray } (ns.map V.int)) a (ns.map V.int) := by
    cases hk : K.lookup a with
    | none => exact .inl (.inr ⟨_, if_pos ⟨rfl, hk⟩⟩)
    | some o =>
      have e := KX a o hk
      rw [ha] at e
      cases e
      exact .inr ⟨_, vs.toArray, _, hk, rfl, rfl, rfl, by rw [List.size_toArray, hi.length]; exact hl, by simpa using rv⟩
  refine codeAny_mono ((F _ hK (h0_ns ha hns)).go callerA rfl hr [] s₁ _ e0 ⟨[.ref a], []⟩ [.ref a] [.ref a] _ _ (hbind s₁ (.ref a)) (.cons rfl .nil) (hsp _ hO hS)) fun r s' q => ?_
  cases r with
  | error e => exact q.elim
  | ok fl =>
    cases fl with
    | next => exact q.elim
    | brk => exact q.elim
    | cont => exact q.elim
    | ret u =>
      obtain ⟨v, H', os, bare, un, hok', r', q⟩ := q
      have q' : v = .bl true := q
      subst q'
      obtain rfl : u = Value.bool true := r'
      refine ⟨rfl, OldK.of_keep fun b o e => ?_, os, bare⟩
      rcases h0_cases (K := K) (a := a) (ob := { cls := .type "list", data := .seq vs.toArray }) (xs := ns.map V.int) b with z | ⟨_, _, z⟩
      · exact un.keep b o e z (fun z => absurd (show b ∈ ([] : List Addr) from z) (by simp)) (by simp)
      · obtain ⟨e1, _⟩ := hok b _ z
        obtain ⟨e2, _⟩ := hok' b _ (un.frzs b _ _ z)
        rw [e] at e1
        cases e1
        exact e2
end
/-- the goal that the end of a law leaves -/
theorem walk_g {l : PySem.W.OpenLaw} {n k : Nat} {q : Program} {loose : List Str} {XP : (Str → Option Value) → Heap → Prop} {YP : World → Heap → Prop} {d : DefRec} {K : Params → PySem.W.Frag} {sp : World → Sp} {x : Str}
    (hn : l.most = some n) (hn2 : n ≤ sizeLine) (hdf : d.params.defaults = []) (hr : Room k callerA) (hY : ∀ (w : World) (h : Heap), YP w h → (K w.params).In h)
    (F : ∀ (w : World) (mg : Str → Option Value) (fa : Addr) (h : Heap), (K w.params).In h → h.Ns mainGlobals mg → mg d.name = some (.ref fa) →
      ∃ fd : FuncData, (∀ (s : Shared) (u : Value), BindsTo s fd ⟨[u], []⟩ [(x, u)]) ∧ ∀ base : Heap, (K w.params).In base → base.Ns mainGlobals mg → FnG l.prog w (K w.params) mg base k fa fd [x] (sp w))
    (hsp : ∀ (w : World) (H : Hp) (a : Addr) (ns : List Int), ns.length ≤ n → L2.Only H → SqL (K w.params) H a (ns.map V.int) → sp w [.ref a] H (fun v _ => v = .bl true) fun _ _ _ => False) :
    PySem.W.WalkO q loose XP YP l.row.toRowW d [] (fun f vs => PySem.call f vs) :=
  Att.attach_call hn hdf fun w _ s₁ mg _ fa _ _ _ _ a _ ns G Y _ _ _ hmg hobj hints hlen hg => by
    obtain ⟨fd, hb, hF⟩ := F w mg fa _ (hY w _ Y) G.T.g hmg
    exact law_g (hY w _ Y) G.T.g G.T.b G.T.builtins G.T.nolimit hg hobj hints (Nat.le_trans hlen hn2) hr hF hb fun H hO hS => hsp w H a ns hlen hO hS
end Pg
namespace Pg
open PySem PySem.Spec PyProof.Rows L2
/-! ### repr of data -/
mutual
theorem dp_plain {K : PySem.W.Frag} {H : Hp} : ∀ (d : PyData) {v : V}, Dp K H v d → d.hasDict = false
  | .none, _, _ => by simp only [PyData.hasDict]
  | .bool _, _, _ => by simp only [PyData.hasDict]
  | .int _, _, _ => by simp only [PyData.hasDict]
  | .str _, _, _ => by simp only [PyData.hasDict]
  | .list ds, _, h => by
    cases h with
    | lst _ q =>
      simp only [PyData.hasDict]
      exact dps_plain ds q
  | .tuple ds, _, h => by
    cases h with
    | tup _ q =>
      simp only [PyData.hasDict]
      exact dps_plain ds q
  | .dict _, _, h => by cases h
theorem dps_plain {K : PySem.W.Frag} {H : Hp} : ∀ (ds : List PyData) {vs : List V}, DpAll K H vs ds → PyData.hasDictAll ds = false
  | [], _, _ => by simp only [PyData.hasDictAll]
  | d :: ds, _, h => by
    cases h with
    | cons a b => simp only [PyData.hasDictAll, dp_plain d a, dps_plain ds b, Bool.or_self]
end
def rRepr (K : PySem.W.Frag) : List V → Hp → VK → Prop := fun xs H Q => ∃ v d, xs = [v] ∧ Dp K H v d ∧ d.showable = true ∧ d.depth ≤ 100 ∧ d.shown.length ≤ sizeLine ∧ Q (.str d.shown) H
theorem call_repr {X : Cx} {j : Nat} (hG : X.A.guards = some []) (hr : Room j X.A) : CallR X (.builtin "repr") (rRepr X.K) := by
  intro pins s σ H xs us Q I r h
  obtain ⟨v, d, rfl, dp, sh, dd, sz, q⟩ := h
  obtain ⟨u, rfl, rv⟩ := vals1 r
  have hu : X.A.units + (d.depth + 1) < cLine := by have := hr.un; omega
  obtain ⟨as, rd⟩ := Dp.reads I d v u dp rv
  have nd : d.hasDict = true → sysModules ∉ as := PyData.noDict_hsm (dp_plain d dp)
  have deep : ∀ a, u = .ref a → wpAny (model X.prog X.w) X.A (call (.builtin "repr") [u]) (EP X pins σ Q) X.xe s := fun a e => by
    subst e
    exact repr_of_reads' rd sh nd hG hu (fun _ _ e => e) (fun h' t tk k => ⟨.str d.shown, H, I.kept k, ⟨t, rfl⟩, q⟩) sz
  cases rd with
  | none => exact PySem.P.repr_of_none ⟨.str _, H, I.tok _, ⟨_, rfl⟩, by simpa only [PyData.shown] using q⟩
  | bool b => exact PySem.P.repr_of_bool ⟨.str _, H, I.tok _, ⟨_, rfl⟩, by simpa only [PyData.shown] using q⟩
  | int i t => exact PySem.P.repr_of_int (by simpa [PyData.showable] using sh) ⟨.str _, H, I.tok _, ⟨_, rfl⟩, by simpa only [PyData.shown] using q⟩
  | str x t => exact PySem.P.repr_of_str ⟨.str _, H, I.tok _, ⟨_, rfl⟩, by simpa only [PyData.shown] using q⟩ (by simpa only [PyData.shown] using sz)
  | list _ _ _ _ => exact deep _ rfl
  | tuple _ _ _ _ => exact deep _ rfl
  | dict _ _ _ _ _ => exact deep _ rfl
-- a bound for the signs of data whose texts are short: 4 more for every part, 402 for a text
mutual
def dW : PyData → Nat
  | .none => 4
  | .bool _ => 5
  | .int _ => 30
  | .str _ => 402
  | .list ds => dWs ds + 4
  | .tuple ds => dWs ds + 4
  | .dict _ => 0
def dWs : List PyData → Nat
  | [] => 0
  | d :: ds => dW d + 2 + dWs ds
end
-- no ints, texts of 40 letters at most
mutual
inductive Neat : PyData → Prop
  | non : Neat .none
  | bl (b : Bool) : Neat (.bool b)
  | str {x : Str} (h : x.length ≤ 40) (c : ∀ n ∈ x.cps.toList, n < 16 ^ 8) : Neat (.str x)
  | lst {ds : List PyData} : Neats ds → Neat (.list ds)
  | tup {ds : List PyData} : Neats ds → Neat (.tuple ds)
inductive Neats : List PyData → Prop
  | nil : Neats []
  | cons {d : PyData} {ds : List PyData} : Neat d → Neats ds → Neats (d :: ds)
end
mutual
theorem neat_sh : ∀ (d : PyData), Neat d → d.showable = true
  | .none, _ => by simp only [PyData.showable]
  | .bool _, _ => by simp only [PyData.showable]
  | .str _, _ => by simp only [PyData.showable]
  | .int _, h => by cases h
  | .list ds, .lst q => by
    simp only [PyData.showable]
    exact neats_sh ds q
  | .tuple ds, .tup q => by
    simp only [PyData.showable]
    exact neats_sh ds q
  | .dict _, h => by cases h
theorem neats_sh : ∀ (ds : List PyData), Neats ds → PyData.showableAll ds = true
  | [], _ => by simp only [PyData.showableAll]
  | d :: ds, .cons a b => by simp only [PyData.showableAll, neat_sh d a, neats_sh ds b, Bool.and_self]
end
theorem textFrom_le : ∀ (ts : List Str) (k : Nat) (acc : Str), (textFrom k acc ts).length ≤ acc.length + (ts.map fun t => t.length + 2).sum
  | [], k, acc => by
    show acc.length ≤ _
    simp
  | t :: ts, k, acc => by
    have ih := textFrom_le ts (k + 1) (acc ++ (if k > 0 then ", " else "" : String) ++ t)
    have e : (acc ++ (if k > 0 then ", " else "" : String) ++ t).length ≤ acc.length + 2 + t.length := by
      rw [strLen_append, strLen_append]
      by_cases c : k > 0
      · rw [if_pos c]
        have : (Str.ofString ", ").length = 2 := rfl
        omega
      · rw [if_neg c]
        have : (Str.ofString "").length = 0 := rfl
        omega
    rw [List.map_cons, List.sum_cons]
    show (textFrom (k + 1) (acc ++ (if k > 0 then ", " else "" : String) ++ t) ts).length ≤ _
    omega
theorem piled_sum : ∀ ts : List Str, piled ts = (ts.map fun t => t.length + 2).sum
  | [] => rfl
  | t :: ts => by simp [piled, piled_sum ts]
theorem tupleText_le (ts : List Str) : (tupleText ts).length ≤ (ts.map fun t => t.length + 2).sum + 4 := by
  have e1 : (Str.ofString "(").length = 1 := rfl
  have e2 : (Str.ofString (if ts.length == 1 then ",)" else ")")).length ≤ 2 := by split <;> decide
  have e3 : (Str.join (Str.ofString ", ") ts).length ≤ (ts.map fun t => t.length + 2).sum := by
    cases ts with
    | nil => exact Nat.zero_le _
    | cons t ts =>
      have q := join_length_add (t :: ts) (by simp)
      rw [piled_sum] at q
      omega
  unfold tupleText
  rw [strLen_append, strLen_append]
  omega
theorem listText_le (ts : List Str) : (listText ts).length ≤ (ts.map fun t => t.length + 2).sum + 4 := by
  have e1 : (Str.ofString "[").length = 1 := rfl
  have e2 : (Str.ofString "]").length = 1 := rfl
  have q := textFrom_le ts 0 (Str.ofString "[")
  show (textFrom 0 "[" ts ++ "]").length ≤ _
  rw [strLen_append]
  omega
mutual
theorem neat_le : ∀ (d : PyData), Neat d → d.shown.length ≤ dW d
  | .none, _ => by
    simp only [PyData.shown, dW]
    decide
  | .bool b, _ => by
    cases b <;> simp only [PyData.shown, dW] <;> decide
  | .str x, .str h c => by
    simp only [PyData.shown, dW]
    have := StrLaws.reprText_len x c
    omega
  | .int _, h => by cases h
  | .list ds, .lst q => by
    simp only [PyData.shown, dW]
    have a := listText_le (PyData.shownAll ds)
    have b := neats_le ds q
    omega
  | .tuple ds, .tup q => by
    simp only [PyData.shown, dW]
    have a := tupleText_le (PyData.shownAll ds)
    have b := neats_le ds q
    omega
  | .dict _, h => by cases h
theorem neats_le : ∀ (ds : List PyData), Neats ds → ((PyData.shownAll ds).map fun t => t.length + 2).sum ≤ dWs ds
  | [], _ => by
    simp only [PyData.shownAll, dWs]
    decide
  | d :: ds, .cons a b => by
    have p := neat_le d a
    have q := neats_le ds b
    simp only [PyData.shownAll, dWs, List.map_cons, List.sum_cons]
    omega
end
/-- repr of data with short texts and no ints -/
def rNeat (K : PySem.W.Frag) : List V → Hp → VK → Prop := fun xs H Q => ∃ v d, xs = [v] ∧ Dp K H v d ∧ Neat d ∧ d.depth ≤ 100 ∧ dW d ≤ 10000000 ∧ Q (.str d.shown) H
theorem call_repr_neat {X : Cx} {j : Nat} (hG : X.A.guards = some []) (hr : Room j X.A) : CallR X (.builtin "repr") (rNeat X.K) := fun pins s σ H xs us Q I r h => by
  obtain ⟨v, d, e, dp, n, dd, sz, q⟩ := h
  exact call_repr hG hr pins s σ H xs us Q I r ⟨v, d, e, dp, neat_sh d n, dd, Nat.le_trans (neat_le d n) (Nat.le_trans sz (by decide)), q⟩
end Pg
namespace Pg
open PySem PySem.Spec PyProof.Rows L2
/-! ### sorted(set(xs)), texts -/
theorem once_nodup : ∀ (xs acc : List Str), acc.Nodup → (onceL acc xs).Nodup
  | [], _, h => h
  | x :: xs, acc, h => by
    show (onceL (if x ∈ acc then acc else x :: acc) xs).Nodup
    refine once_nodup xs _ ?_
    by_cases c : x ∈ acc
    · rw [if_pos c]
      exact h
    · rw [if_neg c]
      exact List.nodup_cons.mpr ⟨c, h⟩
theorem txt_lt_of {a b : List Nat} (n : ¬ b < a) (d : a ≠ b) : a < b := by
  by_cases h : a < b
  · exact h
  · exact absurd (List.le_antisymm (List.not_lt.mp n) (List.not_lt.mp h)) d
theorem rising_pw : ∀ (zs : List (List Nat)) (p : List Nat), (p :: zs).Nodup → risingS (tx p) (zs.map tx) = true → (p :: zs).Pairwise (· < ·)
  | [], p, _, _ => List.pairwise_singleton _ _
  | z :: zs, p, nd, h => by
    have h' : (!ltCps z p && risingS (tx z) (zs.map tx)) = true := by simpa [risingS] using h
    rw [ltCps_eq] at h'
    obtain ⟨h1, h2⟩ := Bool.and_eq_true_iff.mp h'
    obtain ⟨n1, n2⟩ := List.nodup_cons.mp nd
    have ih := rising_pw zs z n2 h2
    have pz : p < z := txt_lt_of (by simpa using h1) fun e => n1 (by rw [e]; exact List.mem_cons_self)
    refine List.pairwise_cons.mpr ⟨fun y m => ?_, ih⟩
    rcases List.mem_cons.mp m with rfl | m
    · exact pz
    · exact List.lt_trans pz ((List.pairwise_cons.mp ih).1 y m)
theorem sorted_pw {ls : List (List Nat)} {ys : List Str} (pm : ys.Perm (onceL [] (ls.map tx))) (so : sortedS ys = true) : ∃ zs : List (List Nat), ys = zs.map tx ∧ zs.Pairwise (· < ·) ∧ (∀ l, l ∈ zs ↔ l ∈ ls) ∧ zs.length ≤ ls.length := by
  have e : ys = (ys.map fun s => s.cps.toList).map tx := by
    rw [List.map_map]
    conv => lhs; rw [← List.map_id ys]
    rfl
  have nd : ys.Nodup := pm.nodup_iff.mpr (once_nodup _ _ List.nodup_nil)
  have mem : ∀ s, s ∈ ys ↔ s ∈ ls.map tx := fun s => by
    rw [pm.mem_iff, once_mem]
    simp
  refine ⟨ys.map fun s => s.cps.toList, e, ?_, fun l => ?_, ?_⟩
  · have nd2 : (ys.map fun s => s.cps.toList).Nodup := by
      rw [e] at nd
      exact List.Pairwise.of_map tx (fun a b h e => h (by rw [e])) nd
    revert nd2
    rw [e] at so
    generalize (ys.map fun s => s.cps.toList) = zs at so
    intro nd2
    cases zs with
    | nil => exact List.Pairwise.nil
    | cons z zs => exact rising_pw zs z nd2 so
  · constructor
    · intro m
      obtain ⟨s, m1, rfl⟩ := List.mem_map.mp m
      obtain ⟨l, m2, rfl⟩ := List.mem_map.mp ((mem s).mp m1)
      simpa using m2
    · intro m
      exact List.mem_map.mpr ⟨tx l, (mem _).mpr (List.mem_map.mpr ⟨l, m, rfl⟩), by simp⟩
  · rw [List.length_map, pm.length_eq]
    have := once_len (ls.map tx) []
    simpa using this
/-- sorted(set(xs)): xs texts, under 64 of them; strictly ascending -/
def tSS (K : PySem.W.Frag) (te : TE) : TE := fun σ H Q => te σ H fun v H1 => ∃ (a : Addr) (ls : List (List Nat)), v = .ref a ∧ SqL K H1 a (ls.map Tx) ∧ ls.length < 4000 ∧
  ∀ (zs : List (List Nat)) (p : Addr), zs.Pairwise (· < ·) → (∀ l, l ∈ zs ↔ l ∈ ls) → zs.length ≤ ls.length → H1 p = none → Q (.ref p) (upd H1 p (.lst (zs.map Tx)))
theorem pe_sortset {X : Cx} {e : Expr} {te : TE} {p p2 pos pos2 : Pos} (hh : X.A.handled = none) (g1 : Gl X "sorted") (m1 : X.mg "sorted" = none) (g2 : Gl X "set") (m2 : X.mg "set" = none) (he : PE X e te)
    (hs : starEach [e] X.env = (false, eval e X.env) :: starEach [] X.env := by rfl)
    (hs2 : starEach [Expr.Call (.Name "set" p2) [e] [] pos2] X.env = (false, eval (Expr.Call (.Name "set" p2) [e] [] pos2) X.env) :: starEach [] X.env := by rfl) :
    PE X (.Call (.Name "sorted" p) [.Call (.Name "set" p2) [e] [] pos2] [] pos) (tSS X.K te) := by
  refine ⟨fun pins s σ H Q I h => ?_⟩
  refine wpAny_Call_Name_kw (ld_blt I g1 m1 (by rfl) ?_ (by decide) (by decide))
  refine PyProof.Rows.callWith_builtin1 ?_ hs2 (by rfl)
  rw [hs2]
  show wpAny _ _ (spliced ((false, eval (Expr.Call (.Name "set" p2) [e] [] pos2) X.env) :: backTo pos (starEach [] X.env))) _ _ s
  refine Calls.spliced_cons ?_
  refine wpAny_Call_Name_kw (ld_blt I g2 m2 (by rfl) ?_ (by decide) (by decide))
  refine PyProof.Rows.callWith_type1 ?_ hs (by rfl)
  rw [hs]
  show wpAny _ _ (spliced ((false, eval e X.env) :: backTo pos2 (starEach [] X.env))) _ _ s
  refine Calls.spliced_cons (thn (he.run pins s σ H _ I h) fun u s1 ⟨v, H1, I1, r1, q1⟩ => Calls.spliced_nil ?_)
  obtain ⟨a, ls, rfl, hl, few, q⟩ := q1
  obtain rfl : u = .ref a := r1
  obtain ⟨its, rv, pl, _⟩ := I1.list hl
  have st : StrsAre its.toArray.toList (ls.map tx) := by
    have : ls.map Tx = (ls.map tx).map V.str := by rw [List.map_map]; rfl
    rw [this] at rv
    exact rv.strs
  refine call_set_txt hh pl.isList st (by rw [List.length_map]; exact Nat.lt_of_lt_of_le (Nat.succ_lt_succ few) (by decide)) fun h' tk S k => ?_
  refine Calls.spliced_nil ?_
  have few2 : (onceL [] (ls.map tx)).length < 4000 := by
    have := once_len (ls.map tx) []
    rw [List.length_map] at this
    simp at this
    omega
  refine sorted_txt (s := { s1 with heap := h', toks := tk }) S hh few2 fun z p out n ys k2 hg ho hp hat hst pm so => ?_
  obtain ⟨zs, rfl, pw, mem, len⟩ := sorted_pw pm so
  have k3 : ∀ b u, s1.heap.get? b = some u → z.heap.get? b = some u := fun b u e => k2 b u (k b u e)
  have sz : s1.heap.objs.size ≤ p := by
    obtain ⟨D, at_, _⟩ := S
    exact Nat.le_trans (Nat.le_of_lt (Heap.lt_size at_)) hp
  have fr := I1.hok.fresh sz
  refine ⟨.ref p, upd H1 p (.lst (zs.map Tx)), ?_, rfl, q zs p pw mem len fr⟩
  have ok : ObjOk X.prog X.w (upd H1 p (.lst (zs.map Tx))) z.heap p (.lst (zs.map Tx)) :=
    ⟨by rw [List.length_map]; exact Nat.le_trans len (Nat.le_of_lt (Nat.lt_of_lt_of_le few (by decide))), out.toList, n, by
      have := vals_of_strs hst
      rw [List.map_map] at this
      exact this, hat⟩
  exact I1.call' (ch := []) ho (Un.laid k3 sz fr) (I1.hok.laid k3 sz ok) (by rw [hg]; exact I1.bare) (fun b z => absurd z (by simp))
end Pg
namespace Pg
open PySem PySem.Spec PyProof.Rows L2
/-! ### comprehensions that give values -/
theorem sql_up {K : PySem.W.Frag} {H H' : Hp} {a : Addr} {xs : List V} (s : Stp [] H H') (h : SqL K H a xs) : SqL K H' a xs := by
  rcases h with (h | ⟨o, h⟩) | h
  · exact .inl (.inl (s.kp _ _ (fun m => nomatch m) h))
  · exact .inl (.inr ⟨o, s.kp _ _ (fun m => nomatch m) h⟩)
  · exact .inr h
theorem ix_listK {X : Cx} {K : PySem.W.Frag} (hK : X.K = K) : IxR X (rIxL K) := by
  subst hK
  exact ix_list
theorem tn {σ : L2.St} {H : Hp} {Q : List V → Hp → Prop} (h : Q [] H) : tNil σ H Q := h
theorem RpL.snoc {K : PySem.W.Frag} {H : Hp} {vs : List V} {ds : List Dt} {i : Nat} {v : V} {d : Dt} (r : RpL K H vs (ds.take i)) (e : ds[i]? = some d) (h : Rp K H v d) : RpL K H (vs ++ [v]) (ds.take (i + 1)) := by
  rw [List.take_add_one, e]
  exact r.app (.cons h .nil)
theorem rpl_strs {K : PySem.W.Frag} {H : Hp} : ∀ {ls : List (List Nat)} {vs : List V}, RpL K H vs (ls.map Dt.str) → vs = ls.map Tx
  | [], _, .nil => rfl
  | l :: ls, _, .cons h r => by
    cases h
    rw [List.map_cons, rpl_strs r]
theorem rpl_bls {K : PySem.W.Frag} {H : Hp} : ∀ {bs : List Bool} {vs : List V}, RpL K H vs (bs.map Dt.bl) → vs = bs.map V.bl
  | [], _, .nil => rfl
  | b :: bs, _, .cons h r => by
    cases h
    rw [List.map_cons, rpl_bls r]
section
variable {K : PySem.W.Frag} {a : Addr} {xs : List V} {ds : List Dt} {g : TG} {te : TE} {vs : List Nat} {σ : L2.St} {H1 : Hp} {D : Addr} {Qd : Hp → Prop}
theorem lc_mapL (nD : H1 D = none) (hs : SqL K H1 a xs) (hl : ds.length = xs.length) (hz : xs.length ≤ 90000)
    (step : ∀ (i : Nat) x d H, xs[i]? = some x → ds[i]? = some d → Stp [] H1 H → ∀ Q : VK, (∀ y H', Stp [] H H' → Rp K H' y d → Q y H') → g x (wipe σ vs) H fun σ2 H2 => wipe σ2 vs = wipe σ vs ∧ te σ2 H2 Q)
    (hd : ∀ ws H, Stp [] H1 H → H D = some (.lst ws) → RpL K H ws ds → Qd H) :
    ∃ W : Nat → Nat → Hp → Prop, (∃ m, W 0 m (upd H1 D (.lst []))) ∧ ∀ i m H, W i m H →
      ((Itl K a).stop i H ∧ Qd H) ∨ ((Itl K a).go i H ∧ ∃ Nx : Hp → Prop, (∀ H', Nx H' → ∃ m', m' < m ∧ W (i + 1) m' H') ∧ ∀ x H', (Itl K a).yld i H x H' → g x (wipe σ vs) H' fun σ2 H2 => wipe σ2 vs = wipe σ vs ∧ tYes σ2 H2 fun b H3 =>
        if b = true then te σ2 H3 fun y H4 => ∃ acc, H4 D = some (.lst acc) ∧ acc.length < sizeLine ∧ Nx (upd H4 D (.lst (acc ++ [y]))) else Nx H3) := by
  refine lc_list (a := a) (xs := xs) (fun i H => ∃ ws, H D = some (.lst ws) ∧ RpL K H ws (ds.take i) ∧ Stp [] H1 H) ⟨[], upd_same, .nil, Stp.new nD _⟩ (fun i H _ ⟨_, _, _, S⟩ => sql_up S hs) ?_ ?_
  · rintro i x H hi ⟨ws, hL, rv, S⟩
    have il : i < ds.length := by rw [hl]; exact (List.getElem?_eq_some_iff.mp hi).1
    refine step i x ds[i] H hi (List.getElem?_eq_getElem il) S _ fun y H' S' ry => ?_
    refine ⟨ws, S'.kp _ _ (fun m => nomatch m) hL, ?_, ws ++ [y], upd_same, ?_, (S.trans S').mut nD⟩
    · rw [rv.len, List.length_take]
      exact Nat.lt_of_le_of_lt (show min i ds.length ≤ 90000 by omega) (by decide)
    · have s4 : Stp [D] H' (upd H' D (.lst (ws ++ [y]))) := Stp.put (by simp)
      have hL' := S'.kp _ _ (fun m => nomatch m) hL
      exact RpL.snoc ((rv.stp S' Lsts.nil).stp s4 (.one hL')) (List.getElem?_eq_getElem il) (ry.stp s4 (.one hL'))
  · rintro H ⟨ws, hL, rv, S⟩
    rw [← hl, List.take_length] at rv
    exact hd ws H S hL rv
theorem lc_mapT (nD : H1 D = none) (hs : SqT K H1 a xs) (hl : ds.length = xs.length) (hz : xs.length ≤ 90000)
    (step : ∀ (i : Nat) x d H, xs[i]? = some x → ds[i]? = some d → Stp [] H1 H → ∀ Q : VK, (∀ y H', Stp [] H H' → Rp K H' y d → Q y H') → g x (wipe σ vs) H fun σ2 H2 => wipe σ2 vs = wipe σ vs ∧ te σ2 H2 Q)
    (hd : ∀ ws H, Stp [] H1 H → H D = some (.lst ws) → RpL K H ws ds → Qd H) :
    ∃ W : Nat → Nat → Hp → Prop, (∃ m, W 0 m (upd H1 D (.lst []))) ∧ ∀ i m H, W i m H →
      ((Itt K a).stop i H ∧ Qd H) ∨ ((Itt K a).go i H ∧ ∃ Nx : Hp → Prop, (∀ H', Nx H' → ∃ m', m' < m ∧ W (i + 1) m' H') ∧ ∀ x H', (Itt K a).yld i H x H' → g x (wipe σ vs) H' fun σ2 H2 => wipe σ2 vs = wipe σ vs ∧ tYes σ2 H2 fun b H3 =>
        if b = true then te σ2 H3 fun y H4 => ∃ acc, H4 D = some (.lst acc) ∧ acc.length < sizeLine ∧ Nx (upd H4 D (.lst (acc ++ [y]))) else Nx H3) := by
  refine lc_tup (a := a) (xs := xs) (fun i H => ∃ ws, H D = some (.lst ws) ∧ RpL K H ws (ds.take i) ∧ Stp [] H1 H) ⟨[], upd_same, .nil, Stp.new nD _⟩ (fun i H _ ⟨_, _, _, S⟩ => sqt_stp S Lsts.nil hs) ?_ ?_
  · rintro i x H hi ⟨ws, hL, rv, S⟩
    have il : i < ds.length := by rw [hl]; exact (List.getElem?_eq_some_iff.mp hi).1
    refine step i x ds[i] H hi (List.getElem?_eq_getElem il) S _ fun y H' S' ry => ?_
    refine ⟨ws, S'.kp _ _ (fun m => nomatch m) hL, ?_, ws ++ [y], upd_same, ?_, (S.trans S').mut nD⟩
    · rw [rv.len, List.length_take]
      exact Nat.lt_of_le_of_lt (show min i ds.length ≤ 90000 by omega) (by decide)
    · have s4 : Stp [D] H' (upd H' D (.lst (ws ++ [y]))) := Stp.put (by simp)
      have hL' := S'.kp _ _ (fun m => nomatch m) hL
      exact RpL.snoc ((rv.stp S' Lsts.nil).stp s4 (.one hL')) (List.getElem?_eq_getElem il) (ry.stp s4 (.one hL'))
  · rintro H ⟨ws, hL, rv, S⟩
    rw [← hl, List.take_length] at rv
    exact hd ws H S hL rv
theorem lc_mapR {n : Nat} (nD : H1 D = none) (hl : ds.length = n) (hz : n ≤ 90000)
    (step : ∀ (i : Nat) d H, ds[i]? = some d → Stp [] H1 H → ∀ Q : VK, (∀ y H', Stp [] H H' → Rp K H' y d → Q y H') → g (.int ((0 : Int) + (i : Int))) (wipe σ vs) H fun σ2 H2 => wipe σ2 vs = wipe σ vs ∧ te σ2 H2 Q)
    (hd : ∀ ws H, Stp [] H1 H → H D = some (.lst ws) → RpL K H ws ds → Qd H) :
    ∃ W : Nat → Nat → Hp → Prop, (∃ m, W 0 m (upd H1 D (.lst []))) ∧ ∀ i m H, W i m H →
      ((Itr 0 n).stop i H ∧ Qd H) ∨ ((Itr 0 n).go i H ∧ ∃ Nx : Hp → Prop, (∀ H', Nx H' → ∃ m', m' < m ∧ W (i + 1) m' H') ∧ ∀ x H', (Itr 0 n).yld i H x H' → g x (wipe σ vs) H' fun σ2 H2 => wipe σ2 vs = wipe σ vs ∧ tYes σ2 H2 fun b H3 =>
        if b = true then te σ2 H3 fun y H4 => ∃ acc, H4 D = some (.lst acc) ∧ acc.length < sizeLine ∧ Nx (upd H4 D (.lst (acc ++ [y]))) else Nx H3) := by
  refine lc_range (lo := 0) (n := n) (fun i H => ∃ ws, H D = some (.lst ws) ∧ RpL K H ws (ds.take i) ∧ Stp [] H1 H) ⟨[], upd_same, .nil, Stp.new nD _⟩ ?_ ?_
  · rintro i H hi ⟨ws, hL, rv, S⟩
    have il : i < ds.length := by rw [hl]; exact hi
    refine step i ds[i] H (List.getElem?_eq_getElem il) S _ fun y H' S' ry => ?_
    refine ⟨ws, S'.kp _ _ (fun m => nomatch m) hL, ?_, ws ++ [y], upd_same, ?_, (S.trans S').mut nD⟩
    · rw [rv.len, List.length_take]
      exact Nat.lt_of_le_of_lt (show min i ds.length ≤ 90000 by omega) (by decide)
    · have s4 : Stp [D] H' (upd H' D (.lst (ws ++ [y]))) := Stp.put (by simp)
      have hL' := S'.kp _ _ (fun m => nomatch m) hL
      exact RpL.snoc ((rv.stp S' Lsts.nil).stp s4 (.one hL')) (List.getElem?_eq_getElem il) (ry.stp s4 (.one hL'))
  · rintro H ⟨ws, hL, rv, S⟩
    rw [← hl, List.take_length] at rv
    exact hd ws H S hL rv
end
end Pg
namespace Pg
open PySem PySem.Spec PyProof.Rows L2
/-- a new object is changed -/
theorem Stp.mutO {S : List Addr} {H H' : Hp} {p : Addr} {o : HO} (a : Stp S H H') (h : H p = none) : Stp S H (upd H' p o) :=
  ⟨fun x u n q => by
    rw [upd_ne (ne_of_none q h)]
    exact a.kp x u n q, fun x xs q => by
    rw [upd_ne (ne_of_none q h)]
    exact a.ls x xs q⟩
/-- sorted(xs), texts, any number of them -/
def rSortedSA (K : PySem.W.Frag) : List V → Hp → VK → Prop := fun vs H Q => ∃ (a : Addr) (ls : List (List Nat)), vs = [V.ref a] ∧ SqL K H a (ls.map Tx) ∧
  ∀ (zs : List (List Nat)) (p : Addr), zs.Perm ls → zs.Pairwise (· ≤ ·) → H p = none → Q (.ref p) (upd H p (.lst (zs.map Tx)))
theorem rising_le : ∀ (zs : List (List Nat)) (p : List Nat), risingS (tx p) (zs.map tx) = true → (p :: zs).Pairwise (· ≤ ·)
  | [], p, _ => List.pairwise_singleton _ _
  | z :: zs, p, h => by
    have h' : (!ltCps z p && risingS (tx z) (zs.map tx)) = true := by simpa [risingS] using h
    rw [ltCps_eq] at h'
    obtain ⟨h1, h2⟩ := Bool.and_eq_true_iff.mp h'
    have ih := rising_le zs z h2
    have pz : p ≤ z := List.not_lt.mp (by simpa using h1)
    refine List.pairwise_cons.mpr ⟨fun y m => ?_, ih⟩
    rcases List.mem_cons.mp m with rfl | m
    · exact pz
    · exact List.le_trans pz ((List.pairwise_cons.mp ih).1 y m)
theorem cr_sortedSA {X : Cx} : CallR X (.builtin "sorted") (rSortedSA X.K) := by
  intro pins s σ H vs us Q I r h
  obtain ⟨a, ls, rfl, hs, q⟩ := h
  obtain ⟨its, rv, hl, hz⟩ := I.list hs
  rw [Vals.ref1 r]
  have st : StrsAre its (ls.map tx) := by
    have : ls.map Tx = (ls.map tx).map V.str := by rw [List.map_map]; rfl
    rw [this] at rv
    exact rv.strs
  refine sorted_strsAny hl.isList st (by rw [← rv.length]; exact hz) fun out ys h1 h2 h3 => ?_
  have e : ys = (ys.map fun s => s.cps.toList).map tx := by
    rw [List.map_map]
    conv => lhs; rw [← List.map_id ys]
    rfl
  have pm : (ys.map fun s => s.cps.toList).Perm ls := by
    have := h2.map fun s : Str => s.cps.toList
    rw [List.map_map] at this
    refine this.trans (List.Perm.of_eq ?_)
    conv => rhs; rw [← List.map_id ls]
    refine List.map_congr_left fun l _ => ?_
    simp
  have so : (ys.map fun s => s.cps.toList).Pairwise (· ≤ ·) := by
    rw [e] at h3
    generalize (ys.map fun s => s.cps.toList) = zs at h3
    cases zs with
    | nil => exact List.Pairwise.nil
    | cons z zs => exact rising_le zs z h3
  obtain ⟨ep, he'⟩ := PyProof.Rows.sortedAll_at s.heap its out
  rw [e] at h1
  have hv := vals_of_strs h1
  rw [List.map_map] at hv
  have hv : Vals ((ys.map fun s => s.cps.toList).map Tx) out.toList := hv
  have hlen : ((ys.map fun s => s.cps.toList).map Tx).length ≤ sizeLine := by
    rw [List.length_map, pm.length_eq]
    rw [List.length_map] at hz
    exact hz
  exact ⟨.ref _, upd H (s.heap.objs.size + 1) (.lst ((ys.map fun s => s.cps.toList).map Tx)), I.laid (t' := s.toks) (fun _ _ => PyProof.Rows.sortedAll_old) (Nat.le_succ _) ⟨hlen, out.toList, ep, hv, he'⟩, rfl, q _ _ pm so (I.hok.fresh (Nat.le_succ _))⟩
end Pg
namespace Pg
open PySem PySem.Spec PyProof.Rows L2
theorem RpL.rev {K : PySem.W.Frag} {H : Hp} : ∀ {vs : List V} {ds : List Dt}, RpL K H vs ds → RpL K H vs.reverse ds.reverse
  | _, [], .nil => .nil
  | _, _ :: _, .cons h r => by
    rw [List.reverse_cons, List.reverse_cons]
    exact RpL.app (RpL.rev r) (.cons h .nil)
theorem RpL.erase {K : PySem.W.Frag} {H : Hp} {α : Type} {f : α → Dt} : ∀ {vs : List V} {ps : List α} {k : Nat}, RpL K H vs (ps.map f) → RpL K H (vs.eraseIdx k) ((ps.eraseIdx k).map f)
  | _, [], _, .nil => .nil
  | _, _ :: _, 0, .cons _ r => r
  | _, _ :: _, k + 1, .cons h r => .cons h (RpL.erase (k := k) r)
theorem seqIx {n : Nat} {d : Int} (h0 : 0 ≤ d) (h1 : d < (n : Int)) : seqIndex? d n = some d.toNat := (ixN_seq (by unfold ixN; rw [if_pos h0, if_pos h1])).1
/-! ### t[::-1] -/
section
variable {prog : Program} {w : World} {A : Around} {E : Value → Shared → Prop} {s : Shared}
open HT
theorem sliceApplied_rev {sl : Addr} {vl vu vs : Value} {n : Nat} {Q : Int × Int × Nat → Shared → Prop} (hs : s.heap.IsSliceOf sl vl vu vs) (pl : IsPart vl none) (pu : IsPart vu none) (ps : IsPart vs (some (-1)))
    (h : Q ((n : Int) - 1, -1, n) s) : wpAny (model prog w) A (Builtin.Slice.sliceApplied (.ref sl) (pure (n : Int))) Q E s := by
  obtain ⟨os, hos, hcs, hds⟩ := id hs
  unfold Builtin.Slice.sliceApplied Builtin.Slice.sliceFields
  refine wpAny_bind (wpAny_bind (wpAny_field hos hds (x := vl) rfl (wpAny_bind (wpAny_field hos hds (x := vu) rfl (wpAny_bind (wpAny_field hos hds (x := vs) rfl (wpAny_pure ?_)))))))
  refine wpAny_bind (slicePart_ ps ?_)
  show wpAny _ _ (if ((-1 : Int) == 0) = true then _ else _) _ _ s
  rw [if_neg (by decide)]
  refine wpAny_bind (slicePart_ pl (wpAny_bind (slicePart_ pu (wpAny_bind (wpAny_pure ?_)))))
  show wpAny _ _ (pure ((n : Int) - 1, (-1 : Int), Builtin.Slice.slicePlaces ((n : Int) - 1) (-1) (-1))) _ _ s
  have e : Builtin.Slice.slicePlaces ((n : Int) - 1) (-1) (-1) = n := by
    unfold Builtin.Slice.slicePlaces
    rw [if_neg (by decide)]
    by_cases c : (n : Int) - 1 > -1
    · rw [if_pos c, show (- -1 : Int) = 1 by decide, Int.ediv_one]
      omega
    · rw [if_neg c]
      omega
  rw [e]
  exact wpAny_pure h
theorem pick_rev (xs : Array Value) : ((List.range xs.size).filterMap fun (k : Nat) => xs[((xs.size : Int) - 1 + (k : Int) * (-1)).toNat]?).toArray = xs.toList.reverse.toArray := by
  have e : (fun (k : Nat) => xs[((xs.size : Int) - 1 + (k : Int) * (-1)).toNat]?) = (fun k => xs[xs.size - 1 - k]?) := by
    funext k
    have : ((xs.size : Int) - 1 + (k : Int) * (-1)).toNat = xs.size - 1 - k := by omega
    rw [this]
  rw [e]
  have e2 : (fun k => xs[xs.size - 1 - k]?) = (fun k => xs[k]?) ∘ fun k => xs.size - 1 - k := rfl
  rw [e2, ← List.filterMap_map, PySem.W.krv_range, List.filterMap_reverse, PySem.W.krv_all]
theorem getItem_tuple_rev {t sl : Addr} {items : Array Value} {vl vu vs : Value} {Q : Value → Shared → Prop} (ht : IsTup s.heap t items) (hs : s.heap.IsSliceOf sl vl vu vs) (pl : IsPart vl none) (pu : IsPart vu none) (ps : IsPart vs (some (-1)))
    (h : Q (.ref s.heap.objs.size) { s with heap := s.heap.push { cls := .type "tuple", data := .seq items.toList.reverse.toArray } })
    (hsz : items.size ≤ sizeLine) : wpAny (model prog w) A (getItem (.ref t) (.ref sl)) Q E s := by
  have htake : sizeOk (.seq items.toList.reverse.toArray) := by
    show items.toList.reverse.toArray.size ≤ sizeLine
    rw [List.size_toArray, List.length_reverse, Array.length_toList]
    exact hsz
  obtain ⟨os, hos, hcs, hds⟩ := id hs
  have hTs : s.TypeIs (.ref sl) "slice" := ⟨os, hos, hcs⟩
  unfold getItem
  try with_reducible refine wpAny_holding ?_
  first | refine wpAny_bind (wpAny_pure ?_) | skip
  refine wpAny_bind (wpAny_sequenceKey ht.typeIs (by decide) ?_)
  refine wpAny_bind (wpAny_callSpecial?_slot (name := Str.ofString "__getitem__") ht.typeIs PyProof.Rows.slot_tuple_getitem
    (wpAny_call_entry PyProof.Rows.slot_tuple_getitem ht.typeIs entry_tuple_getitem ?_ (args_tuple_getitem _ _)))
  show wpAny _ _ (Builtin.Tuple.tupleItemsOf (.ref t) >>= _) _ _ s
  refine wpAny_bind (tupleItemsOf_ ht ?_)
  refine wpAny_bind (wpAny_typeOf hTs ?_)
  rw [if_pos (by decide)]
  refine wpAny_bind (sliceApplied_rev hs pl pu ps ?_)
  have hno : ¬ ((((items.size : Int) - 1) == 0 && (-1 : Int) == 1 && items.size == items.size) = true) := by
    intro q
    rw [Bool.and_eq_true, Bool.and_eq_true] at q
    exact absurd q.1.2 (by decide)
  show wpAny _ _ (if (((items.size : Int) - 1) == 0 && (-1 : Int) == 1 && items.size == items.size) = true then _ else _) _ _ s
  rw [if_neg hno, pick_rev]
  first
    | exact wpAny_bind (m := Builtin.Tuple.tupleExact _) (wpAny_newObj_type (wpAny_pure ⟨_, rfl, wpAny_pure h⟩) htake)
    | exact wpAny_bind (m := Builtin.Tuple.tupleExact _) (wpAny_newObj_type (wpAny_bind (wpAny_pure (wpAny_pure ⟨_, rfl, wpAny_pure h⟩))) htake)
    | exact wpAny_bind (wpAny_bind (m := Builtin.Tuple.tupleExact _) (wpAny_newObj_type (wpAny_pure (wpAny_pure ⟨_, rfl, wpAny_pure h⟩)) htake))
    | exact wpAny_bind (wpAny_bind (m := Builtin.Tuple.tupleExact _) (wpAny_newObj_type (wpAny_pure ⟨_, rfl, wpAny_pure h⟩) htake))
end
section
variable {X : Cx}
def tRevT (K : PySem.W.Frag) (te : TE) : TE := fun σ H Q => te σ H fun x H1 => ∃ a xs, x = .ref a ∧ SqT K H1 a xs ∧ ∀ p, H1 p = none → Q (.ref p) (upd H1 p (.tup xs.reverse))
theorem pe_revT {e : Expr} {te : TE} {k : Nat} {p1 p2 p3 pos : Pos} (he : PE X e te) : PE X (.Subscript e (.Slice none none (some (.UnaryOp .USub (.Constant (.int 1) k p1) p2)) p3) pos) (tRevT X.K te) := by
  refine ⟨fun pins s σ H Q I h => ?_⟩
  refine Subscript_ (thn (he.run pins s σ H _ I h) fun v s1 ⟨x, H1, I1, r1, q1⟩ => ?_)
  obtain ⟨a, xs, ex, hx, q⟩ := q1
  subst ex
  cases r1
  have hst : PO X (some (.UnaryOp .USub (.Constant (.int 1) k p1) p2)) (tPart (tUn (rU fun i => .int (-i)) (tC (.int 1)))) := po_some (pe_un un_neg pe_int)
  refine wpAny_Slice (thn (po_none.run pins s1 σ H1 (fun o H2 => o = none ∧ H2 = H1) I1 ⟨rfl, rfl⟩) fun vl s2 ⟨l, H2, I2, pl, el, e2⟩ => ?_)
  subst el e2
  refine thn (po_none.run pins s2 σ H2 (fun o H3 => o = none ∧ H3 = H2) I2 ⟨rfl, rfl⟩) fun vu s3 ⟨u, H3, I3, pu, eu, e3⟩ => ?_
  subst eu e3
  refine thn (hst.run pins s3 σ H3 (fun o H4 => o = some (-1) ∧ H4 = H3) I3 ⟨1, rfl, -1, rfl, rfl, rfl⟩) fun vs s4 ⟨o, H4, I4, ps, eo, e4⟩ => ?_
  subst eo e4
  have I5 : Inv X pins σ H4 { s4 with heap := s4.heap.push { cls := .type "slice", data := .fields #[vl, vu, vs] } } := I4.kept (t' := s4.toks) fun b ob q => Heap.get?_push_of_some _ q
  obtain ⟨its, r, ht, hz⟩ := I5.tuple hx
  have hlen := r.length
  show wpAny (model X.prog X.w) X.A (subscriptTail e (.Slice none none (some (.UnaryOp .USub (.Constant (.int 1) k p1) p2)) p3) (.ref a) (.ref s4.heap.objs.size)) (EP X pins σ Q) X.xe { s4 with heap := s4.heap.push { cls := .type "slice", data := .fields #[vl, vu, vs] } }
  refine tail_any (ops := [.ref a, .ref s4.heap.objs.size]) ht.typeIs (PyProof.Rows.slot_tuple_getitem.lookup) ?_ (by with_unfolding_all rfl)
  refine getItem_tuple_rev ht (Heap.IsSliceOf.new _ vl vu vs) pl pu ps ?_ (by rw [List.size_toArray]; omega)
  refine ⟨.ref _, _, I5.laid (t' := s4.toks) (o := .tup xs.reverse) (fun b ob q => Heap.get?_push_of_some _ q) (Nat.le_refl _) ?_, rfl, q _ (I5.hok.fresh (Nat.le_refl _))⟩
  exact ⟨by rw [List.length_reverse]; exact hz, _, r.reverse, IsTup.new _ _⟩
end
end Pg
namespace Pg
open PySem PySem.Spec PyProof.Rows L2
theorem pe_clG0 {X : Cx} {j k : Nat} {st : Stmt} {ps : List Str} {sp : Sp} {x : Str} {p pos : Pos} (c : ClG X.prog X.w X.K X.mg X.base k x st ps sp) (hG : X.A.guards = some []) (hr : Room j X.A) (hk : k ≤ j) (hg : Gl X x := by rfl) (hdb : (x == ("__debug__" : Str)) = false := by decide) :
    PE X (.Call (.Name x p) [] [] pos) (tCl sp tNil) := by
  obtain ⟨f, fd, D, F⟩ := c.ex
  refine ⟨fun pins s σ H Q I h => ?_⟩
  refine wpAny_Call_Name_kw (ld_glob I hg D.at_ ?_ hdb)
  exact PySem.W.callWith_K0 I.kIn D.fn.kp (run_g (us := []) (F.mono hk) hG hr D.bd I .nil h)
end Pg
namespace Pv
open PySem PySem.Spec PyProof.Rows L2 Pg
/-! ### values as data, told by repr -/
mutual
def D.py : D → PyData
  | .non => .none
  | .bl b => .bool b
  | .int i => .int i
  | .str l => .str (tx l)
  | .tup ds => .tuple (D.pys ds)
  | .lst ds => .list (D.pys ds)
  | .obj _ => .none
def D.pys : List D → List PyData
  | [] => []
  | d :: ds => d.py :: D.pys ds
end
mutual
/-- signs at most -/
def D.wt : D → Nat
  | .non => 4
  | .bl _ => 5
  | .int _ => 12
  | .str l => 10 * l.length + 2
  | .tup ds => D.wts ds + 4
  | .lst ds => D.wts ds + 4
  | .obj _ => 0
def D.wts : List D → Nat
  | [] => 0
  | d :: ds => d.wt + 2 + D.wts ds
end
mutual
def D.deep : D → Nat
  | .tup ds => D.deeps ds + 1
  | .lst ds => D.deeps ds + 1
  | _ => 0
def D.deeps : List D → Nat
  | [] => 0
  | d :: ds => max d.deep (D.deeps ds)
end
mutual
/-- no objects, small numbers, signs that are signs -/
def D.fair : D → Bool
  | .non => true
  | .bl _ => true
  | .int i => decide (i.natAbs < 10 ^ 10)
  | .str l => l.all fun n => decide (n < 16 ^ 8)
  | .tup ds => D.fairs ds
  | .lst ds => D.fairs ds
  | .obj _ => false
def D.fairs : List D → Bool
  | [] => true
  | d :: ds => d.fair && D.fairs ds
end
section
variable {K : PySem.W.Frag} {S : List Addr} {H : Hp}
mutual
theorem rv_dp : ∀ {v : V} {d : D}, Rv K S H v d → d.fair = true → Dp K H v d.py
  | _, .non, .non, _ => by unfold D.py; exact .non
  | _, .bl _, .bl b, _ => by unfold D.py; exact .bl b
  | _, .int _, .int i, _ => by unfold D.py; exact .int i
  | _, .str _, .str x h, _ => by unfold D.py; exact .str _
  | _, .tup ds, .tup h n r, f => by
    unfold D.py
    unfold D.fair at f
    exact .tup h (rvs_dp r f)
  | _, .lst ds, .lst h o n r, f => by
    unfold D.py
    unfold D.fair at f
    exact .lst (SqL.of h) (rvs_dp r f)
  | _, .obj _, .obj _ _, f => by
    unfold D.fair at f
    cases f
theorem rvs_dp : ∀ {vs : List V} {ds : List D}, RvL K S H vs ds → D.fairs ds = true → DpAll K H vs (D.pys ds)
  | _, [], .nil, _ => by unfold D.pys; exact .nil
  | _, _ :: _, .cons h r, f => by
    unfold D.pys
    unfold D.fairs at f
    obtain ⟨f1, f2⟩ := Bool.and_eq_true_iff.mp f
    exact .cons (rv_dp h f1) (rvs_dp r f2)
end
end
mutual
theorem D.shw : ∀ (d : D), d.fair = true → d.py.showable = true
  | .non, _ => by unfold D.py; simp only [PyData.showable]
  | .bl _, _ => by unfold D.py; simp only [PyData.showable]
  | .int i, f => by
    unfold D.py
    unfold D.fair at f
    simp only [PyData.showable]
    have h := of_decide_eq_true f
    refine decide_eq_true ?_
    by_cases z : i.natAbs = 0
    · rw [z]; decide
    · exact (Nat.log2_lt z).mpr (Nat.lt_trans h (by decide +kernel))
  | .str _, _ => by unfold D.py; simp only [PyData.showable]
  | .tup ds, f => by
    unfold D.py
    unfold D.fair at f
    simp only [PyData.showable]
    exact D.shws ds f
  | .lst ds, f => by
    unfold D.py
    unfold D.fair at f
    simp only [PyData.showable]
    exact D.shws ds f
  | .obj _, f => by
    unfold D.fair at f
    cases f
theorem D.shws : ∀ (ds : List D), D.fairs ds = true → PyData.showableAll (D.pys ds) = true
  | [], _ => by unfold D.pys; simp only [PyData.showableAll]
  | d :: ds, f => by
    unfold D.pys
    unfold D.fairs at f
    obtain ⟨f1, f2⟩ := Bool.and_eq_true_iff.mp f
    simp only [PyData.showableAll, D.shw d f1, D.shws ds f2, Bool.and_self]
end
mutual
theorem D.dpt : ∀ (d : D), d.py.depth = d.deep
  | .non => by unfold D.py D.deep; rfl
  | .bl _ => by unfold D.py D.deep; rfl
  | .int _ => by unfold D.py D.deep; rfl
  | .str _ => by unfold D.py D.deep; rfl
  | .obj _ => by unfold D.py D.deep; rfl
  | .tup ds => by
    unfold D.py D.deep
    show PyData.depthAll _ + 1 = _
    rw [D.dpts ds]
  | .lst ds => by
    unfold D.py D.deep
    show PyData.depthAll _ + 1 = _
    rw [D.dpts ds]
theorem D.dpts : ∀ (ds : List D), PyData.depthAll (D.pys ds) = D.deeps ds
  | [] => by unfold D.pys D.deeps; rfl
  | d :: ds => by
    unfold D.pys D.deeps
    show max d.py.depth (PyData.depthAll (D.pys ds)) = _
    rw [D.dpt d, D.dpts ds]
end
mutual
theorem D.sgn : ∀ (d : D), d.fair = true → d.py.shown.length ≤ d.wt
  | .non, _ => by
    unfold D.py D.wt
    simp only [PyData.shown]
    decide
  | .bl b, _ => by
    unfold D.py D.wt
    cases b <;> simp only [PyData.shown] <;> decide
  | .int i, f => by
    unfold D.py D.wt
    unfold D.fair at f
    simp only [PyData.shown]
    have h := int_text_length_le10 (k := 10) (by decide) (of_decide_eq_true f)
    show (Str.ofString (toString i)).length ≤ 12
    rw [PySem.ofString_length]
    omega
  | .str l, f => by
    unfold D.py D.wt
    unfold D.fair at f
    simp only [PyData.shown]
    have := StrLaws.reprText_len (tx l) (fun c m => of_decide_eq_true (List.all_eq_true.mp f c (by simpa using m)))
    rw [tx_len] at this
    exact this
  | .tup ds, f => by
    unfold D.py D.wt
    unfold D.fair at f
    simp only [PyData.shown]
    have a := tupleText_le (PyData.shownAll (D.pys ds))
    have b := D.sgns ds f
    omega
  | .lst ds, f => by
    unfold D.py D.wt
    unfold D.fair at f
    simp only [PyData.shown]
    have a := listText_le (PyData.shownAll (D.pys ds))
    have b := D.sgns ds f
    omega
  | .obj _, f => by
    unfold D.fair at f
    cases f
theorem D.sgns : ∀ (ds : List D), D.fairs ds = true → ((PyData.shownAll (D.pys ds)).map fun t => t.length + 2).sum ≤ D.wts ds
  | [], _ => by
    unfold D.pys D.wts
    simp only [PyData.shownAll]
    decide
  | d :: ds, f => by
    unfold D.pys D.wts
    unfold D.fairs at f
    obtain ⟨f1, f2⟩ := Bool.and_eq_true_iff.mp f
    have p := D.sgn d f1
    have q := D.sgns ds f2
    simp only [PyData.shownAll, List.map_cons, List.sum_cons]
    omega
end
/-- what repr tells of a value -/
def D.told (d : D) : Str := d.py.shown
structure D.Fine (d : D) : Prop where
  fair : d.fair = true
  deep : d.deep ≤ 100
  wt : d.wt ≤ 1000000
/-- repr of values -/
def rReprD (K : PySem.W.Frag) : List V → Hp → VK → Prop := fun xs H Q => ∃ (S : List Addr) (v : V) (d : D), xs = [v] ∧ Rv K S H v d ∧ d.Fine ∧ Q (.str d.told) H
theorem call_reprD {X : Cx} {j : Nat} (hG : X.A.guards = some []) (hr : Room j X.A) : CallR X (.builtin "repr") (rReprD X.K) := fun pins s σ H xs us Q I r h => by
  obtain ⟨S, v, d, e, rv, ⟨f, dd, sz⟩, q⟩ := h
  exact call_repr hG hr pins s σ H xs us Q I r ⟨v, d.py, e, rv_dp rv f, D.shw d f, by rw [D.dpt]; exact dd, Nat.le_trans (D.sgn d f) (Nat.le_trans sz (by decide)), q⟩
/-! ### list.count of flat items -/
def rCntF (K : PySem.W.Frag) : V → List V → Hp → VK → Prop := fun x xs H Q => ∃ (p : Addr) (ys : List V) (y : V), x = .ref p ∧ xs = [y] ∧ SqL K H p ys ∧ flatV y = true ∧ ys.all flatV = true ∧ Q (.int ((ys.countP fun z => eqV z y : Nat) : Int)) H
theorem count_eqU {x : V} : ∀ {ys : List V} {us : List Value}, Vals ys us → ys.all flatV = true → us.countP (eqU x) = ys.countP fun z => eqV z x
  | [], _, .nil, _ => rfl
  | y :: ys, _, .cons r t, f => by
    rw [List.all_cons, Bool.and_eq_true] at f
    rw [List.countP_cons, List.countP_cons, count_eqU t f.2, eqU_of r f.1]
theorem mt_lcountF {X : Cx} : MtR X "list.count" (rCntF X.K) := by
  intro pins s σ H x xs v us Q I rx rxs h
  obtain ⟨p, ys, y, rfl, rfl, hs, fy, fys, q⟩ := h
  cases rx
  obtain ⟨u, rfl, ru⟩ := rxs.one
  obtain ⟨its, rv, ⟨⟨cls, dd, data, sl⟩, n, ho, hc, hdn, hd⟩, hlen⟩ := I.list hs
  simp only at hc hd
  subst hc hd
  refine call_meets PySem.F.slot_list_count ⟨_, ho, rfl⟩ PySem.F.entry_list_count (PySem.F.args_list_count_2 _ _)
    (SeqAt.list_countAt p its.toArray n dd sl u (eqU y)) ⟨ho, fun u' hu' => mem_eqAt ru fy rv fys u' (by simpa using hu'), ?_⟩
  have ec : its.toArray.toList.countP (eqU y) = ys.countP fun z => eqV z y := count_eqU rv fys
  refine ⟨.int ((ys.countP fun z => eqV z y : Nat) : Int), H, I.tok _, ⟨s.toks, ?_⟩, q⟩
  show Value.int ((its.toArray.toList.countP (eqU y) : Nat) : Int) s.toks = _
  rw [ec]
/-! ### str.index of what is there -/
def rIdxS : V → List V → Hp → VK → Prop := fun x xs H Q => ∃ (a b : Str) (k : Nat), x = .str a ∧ xs = [.str b] ∧ Txt.index0 a b = some k ∧ Q (.int (k : Int)) H
theorem mt_idxS {X : Cx} : MtR X "str.index" rIdxS := by
  intro pins s σ H x xs v us Q I rx rs h
  obtain ⟨a, b, k, rfl, rfl, hk, w⟩ := h
  obtain ⟨t, rfl⟩ := rx
  cases rs with
  | cons r1 rs =>
    cases rs
    obtain ⟨u, rfl⟩ := r1
    cases q : Builtin.Str.occurrences a b 0 a.length 1 with
    | nil =>
      unfold Txt.index0 at hk
      rw [q] at hk
      cases hk
    | cons k' rest =>
      unfold Txt.index0 at hk
      rw [q] at hk
      cases hk
      exact PySem.SC.index q ⟨.int (k : Nat), H, I.tok _, ⟨_, rfl⟩, w⟩
/-! ### xs == ys, both hold the same values -/
def rEqL (K : PySem.W.Frag) : R2 := fun x y H Q => ∃ (S : List Addr) (a b : Addr) (xs : List V) (ds : List D), x = .ref a ∧ y = .ref b ∧ SqL K H a xs ∧ SqL K H b xs ∧ RvL K S H xs ds ∧ Q (.bl true) H
theorem op_eqL {X : Cx} (hu : X.A.units + 64 < cLine) : OpR X (compareOp .Eq) (rEqL X.K) := by
  intro pins s σ H x y v u Q I rx ry h
  obtain ⟨S, a, b, xs, ds, rfl, rfl, hH, hB, rv, q⟩ := h
  cases rx
  cases ry
  obtain ⟨its, r, pl, _⟩ := I.list hH
  obtain ⟨its2, r2, pl2, _⟩ := I.list hB
  have e1 := Vals.length r
  have e2 := Vals.length r2
  refine SeqAt.RcAt.lists (e := fun _ => true) pl.isList pl2.isList (by simp; omega) (by omega) (fun j h1 h2 => ?_) _ _ _ _ ?_
  · have := vals_at rv r r2 X.A.in1 s j (by simpa using h1) (by simpa using h2)
    simpa using this
  · refine ⟨.bl _, H, I, rfl, ?_⟩
    rw [show ((List.range its.toArray.size).all fun _ => true) = true from by simp]
    exact q
/-! ### letters c at the end -/
/-- without the letters c at its end -/
def cOff (l : List Nat) : List Nat := l.take (l.length - (l.reverse.takeWhile fun c => c == 99).length)
theorem cOff_rev (l : List Nat) : cOff l = (l.reverse.dropWhile fun c => c == 99).reverse := by
  unfold cOff
  have e := List.takeWhile_append_dropWhile (p := fun c => c == 99) (l := l.reverse)
  have e2 : l = (l.reverse.dropWhile fun c => c == 99).reverse ++ (l.reverse.takeWhile fun c => c == 99).reverse := by
    rw [← List.reverse_append, e, List.reverse_reverse]
  have hl : l.length = (l.reverse.dropWhile fun c => c == 99).length + (l.reverse.takeWhile fun c => c == 99).length := by
    have := congrArg List.length e2
    simpa using this
  generalize (l.reverse.dropWhile fun c => c == 99) = A at *
  generalize (l.reverse.takeWhile fun c => c == 99) = B at *
  rw [e2, List.length_append, List.length_reverse, List.length_reverse, Nat.add_sub_cancel, ← List.length_reverse (as := A), List.take_left]
theorem contains_c (n : Nat) : (tx [99]).cps.contains n = (n == 99) := by
  by_cases h : n = 99
  · subst h
    decide +kernel
  · rw [show (n == 99) = false from beq_eq_false_iff_ne.mpr h]
    simp [tx]
    exact fun q => h (by omega)
theorem rstrip_c (l : List Nat) : Txt.rstripChars (tx l) (tx [99]) = tx (cOff l) := by
  unfold Txt.rstripChars
  rw [PyProof.Rows.stripBy_eq]
  have e : (tx [99]).cps.contains = fun n => n == 99 := funext contains_c
  rw [e]
  unfold stripLo stripHi Builtin.Str.strSub cOff
  simp [tx, Str.length]
theorem drop_all : ∀ {l : List Nat}, (l.dropWhile fun c => c == 99) = [] → ∀ c ∈ l, c = 99
  | x :: l, h, c, m => by
    rw [List.dropWhile_cons] at h
    by_cases z : (x == 99) = true
    · rw [if_pos z] at h
      rcases List.mem_cons.mp m with rfl | m
      · exact beq_iff_eq.mp z
      · exact drop_all h c m
    · rw [if_neg z] at h
      cases h
theorem cOff_nil {l : List Nat} (h : cOff l = []) : ∀ c ∈ l, c = 99 := fun c m => by
  rw [cOff_rev] at h
  exact drop_all (List.reverse_eq_nil_iff.mp h) c (List.mem_reverse.mpr m)
theorem cOff_last {l : List Nat} (h : cOff l ≠ []) : ∃ i c, cOff l = i ++ [c] ∧ c ≠ 99 := by
  rw [cOff_rev] at h ⊢
  cases e : (l.reverse.dropWhile fun c => c == 99) with
  | nil => rw [e] at h; exact absurd rfl h
  | cons c t =>
    refine ⟨t.reverse, c, by rw [List.reverse_cons], fun z => ?_⟩
    have := List.head?_dropWhile_not (fun c => c == 99) l.reverse
    rw [e] at this
    simp at this
    exact this z
theorem abc_cOff {l : List Nat} (h : Abc l) : Abc (cOff l) := h.take _
theorem cOff_len (l : List Nat) : (cOff l).length ≤ l.length := by
  unfold cOff
  rw [List.length_take]
  omega
/-- the text beyond -/
def bey (l : List Nat) : Option (List Nat) := if cOff l = [] then none else some ((cOff l).dropLast ++ [(cOff l).getLastD 0 + 1])
theorem abc_bey {l m : List Nat} (h : Abc l) (e : bey l = some m) : Abc m ∧ m.length ≤ l.length := by
  unfold bey at e
  by_cases z : cOff l = []
  · rw [if_pos z] at e; cases e
  · rw [if_neg z] at e
    obtain ⟨i, c, hc, n⟩ := cOff_last z
    have hl := cOff_len l
    have ha := abc_cOff h
    rw [hc] at e hl ha
    simp at e
    subst e
    refine ⟨Abc.app (fun x m => ha x (List.mem_append_left _ m)) (Abc.one ?_), by simpa using hl⟩
    rcases ha c (List.mem_append_right _ List.mem_cons_self) with q | q | q <;> omega
end Pv
namespace Pv
open PySem PySem.Spec PyProof.Rows L2 Pg
theorem bag_ls {H : Hp} {b : Addr} {n : Nat} (B : Bag H b n) : Lsts H [b] := by
  obtain ⟨x, y, z, hb, _⟩ := B
  exact .one hb
theorem catle {a b : List Nat} (h : a.length ≤ 12) (g : b.length ≤ 1000) : a.length + b.length ≤ 100000 := by omega
theorem catle' {a b : List Nat} (h : a.length ≤ 1000) (g : b.length ≤ 12) : a.length + b.length ≤ 100000 := by omega
theorem EvD.cat {K : PySem.W.Frag} {S : List Addr} {te tb : TE} {σ : L2.St} {H : Hp} {a b : List Nat} (h : EvD K S te σ H (.str a)) (g : EvD K S tb σ H (.str b)) (hl : a.length + b.length ≤ 100000) : EvD K S (tOp (fun x y H Q => ∃ i j, x = .str i ∧ y = .str j ∧ i.length + j.length ≤ sizeLine ∧ Q (.str (i ++ j)) H) te tb) σ H (.str (a ++ b)) := fun H1 s Q k =>
  h H1 s _ fun v H2 s2 r => g H2 (s.trans s2) _ fun u H3 s3 q => by
    cases r with
    | str _ h1 =>
      cases q with
      | str _ h2 =>
        refine ⟨tx a, tx b, rfl, rfl, by rw [tx_len, tx_len]; exact sz hl, ?_⟩
        rw [tx_app]
        exact k _ _ (s2.trans s3) (.str _ (by rw [List.length_append]; exact hl))
/-! ### t == () -/
def rEqNilT (K : PySem.W.Frag) : R2 := fun x y H Q => ∃ a b xs, x = .ref a ∧ y = .ref b ∧ SqT K H a xs ∧ SqT K H b [] ∧ Q (.bl xs.isEmpty) H
theorem op_eqNilT {X : Cx} (hu : X.A.units + 64 < cLine) : OpR X (compareOp .Eq) (rEqNilT X.K) := by
  intro pins s σ H x y v u Q I rx ry h
  obtain ⟨a, b, xs, rfl, rfl, hH, hB, q⟩ := h
  cases rx
  cases ry
  obtain ⟨its, r, pl, _⟩ := I.tuple hH
  obtain ⟨its2, r2, pl2, _⟩ := I.tuple hB
  cases r2
  have e1 := Vals.length r
  refine SeqAt.RcAt.tuples (e := fun _ => true) pl pl2 (by omega) (fun j h1 h2 => absurd h2 (by simp)) _ _ _ _ ?_
  refine ⟨.bl _, H, I, rfl, ?_⟩
  have e : ((List.range (min its.toArray.size ([] : List Value).toArray.size)).all (fun _ => true) && its.toArray.size == ([] : List Value).toArray.size) = xs.isEmpty := by
    cases r with
    | nil => rfl
    | cons _ _ => simp
  rw [e]
  exact q
end Pv
namespace Pg
open PySem PySem.Spec PyProof.Rows L2
/-! ### min, max of a list of ints with default= -/
theorem ints_reads {h : Heap} : ∀ {its : List Value} {ns : List Int}, IntsAre its ns → ∃ as, ReadsAll h its (ns.map PyData.int) as
  | _, _, .nil => ⟨_, ReadsAll.nil⟩
  | _, _, .cons a t hi => by
    obtain ⟨as, r⟩ := ints_reads (h := h) hi
    exact ⟨_, ReadsAll.cons (Reads.int a t) r⟩
def foldMin (ns : List Int) (d : Int) : Int := match ns with | [] => d | n :: r => r.foldl min n
def foldMax (ns : List Int) (d : Int) : Int := match ns with | [] => d | n :: r => r.foldl max n
theorem alike_ints (ns : List Int) : PySem.W.AlikeAll (ns.map PyData.int) := by
  refine ⟨fun x hx y hy => ?_, fun x hx => ?_⟩
  · obtain ⟨i, _, rfl⟩ := List.mem_map.mp hx
    obtain ⟨j, _, rfl⟩ := List.mem_map.mp hy
    rfl
  · obtain ⟨i, _, rfl⟩ := List.mem_map.mp hx
    exact fun e => nomatch e
theorem depth_ints : ∀ ns : List Int, PyData.depthAll (ns.map PyData.int) ≤ 1
  | [] => Nat.zero_le _
  | n :: ns => Nat.max_le.mpr ⟨(Nat.zero_le 1 : PyData.depth (.int n) ≤ 1), depth_ints ns⟩
section
variable {X : Cx}
def rMinDf (K : PySem.W.Frag) : List V → List V → Hp → VK → Prop := fun vs zs H Q => ∃ (a : Addr) (ns : List Int) (d : Int), vs = [V.ref a] ∧ zs = [.int d] ∧ SqL K H a (ns.map V.int) ∧ Q (.int (foldMin ns d)) H
def rMaxDf (K : PySem.W.Frag) : List V → List V → Hp → VK → Prop := fun vs zs H Q => ∃ (a : Addr) (ns : List Int) (d : Int), vs = [V.ref a] ∧ zs = [.int d] ∧ SqL K H a (ns.map V.int) ∧ Q (.int (foldMax ns d)) H
theorem cr_minDf (hc : X.calm = true) (hu : X.A.units + 64 < cLine) : CallRK X (.builtin "min") [Str.ofString "default"] (rMinDf X.K) := by
  intro pins s σ H vs zs us ws Q I r rz h
  obtain ⟨a, ns, d, rfl, rfl, hs, q⟩ := h
  obtain rfl := Vals.ref1 r
  obtain ⟨w1, rfl, e1⟩ := vals1 rz
  obtain ⟨t1, rfl⟩ := e1
  obtain ⟨its, rv, hl, _⟩ := I.list hs
  obtain ⟨as, ra⟩ := ints_reads (h := s.heap) rv.ints
  refine PySem.W.min_list_default (I.ok.hd hc) hl.isList ra ?_ ?_ (fun e h' tk hk => ?_) fun y ys i v h' tk bs e hv rd hk => ?_
  · exact alike_ints ns
  · have := depth_ints ns
    omega
  · have : ns = [] := List.map_eq_nil_iff.mp e
    subst this
    exact ⟨.int _, H, I.kept hk, ⟨_, rfl⟩, q⟩
  · cases ns with
    | nil => cases e
    | cons n ns =>
      cases e
      rw [PySem.W.minD_ints] at rd
      cases rd
      exact ⟨.int _, H, I.kept hk, ⟨_, rfl⟩, q⟩
theorem cr_maxDf (hc : X.calm = true) (hu : X.A.units + 64 < cLine) : CallRK X (.builtin "max") [Str.ofString "default"] (rMaxDf X.K) := by
  intro pins s σ H vs zs us ws Q I r rz h
  obtain ⟨a, ns, d, rfl, rfl, hs, q⟩ := h
  obtain rfl := Vals.ref1 r
  obtain ⟨w1, rfl, e1⟩ := vals1 rz
  obtain ⟨t1, rfl⟩ := e1
  obtain ⟨its, rv, hl, _⟩ := I.list hs
  obtain ⟨as, ra⟩ := ints_reads (h := s.heap) rv.ints
  refine PySem.W.max_list_default (I.ok.hd hc) hl.isList ra ?_ ?_ (fun e h' tk hk => ?_) fun y ys i v h' tk bs e hv rd hk => ?_
  · exact alike_ints ns
  · have := depth_ints ns
    omega
  · have : ns = [] := List.map_eq_nil_iff.mp e
    subst this
    exact ⟨.int _, H, I.kept hk, ⟨_, rfl⟩, q⟩
  · cases ns with
    | nil => cases e
    | cons n ns =>
      cases e
      rw [PySem.W.maxD_ints] at rd
      cases rd
      exact ⟨.int _, H, I.kept hk, ⟨_, rfl⟩, q⟩
end
section
variable {K : PySem.W.Frag} {a : Addr} {xs : List V} {ds : List Dt} {g : TG} {te : TE} {vs : List Nat} {σ : L2.St} {H1 : Hp} {D : Addr} {Qd : Hp → Prop}
theorem lc_mapT9 (nD : H1 D = none) (hs : SqT K H1 a xs) (hl : ds.length = xs.length) (hz : xs.length ≤ 100000)
    (step : ∀ (i : Nat) x d H, xs[i]? = some x → ds[i]? = some d → Stp [] H1 H → ∀ Q : VK, (∀ y H', Stp [] H H' → Rp K H' y d → Q y H') → g x (wipe σ vs) H fun σ2 H2 => wipe σ2 vs = wipe σ vs ∧ te σ2 H2 Q)
    (hd : ∀ ws H, Stp [] H1 H → H D = some (.lst ws) → RpL K H ws ds → Qd H) :
    ∃ W : Nat → Nat → Hp → Prop, (∃ m, W 0 m (upd H1 D (.lst []))) ∧ ∀ i m H, W i m H →
      ((Itt K a).stop i H ∧ Qd H) ∨ ((Itt K a).go i H ∧ ∃ Nx : Hp → Prop, (∀ H', Nx H' → ∃ m', m' < m ∧ W (i + 1) m' H') ∧ ∀ x H', (Itt K a).yld i H x H' → g x (wipe σ vs) H' fun σ2 H2 => wipe σ2 vs = wipe σ vs ∧ tYes σ2 H2 fun b H3 =>
        if b = true then te σ2 H3 fun y H4 => ∃ acc, H4 D = some (.lst acc) ∧ acc.length < sizeLine ∧ Nx (upd H4 D (.lst (acc ++ [y]))) else Nx H3) := by
  refine lc_tup (a := a) (xs := xs) (fun i H => ∃ ws, H D = some (.lst ws) ∧ RpL K H ws (ds.take i) ∧ Stp [] H1 H) ⟨[], upd_same, .nil, Stp.new nD _⟩ (fun i H _ ⟨_, _, _, S⟩ => sqt_stp S Lsts.nil hs) ?_ ?_
  · rintro i x H hi ⟨ws, hL, rv, S⟩
    have il : i < ds.length := by rw [hl]; exact (List.getElem?_eq_some_iff.mp hi).1
    refine step i x ds[i] H hi (List.getElem?_eq_getElem il) S _ fun y H' S' ry => ?_
    refine ⟨ws, S'.kp _ _ (fun m => nomatch m) hL, ?_, ws ++ [y], upd_same, ?_, (S.trans S').mut nD⟩
    · rw [rv.len, List.length_take]
      exact Nat.lt_of_lt_of_le (show min i ds.length < 100000 by omega) (by decide)
    · have s4 : Stp [D] H' (upd H' D (.lst (ws ++ [y]))) := Stp.put (by simp)
      have hL' := S'.kp _ _ (fun m => nomatch m) hL
      exact RpL.snoc ((rv.stp S' Lsts.nil).stp s4 (.one hL')) (List.getElem?_eq_getElem il) (ry.stp s4 (.one hL'))
  · rintro H ⟨ws, hL, rv, S⟩
    rw [← hl, List.take_length] at rv
    exact hd ws H S hL rv
end
end Pg
namespace Pg
open PySem PySem.Spec PyProof.Rows L2
/-! ### an exception that was caught, kept as a value -/
/-- an exception object of the class cls, raised and caught, without a dict of its own, at a -/
def ExK (cls : Value) (a : Addr) : HO := .ext fun h => ∃ (oe : Obj) (vs : Array Value), h.get? a = some oe ∧ Zc cls none oe ∧ oe.data = .fields vs
theorem exK_ok {P : Program} {w : World} {H : Hp} {h : Heap} {a : Addr} {cls : Value} {oe : Obj} {vs : Array Value} (e : h.get? a = some oe) (z : Zc cls none oe) (d : oe.data = .fields vs) : ObjOk P w H h a (ExK cls a) :=
  ⟨⟨oe, vs, e, z, d⟩, ⟨oe, e⟩, fun _ _ ⟨o, v, q, r⟩ k => ⟨o, v, k o q, r⟩⟩
section
variable {X : Cx} {pins : List (Addr × Obj)} {σ : L2.St} {H : Hp} {s : Shared}
/-- an object that stands in the heap, new since the entry, is tracked from here on -/
theorem track {a : Addr} {o : HO} {oe : Obj} {vs : Array Value} (I : Inv X pins σ H s) (na : H a = none) (n0 : X.s_0.heap.get? a = none) (ha : s.heap.get? a = some oe) (hd : oe.data = .fields vs) (nL : a ≠ X.env.locals) (np : ∀ p ∈ X.pn ++ pins, p.1 ≠ a)
    (new : ObjOk X.prog X.w (upd H a o) s.heap a o) : Inv X pins σ (upd H a o) s := by
  have ne : ∀ {b : Addr} {u : HO}, H b = some u → b ≠ a := fun e z => by rw [z, na] at e; cases e
  refine ⟨I.ok, I.os, I.bare, ⟨I.base.keep, I.base.slot, fun b u e n hx => ?_, I.base.there, fun b xs e => ?_, fun b u z e => ?_, fun b ps e => ?_⟩, I.loc, I.cell, ?_, fun x c e => ?_, fun p hp => ?_, fun b u e => ?_, I.len⟩
  · rw [upd_ne (fun z => by rw [z, n0] at e; cases e)]
    exact I.base.free b u e n hx
  · have q := I.base.tups b xs e
    rw [upd_ne (ne q)]
    exact q
  · have q := I.base.frzs b u z e
    rw [upd_ne (ne q)]
    exact q
  · obtain ⟨m, q⟩ := I.base.tbls b ps e
    exact ⟨m, by rw [upd_ne (ne q)]; exact q⟩
  · rw [upd_ne nL.symm]
    exact I.free
  · have : c ≠ a := fun z => by
      obtain ⟨v, ob, ho, hc⟩ := I.cell x c e
      rw [z, ha] at ho
      cases ho
      rw [hd] at hc
      cases hc
    rw [upd_ne this]
    exact I.freeC x c e
  · obtain ⟨e, n, n1, n2, d⟩ := I.pin p hp
    exact ⟨e, by rw [upd_ne (np p hp)]; exact n, n1, n2, d⟩
  · by_cases hb : b = a
    · subst hb
      rw [upd_same] at e
      cases e
      exact new
    · rw [upd_ne hb] at e
      exact (I.hok b u e).stay (fun _ _ _ q => q) (fun c q => by rw [upd_ne (ne q)]; exact q) fun c xs q => by rw [upd_ne (ne q)]; exact q
theorem toSuite (I : Inv X pins σ H s) (a : Addr) : Inv (X.suite a (X.pn ++ pins)) [] σ H s :=
  ⟨I.ok.suite _ _, I.os, I.bare, I.base, I.loc, I.cell, I.free, I.freeC, fun p hp => I.pin p (by rw [List.append_nil] at hp; exact hp), I.hok, I.len⟩
theorem ofSuite {a : Addr} {pn' : List (Addr × Obj)} (I : Inv (X.suite a (X.pn ++ pins)) pn' σ H s) (ok : X.Ok) : Inv X pins σ H s :=
  ⟨ok, I.os, I.bare, I.base, I.loc, I.cell, I.free, I.freeC, fun p hp => I.pin p (List.mem_append_left _ hp), I.hok, I.len⟩
end
/-- what the clause 'except x as n' wishes, where what was caught is kept: slot i is n's -/
def wKeep (K : PySem.W.Frag) (c : Value) (i : Nat) (ts : TS) (Wout : WX) (D : Ends) : WX := fun cls d σ H =>
  ∃ b, PySem.W.exmOne K cls c = some b ∧ (b = true → d = none ∧ ∀ a, H a = none → ts { nx := fun σ' H' => D.nx (σ'.set i none) H', rt := D.rt, bk := fun σ' H' => D.bk (σ'.set i none) H', ct := fun σ' H' => D.ct (σ'.set i none) H' } (σ.set i (some (.ref a))) (upd H a (ExK cls a))) ∧
    (b = false → Wout cls d σ H)
section
variable {X : Cx} {x n : Str} {c : Value} {i : Nat} {body suite : List Stmt} {b₀ : Stmt} {np pos pos' : Pos} {tb : WX → TS} {ts : TS} {Wout : WX}
theorem ps_try_keep (hs : X.stack = X.env :: X.outer) (hf : X.env.frame = some X.env.locals) (hx : X.ex = []) (hN : X.N.Nodup) (hi : X.N[i]? = some n) (hln : X.env.kindOf n = some .local) (hc : Names X x c) (tk : Takes X Wout)
    (hb : ∀ (W : WX) (pn : List (Addr × Obj)) (xe : Value → Shared → Prop), Takes (X.tr pn xe) W → PassesOwn (model X.prog X.w) X.A X.env xe → PSs (X.tr pn xe) body (tb W))
    (hsu : ∀ (a : Addr) (pn : List (Addr × Obj)), PSs (X.suite a pn) (b₀ :: suite) ts) :
    PS X (.Try body [.ExceptHandler (some (.Name x np)) (some n) (b₀ :: suite) pos'] [] [] pos) (fun D σ H => tb (wKeep X.K c i ts Wout D) D σ H) := by
  refine ⟨fun pins s σ H D I h => ?_⟩
  have ok := I.ok
  have hfr : X.A.frames = some (X.env :: X.outer) := by rw [ok.frames, hs]
  have hloc : Loc X.env.scope n := .inl hln
  refine wpAny_Try_except ?_
  refine wpAny_mono ((hb (wKeep X.K c i ts Wout D) (X.pn ++ pins) (fun e s₁ => wpAny (model X.prog X.w) X.A (noteFrame e X.env) (fun _ s₂ => wpAny (model X.prog X.w) X.A (setFlight e none) (fun _ s₃ =>
    wpAny (model X.prog X.w) X.A (handleBy e X.env [.ExceptHandler (some (.Name x np)) (some n) (b₀ :: suite) pos']) (SP X pins D) X.xe s₃) X.xe s₂) X.xe s₁) (fun u s' xx => ?_) PassesOwn.looking).run [] s σ H D (I.toTry _) h) (fun f s1 hsp => ?_) (fun e s1 he => he)
  · -- the catch
    obtain ⟨a, B, sI, pins', σ', H', cls, d, rfl, J', nb, up, sky, na, os, ag, b, hb1, hyes, hno⟩ := xx
    have J : Inv X pins σ' H' sI := J'.ofTry ok
    have sky' : Sky B (X.env :: X.outer) a (Zc cls d) X.env.locals s'.heap := by rw [← hs]; exact sky
    show wpAny (model X.prog X.w) X.A (noteFrame (.ref a) X.env) _ _ _
    refine Sky.land Zc.steady hfr hf sky' fun h3 fl3 up3 => ?_
    have J3 : Inv X pins σ' H' { s' with heap := h3 } := J.landed nb fl3.1 (up.trans up3) os ag
    obtain ⟨oe3, vs3, he3, hz3, hd3⟩ := fl3.there
    have notFr : ∀ {h : Heap} {o : Obj} {vs : Array Value}, h.FunFrames B (X.env :: X.outer) → h.get? a = some o → o.data = .fields vs → a ∉ frs (X.env :: X.outer) := fun {h o vs} ff e dd hm => by
      obtain ⟨_, o', e', hnf⟩ := ff.mem hm
      rw [e] at e'; cases e'
      exact hnf _ dd
    have nfr := notFr fl3.2.2.1 he3 hd3
    have nL : a ≠ X.env.locals := fun z => nfr (List.mem_filterMap.mpr ⟨X.env, List.mem_cons_self, by rw [hf, z]⟩)
    have nF : a ∉ X.fs := fun hm => by
      obtain ⟨e, he, q⟩ := List.mem_filterMap.mp hm
      exact nfr (List.mem_filterMap.mpr ⟨e, List.mem_cons_of_mem _ he, q⟩)
    have nI : sI.heap.get? a = none := by
      cases e : sI.heap.get? a with
      | none => rfl
      | some o =>
        have q := nb a o e (by rw [hs]; exact nfr)
        rw [fl3.2.1] at q
        cases q
    have n0 : X.s_0.heap.get? a = none := by
      cases e : X.s_0.heap.get? a with
      | none => rfl
      | some o =>
        obtain ⟨o', q⟩ := J.base.there a o e (by rw [hx]; exact fun z => nomatch z)
        rw [nI] at q
        cases q
    have npn : ∀ p ∈ X.pn ++ pins, p.1 ≠ a := fun p hp z => by
      have q := (J.pin p hp).1
      rw [z, nI] at q
      cases q
    have S3 := J3.suite he3 hd3 na nL nF
    refine wpAny_handleBy_cons (codeAny_handlers_test ?_) (by intro q; cases q)
    have LT : PySem.W.Looks (model X.prog X.w) h3 (typeOf (.ref a)) cls := fun A Q E s k q => wpAny_typeOf_ref (k _ _ he3) (by rw [hz3.1]; exact q)
    have LM := PySem.W.exm_one (M := model X.prog X.w) (J3.kIn) LT hb1
    have test : ∀ {Q : Value → Shared → Prop} {E : Value → Shared → Prop}, Q c { s' with heap := h3 } → wpAny (model X.prog X.w) (X.A.mark (some (.ref a))) (eval (.Name x np) X.env) Q E { s' with heap := h3 } := fun {Q E} q => by
      obtain ⟨hg, hdbg, hm | ⟨hm, hv, hnn⟩⟩ := hc
      · exact ld_glob (X := X.suite a ((a, oe3) :: (X.pn ++ pins))) S3 hg hm q hdbg
      · exact ld_blt (X := X.suite a ((a, oe3) :: (X.pn ++ pins))) S3 hg hm hv q hnn hdbg
    refine test (LM.here ?_)
    cases b with
    | true =>
      obtain ⟨ed, hy⟩ := hyes rfl
      subst ed
      refine codeAny_handlers_suite_as ?_
      refine HandSPX.lands_againZ fl3 fun h4 fl4 up4 => ?_
      have J4 : Inv X pins σ' H' { s' with heap := h4 } := J.landed nb fl4.1 ((up.trans up3).trans up4) os ag
      obtain ⟨oe4, vs4, he4, hz4, hd4⟩ := fl4.there
      have S4 := toSuite (track (o := ExK cls a) J4 na n0 he4 hd4 nL npn (exK_ok he4 hz4 hd4)) a
      refine store_ok (X := X.suite a (X.pn ++ pins)) (v := .ref a) S4 hN hi hloc rfl (fun s5 S5 => ?_) (.inr hln)
      refine wpAny_mono ((hsu a (X.pn ++ pins)).run [] s5 _ _ _ S5 (hy a na)) (fun f s6 hsp => ?_) (fun _ _ z => False.elim z)
      have end_ : ∀ {σ6 : L2.St} {H6 : Hp} {Q : Shared → Prop}, Inv (X.suite a (X.pn ++ pins)) [] σ6 H6 s6 → (∀ s7, Inv X pins (σ6.set i none) H6 s7 → Q s7) →
          wpAny (model X.prog X.w) X.A (do bindName X.env n .none; unbindBehindTheSuite X.env n pos') (fun _ s7 => Q s7) X.xe s6 := fun {σ6 H6 Q} S6 hq => gone_ok (ofSuite S6 ok) hN hi hln hq
      cases f with
      | next =>
        obtain ⟨σ6, H6, S6, q6⟩ := hsp
        exact end_ S6 fun s7 J7 => ⟨_, _, J7, q6⟩
      | brk =>
        obtain ⟨σ6, H6, S6, q6⟩ := hsp
        exact end_ S6 fun s7 J7 => ⟨_, _, J7, q6⟩
      | cont =>
        obtain ⟨σ6, H6, S6, q6⟩ := hsp
        exact end_ S6 fun s7 J7 => ⟨_, _, J7, q6⟩
      | ret u =>
        obtain ⟨v6, σ6, H6, S6, r6, q6⟩ := hsp
        exact end_ S6 fun s7 J7 => ⟨_, _, _, J7, r6, q6⟩
    | false =>
      show wpAny _ X.A (handleBy (.ref a) X.env []) _ _ _
      refine wpAny_handleBy_nil ?_
      obtain ⟨k1, k2, k3, oe, vs, T, oT, ts', he, hz, hd, h1, hr⟩ := id fl3
      unfold PySem.passOn
      refine wpAny_bind (wpAny_field he hd h1 ?_)
      rw [if_neg (show ¬ ((Value.ref T == Value.none) = true) from by simp)]
      have fin : wpAny (model X.prog X.w) X.A (setFlight (.ref a) X.env.frame) (fun _ s4 => wpAny (model X.prog X.w) X.A (throw (.ref a) : Sem Flow) (SP X pins D) X.xe s4) X.xe { s' with heap := h3 } := by
        rw [hf]
        refine HandSPX.setFlight_upZ fl3 fun h4 hh4 up4 => wpAny_throw (tk _ _ ?_)
        exact ⟨a, B, sI, pins, σ', H', cls, d, rfl, J, nb, (up.trans up3).trans up4, .inr (.inr (by rw [hs]; exact hh4)), na, os, ag, hno rfl⟩
      first
        | exact wpAny_bind (wpAny_pure (wpAny_bind fin))
        | exact wpAny_bind fin
  · cases f with
    | next =>
      obtain ⟨σ', H', J', q⟩ := hsp
      exact wpAny_execs_nil ⟨σ', H', J'.ofTry ok, q⟩
    | brk =>
      obtain ⟨σ', H', J', q⟩ := hsp
      exact ⟨σ', H', J'.ofTry ok, q⟩
    | cont =>
      obtain ⟨σ', H', J', q⟩ := hsp
      exact ⟨σ', H', J'.ofTry ok, q⟩
    | ret u =>
      obtain ⟨v, σ', H', J', r, q⟩ := hsp
      exact ⟨v, σ', H', J'.ofTry ok, r, q⟩
end
/-- isinstance(e, c), e an exception that is kept -/
def rIsK (K : PySem.W.Frag) : List V → Hp → VK → Prop := fun xs H Q => ∃ (a D : Addr) (c : V) (cv : Value) (b : Bool), xs = [.ref a, c] ∧ ExcC K D ∧ H a = some (ExK (.ref D) a) ∧ (∀ u, RelV c u → u = cv) ∧ PySem.W.kitOne K (.ref D) cv = some b ∧ Q (.bl b) H
theorem call_isK {X : Cx} : CallR X (.builtin "isinstance") (rIsK X.K) := by
  intro pins s σ H xs us Q I r h
  obtain ⟨a, D, c, cv, b, rfl, C, ha, hcv, e, q⟩ := h
  cases r with
  | cons rx rr =>
    cases rr with
    | cons rt rr =>
      cases rr
      cases rx
      have ec := hcv _ rt
      subst ec
      obtain ⟨⟨oe, vs, hget, hz, hv⟩, _, _⟩ := I.hok a _ ha
      have J : PySem.W.InstAt s.heap a oe D none := by
        obtain ⟨oc, od, oda, osl⟩ := oe
        obtain ⟨h1, h2⟩ := hz
        dsimp only at h1 h2 hv
        subst h1 h2 hv
        exact ⟨hget, rfl, rfl, trivial⟩
      exact PySem.W.kia_one (PySem.W.handS_kitx_exc C.hg C.hk C.hs C.hd C.ha C.hn C.ht C.hm) I.kIn J e (fun z => nomatch z) fun tk => ⟨.bl b, H, I.kept (t' := tk) fun _ _ z => z, rfl, q⟩
end Pg
namespace Pg
open PySem PySem.Spec PyProof.Rows L2
/-! ### defs that may raise -/
/-- a def's promise, what it lets out told too -/
structure ClX (P : Program) (w : World) (K : PySem.W.Frag) (mg : Str → Option Value) (base : Heap) (k : Nat) (x : Str) (st : Stmt) (ps : List Str) (sp : Sp) : Prop where
  ex : ∃ f fd, Df K mg x st ps f fd ∧ FnOk P w K mg base (L2.CX P w) k f fd ps sp
theorem ClX.mono {P : Program} {w : World} {K : PySem.W.Frag} {mg : Str → Option Value} {base : Heap} {j k : Nat} {x : Str} {st : Stmt} {ps : List Str} {sp : Sp} (c : ClX P w K mg base j x st ps sp) (h : j ≤ k) : ClX P w K mg base k x st ps sp := by
  obtain ⟨f, fd, D, F⟩ := c.ex
  exact ⟨f, fd, D, F.mono h⟩
theorem Df.clX {P : Program} {w : World} {K : PySem.W.Frag} {mg : Str → Option Value} {base : Heap} {x : Str} {st : Stmt} {f : Addr} {fd : FuncData} {N ps : List Str} {k : Nat} {sp : Sp} (D : Df K mg x st ps f fd) (S : FnScope N ps (defScope st)) (len : ∀ vs H Q E, sp vs H Q E → vs.length = ps.length)
    (hbody : ∀ (cdv : Value) (A : Around) (outer : List Env) (s : Shared) (H : Hp) (vs : List V) (Q : VK) (E : XK), Room k (A.deeper (envOfC x (defScope st) s.heap.objs.size f cdv)) → sp vs H Q E →
      Takes (cxOf (L2.CX P w) P w K mg base N x (defScope st) f cdv A outer s H E) (fun cls d _ H => E cls d H) →
      ∃ t, PSs (cxOf (L2.CX P w) P w K mg base N x (defScope st) f cdv A outer s H E) (defBody st) t ∧ t { nx := fun _ H' => Q .non H', rt := Q } (start N vs) H) : ClX P w K mg base (k + 1) x st ps sp :=
  ⟨f, fd, D, D.fn.okX S len fun cdv A outer s H vs Q E hr h => hbody cdv A outer s H vs Q E hr h (takes_of rfl rfl rfl rfl)⟩
/-- f(e, ..): what it lets out is what W wants -/
def tClX (sp : Sp) (W : WX) (t : TA) : TE := fun σ H Q => t σ H fun vs H1 => sp vs H1 Q fun cls d H' => W cls d σ H'
def tClXK (sp : Sp) (gV : List V → List V → List V) (W : WX) (tk : TA) : TE := fun σ H Q => tk σ H fun zs H1 => sp (gV [] zs) H1 Q fun cls d H' => W cls d σ H'
section
variable {X : Cx} {j k : Nat} {st : Stmt} {ps : List Str} {sp : Sp} {x : Str} {p pos : Pos} {e : Expr} {es : List Expr} {t : TA} {W : WX}
theorem pe_clX (c : ClX X.prog X.w X.K X.mg X.base k x st ps sp) (tk : Takes X W) (hr : Room j X.A) (hk : k ≤ j) (ha : PA X (e :: es) t) (hg : Gl X x := by rfl) (hdb : (x == ("__debug__" : Str)) = false := by decide)
    (he : starEach (e :: es) X.env = (false, eval e X.env) :: starEach es X.env := by rfl) (hpl : (backTo pos (starEach es X.env)).any (·.1) = false := by rfl) :
    PE X (.Call (.Name x p) (e :: es) [] pos) (tClX sp W t) := by
  obtain ⟨f, fd, D, F⟩ := c.ex
  exact pe_callS (E := WE W) (F.mono hk) hr hg D.at_ D.fn.kp D.bd (passAt tk) ha hdb he hpl
theorem run_fnkS {CX : CXT} {f : Addr} {fd : FuncData} {E : XK} {ks : List Str} {g : List Value → List Value → List Value} {gV : List V → List V → List V} {pins : List (Addr × Obj)} {σ : L2.St} {H : Hp} {s : Shared} {Q : VK} {us ws : List Value} {vs zs : List V} (F : FnOk X.prog X.w X.K X.mg X.base CX k f fd ps sp) (hr : Room k X.A) (hb : KBinds X.K fd ps ks g gV) (hx : PassesAt CX X σ E)
    (I : Inv X pins σ H s) (r : Vals vs us) (rz : Vals zs ws) (h : sp (gV vs zs) H Q E) : wpAny (model X.prog X.w) X.A (call (.ref f) us (ks.zip ws)) (EP X pins σ Q) X.xe s := by
  have r2 := hb.rel r rz
  have hl : (g us ws).length = ps.length := by rw [← r2.length]; exact F.len _ _ _ _ h
  refine wpAny_call (codeAny_mono (F.run X.A X.stack s H ⟨us, ks.zip ws⟩ (g us ws) (gV vs zs) Q E hr I.env0 (hb.to s us ws I.kIn hl) r2 h) fun r s' hq => ?_)
  cases r with
  | error e => exact hx pins H s e s' I hq
  | ok fl =>
    cases fl with
    | ret u => exact I.after hq
    | next => exact False.elim hq
    | brk => exact False.elim hq
    | cont => exact False.elim hq
theorem pe_clXK {ks : List Str} {g : List Value → List Value → List Value} {gV : List V → List V → List V} {kws : List Keyword} {tkw : TA} (c : ClX X.prog X.w X.K X.mg X.base k x st ps sp) (tk : Takes X W) (hr : Room j X.A) (hk : k ≤ j)
    (hb : ∀ f fd, Fun X.K x x st f fd → KBinds X.K fd ps ks g gV) (hkw : PK X kws tkw)
    (hg : Gl X x := by rfl) (hall : (backToKw pos (keywordEach kws X.env)).all (·.1.isSome) = true := by rfl) (hks : (backToKw pos (keywordEach kws X.env)).filterMap (·.1) = ks := by rfl) (hdb : (x == ("__debug__" : Str)) = false := by decide)
    (hpl : ((backTo pos (starEach [] X.env)).any (·.1) || (backToKw pos (keywordEach kws X.env)).any (·.1.isNone)) = false := by rfl) :
    PE X (.Call (.Name x p) [] kws pos) (tClXK sp gV W tkw) := by
  obtain ⟨f, fd, D, F⟩ := c.ex
  refine ⟨fun pins s σ H Q I h => ?_⟩
  refine wpAny_Call_Name_kw (ld_glob I hg D.at_ ?_ hdb)
  refine PySem.W.callWith_KW0 (h₀ := X.base) I.ok.mod.kin D.fn.kp hall ?_ hpl
  refine thn (hkw.run pos pins s σ H _ I h) fun ws s2 ⟨zs, H2, I2, rz, q2⟩ => ⟨I2.kIn, ?_⟩
  rw [hks]
  exact run_fnkS (us := []) (vs := []) (F.mono hk) hr (hb f fd D.fn) (passAt tk σ) I2 .nil rz q2
end
/-- an own class of errors, made with a text and raised -/
structure Err (K : PySem.W.Frag) (mg : Str → Option Value) (x : Str) (C : Addr) : Prop where
  g : mg x = some (.ref C)
  x : PySem.W.excIn K C [.type "ValueError", .type "Exception", .type "BaseException", .type "object"] "ValueError.__new__" = true
  k : PySem.W.keepIn K (.ref C) = true
  b : PySem.W.subIn K (.ref C) (.type "BaseException") = some true
  t : PySem.W.typeIn K (.ref C) = some (.type "type")
theorem ps_raise1 {X : Cx} {W : WX} {C : Addr} {x m : Str} {j : Nat} {p p2 pos pos2 : Pos} (hc : X.calm = true) (tk : Takes X W) (E : Err X.K X.mg x C) (hg : Gl X x := by rfl) (hdb : (x == ("__debug__" : Str)) = false := by decide) :
    PS X (.Raise (some (.Call (.Name x p) [.Constant (.str m) j p2] [] pos)) none pos2) (fun _ σ H => W (.ref C) none σ H) :=
  ps_raise hc tk (pmk_own PySem.F.excBase_ValueError E.x E.g E.k (raises_own E.b E.t) hg hdb)
end Pg
namespace Kq
open PySem PySem.Spec PyProof.Rows L2 Pg Pv
def topS (i : Nat) : Stmt := PySem.Challenge.pw_pageskips_k01_texts.main.body.getD i (.Pass ⟨0, 0, 0, 0⟩)
structure Nm (mg : Str → Option Value) : Prop where
  n_int : mg "int" = none
  n_len : mg "len" = none
  n_max : mg "max" = none
  n_range : mg "range" = none
  n_type : mg "type" = none
  n_str : mg "str" = none
  n_isinstance : mg "isinstance" = none
  n_repr : mg "repr" = none
  n_ValueError : mg "ValueError" = none
  n_list : mg "list" = none
  n_tuple : mg "tuple" = none
  n_bool : mg "bool" = none
  n_min : mg "min" = none
  n_any : mg "any" = none
  n_all : mg "all" = none
  n_zip : mg "zip" = none
  n_sorted : mg "sorted" = none
  n_set : mg "set" = none
/-- the classes of errors -/
structure Er (K : PySem.W.Frag) (mg : Str → Option Value) where
  C_InvalidText : Addr
  g_InvalidText : mg "InvalidText" = some (.ref C_InvalidText)
  C_InvalidValue : Addr
  g_InvalidValue : mg "InvalidValue" = some (.ref C_InvalidValue)
  C_InvalidSpan : Addr
  g_InvalidSpan : mg "InvalidSpan" = some (.ref C_InvalidSpan)
  C_InvalidFilter : Addr
  g_InvalidFilter : mg "InvalidFilter" = some (.ref C_InvalidFilter)
  C_InvalidRule : Addr
  g_InvalidRule : mg "InvalidRule" = some (.ref C_InvalidRule)
  C_InvalidPage : Addr
  g_InvalidPage : mg "InvalidPage" = some (.ref C_InvalidPage)
  C_InvalidNote : Addr
  g_InvalidNote : mg "InvalidNote" = some (.ref C_InvalidNote)
  C_InvalidColumn : Addr
  g_InvalidColumn : mg "InvalidColumn" = some (.ref C_InvalidColumn)
  C_InvalidIndex : Addr
  g_InvalidIndex : mg "InvalidIndex" = some (.ref C_InvalidIndex)
  C_InvalidNumber : Addr
  g_InvalidNumber : mg "InvalidNumber" = some (.ref C_InvalidNumber)
  C_InvalidCode : Addr
  g_InvalidCode : mg "InvalidCode" = some (.ref C_InvalidCode)
  C_NoBlock : Addr
  g_NoBlock : mg "NoBlock" = some (.ref C_NoBlock)
  C_NothingToUndo : Addr
  g_NothingToUndo : mg "NothingToUndo" = some (.ref C_NothingToUndo)
  C_Full : Addr
  g_Full : mg "Full" = some (.ref C_Full)
  C_InvalidCommand : Addr
  g_InvalidCommand : mg "InvalidCommand" = some (.ref C_InvalidCommand)
  C_InvalidWords : Addr
  g_InvalidWords : mg "InvalidWords" = some (.ref C_InvalidWords)
  C_SkipError : Addr
  g_SkipError : mg "SkipError" = some (.ref C_SkipError)
  x_InvalidText : PySem.W.excIn K C_InvalidText [.type "ValueError", .type "Exception", .type "BaseException", .type "object"] "ValueError.__new__" = true
  k_InvalidText : PySem.W.keepIn K (.ref C_InvalidText) = true
  e_InvalidText : Err K mg "InvalidText" C_InvalidText
  c_InvalidText : ExcC K C_InvalidText
  m_InvalidText : PySem.W.exmOne K (.ref C_InvalidText) (.ref C_SkipError) = some true
  v_InvalidText : PySem.W.kitOne K (.ref C_InvalidText) (.type "ValueError") = some true
  i_InvalidText : PySem.W.kitOne K (.ref C_InvalidText) (.ref C_InvalidText) = some true
  i_InvalidValue : PySem.W.kitOne K (.ref C_InvalidText) (.ref C_InvalidValue) = some false
  i_InvalidSpan : PySem.W.kitOne K (.ref C_InvalidText) (.ref C_InvalidSpan) = some false
  i_InvalidFilter : PySem.W.kitOne K (.ref C_InvalidText) (.ref C_InvalidFilter) = some false
  i_InvalidRule : PySem.W.kitOne K (.ref C_InvalidText) (.ref C_InvalidRule) = some false
  i_InvalidPage : PySem.W.kitOne K (.ref C_InvalidText) (.ref C_InvalidPage) = some false
  i_InvalidNote : PySem.W.kitOne K (.ref C_InvalidText) (.ref C_InvalidNote) = some false
  i_InvalidColumn : PySem.W.kitOne K (.ref C_InvalidText) (.ref C_InvalidColumn) = some false
  i_InvalidIndex : PySem.W.kitOne K (.ref C_InvalidText) (.ref C_InvalidIndex) = some false
  i_InvalidNumber : PySem.W.kitOne K (.ref C_InvalidText) (.ref C_InvalidNumber) = some false
  i_InvalidCode : PySem.W.kitOne K (.ref C_InvalidText) (.ref C_InvalidCode) = some false
  i_NoBlock : PySem.W.kitOne K (.ref C_InvalidText) (.ref C_NoBlock) = some false
  i_NothingToUndo : PySem.W.kitOne K (.ref C_InvalidText) (.ref C_NothingToUndo) = some false
  i_Full : PySem.W.kitOne K (.ref C_InvalidText) (.ref C_Full) = some false
  i_InvalidCommand : PySem.W.kitOne K (.ref C_InvalidText) (.ref C_InvalidCommand) = some false
  i_InvalidWords : PySem.W.kitOne K (.ref C_InvalidText) (.ref C_InvalidWords) = some false
/-- what stands in the module -/
structure Ng (K : PySem.W.Frag) (w : World) (mg : Str → Option Value) where
  NEXT_LETTERS : Addr
  g_NEXT_LETTERS : mg "NEXT_LETTERS" = some (.ref NEXT_LETTERS)
  na : KDct K w NEXT_LETTERS (tx [97]) (.str "b")
  nb : KDct K w NEXT_LETTERS (tx [98]) (.str "c")
section
variable {P : Program} {w : World} {K : PySem.W.Frag} {mg : Str → Option Value} {base : Heap}
abbrev s__law_bag : Stmt := topS 25
abbrev N__law_bag : List Str := ["cell"]
theorem sc__law_bag : FnScope ["cell"] ["cell"] (defScope s__law_bag) := ⟨rfl, rfl, rfl, by decide +kernel, rfl, by decide +kernel, by decide +kernel⟩

abbrev s__law_draw : Stmt := topS 26
abbrev N__law_draw : List Str := ["bag", "upto", "digit", "turn", "mixed"]
theorem sc__law_draw : FnScope ["bag", "upto", "digit", "turn", "mixed"] ["bag", "upto"] (defScope s__law_draw) := ⟨rfl, rfl, rfl, by decide +kernel, rfl, by decide +kernel, by decide +kernel⟩

/-! ### the bag, the draws -/
def spBag : Sp := fun vs H Q _ => ∃ c : Int, vs = [.int c] ∧ ∀ b H', H b = none → Stp [] H H' → Bag H' b 0 → Q (.ref b) H'
theorem cl__law_bag {f : Addr} {fd : FuncData} (D : Df K mg "_law_bag" s__law_bag ["cell"] f fd) (T : Nm mg) : Cl P w K mg base 1 "_law_bag" s__law_bag ["cell"] spBag := by
  refine D.cl sc__law_bag (fun vs H Q E h => ?_) (fun cdv A outer s H vs Q E hr h => ?_)
  · obtain ⟨c, rfl, _⟩ := h
    rfl
  · obtain ⟨c, rfl, k⟩ := h
    refine ⟨_, (pss_one (ps_ret (pe_lst (pa_cons (pe_callB (call_max2 rfl) (by rfl) T.n_max (by decide +kernel) (pa_cons pe_int (pa_cons (pe_op op_sub (pe_callTy call_int1 (by rfl) T.n_int (by decide +kernel) (pa_cons (pv 0) pa_nil)) (pe_op op_pow pe_int pe_int)) pa_nil))) (pa_cons (pe_op op_mod (pe_callTy call_int1 (by rfl) T.n_int (by decide +kernel) (pa_cons (pv 0) pa_nil)) pe_int) (pa_cons pe_int pa_nil)))))), ?_⟩
    refine ⟨_, rfl, .inl ⟨c, rfl, _, _, rfl, rfl, ⟨by decide, by decide, by decide⟩, _, _, rfl, rfl, _, _, rfl, ?_⟩⟩
    refine ⟨_, rfl, .inl ⟨c, rfl, _, _, rfl, rfl, (by show (0 : Int) < 999999999989; decide), (by show 3 ≤ sizeLine; decide), fun b nb => ?_⟩⟩
    refine k b _ nb (Stp.new nb _) ⟨_, _, _, upd_same, ?_⟩
    have m1 : 0 ≤ c % 999999999989 := Int.emod_nonneg _ (by decide)
    have m2 : c % 999999999989 < 999999999989 := Int.emod_lt_of_pos _ (by decide)
    refine ⟨?_, m1, by omega, by omega, by omega⟩
    split <;> omega
def spDraw : Sp := fun vs H Q _ => ∃ (b : Addr) (up : Int) (n : Nat), vs = [.ref b, .int up] ∧ Bag H b n ∧ n < 2 ^ 30 ∧ 0 < up ∧ up < 2 ^ 30 ∧
  ∀ d H', 0 ≤ d → d < up → Only b H H' → Bag H' b (n + 1) → Q (.int d) H'
theorem cl__law_draw {f : Addr} {fd : FuncData} (D : Df K mg "_law_draw" s__law_draw ["bag", "upto"] f fd) (T : Nm mg) : Cl P w K mg base 1 "_law_draw" s__law_draw ["bag", "upto"] spDraw := by
  refine D.cl sc__law_draw (fun vs H Q E h => ?_) (fun cdv A outer s H vs Q E hr h => ?_)
  · obtain ⟨b, up, n, rfl, _⟩ := h
    rfl
  · obtain ⟨b, up, n, rfl, ⟨x, y, z, hb, x0, y0, y1, z0, z1⟩, hn, u0, u1, k⟩ := h
    refine ⟨_, (pss_cons (ps_if (pt_cmpR op_gt (pe_ix ix_list (pv 0) pe_int (fun _ _ => rfl)) pe_int (by first | exact nomark _ | rfl)) (pss_cons (ps_set (i := 2) sc__law_draw.nd rfl (by first | exact Or.inl rfl | exact Or.inr rfl) (pe_op op_mod (pe_callTy call_int1 (by rfl) T.n_int (by decide +kernel) (pa_cons (pe_ix ix_list (pv 0) pe_int (fun _ _ => rfl)) pa_nil)) (pv 1)))
      (pss_cons (ps_asg (pe_op op_fdivW (pe_ix ix_list (pv 0) pe_int (fun _ _ => rfl)) (pv 1)) (pg_sub (pv 0) pe_int set_list))
      (pss_one (ps_ret (pv 2))))) pss_nil)
      (pss_cons (ps_set (i := 3) sc__law_draw.nd rfl (by first | exact Or.inl rfl | exact Or.inr rfl) (pe_op op_add (pe_ix ix_list (pv 0) pe_int (fun _ _ => rfl)) pe_int))
      (pss_cons (ps_asg (pv 3) (pg_sub (pv 0) pe_int set_list))
      (pss_cons (ps_set (i := 4) sc__law_draw.nd rfl (by first | exact Or.inl rfl | exact Or.inr rfl) (pe_op op_add (pe_op op_mulW (pe_op op_add (pe_ix ix_list (pv 0) pe_int (fun _ _ => rfl)) pe_int) (pe_op op_add (pe_op op_add (pe_op op_mulW (pv 3) (pv 3)) (pe_op op_mulW pe_int (pv 3))) pe_int)) (pe_op op_mulW pe_int (pv 3))))
      (pss_cons (ps_set (i := 4) sc__law_draw.nd rfl (by first | exact Or.inl rfl | exact Or.inr rfl) (pe_op op_fdivW (pe_op op_mod (pe_callTy call_int1 (by rfl) T.n_int (by decide +kernel) (pa_cons (pe_op op_add (pe_op op_add (pe_op op_mulW (pv 4) (pv 4)) (pe_op op_mulW pe_int (pv 4))) (pv 3)) pa_nil)) pe_int) pe_int))
      (pss_one (ps_ret (pe_op op_mod (pe_op op_fdivW (pe_op op_mod (pe_callTy call_int1 (by rfl) T.n_int (by decide +kernel) (pa_cons (pe_op op_add (pe_op op_add (pe_op op_mulW (pv 4) (pv 4)) (pe_op op_mulW pe_int (pv 4))) (pv 3)) pa_nil)) pe_int) pe_int) (pv 1))))))))), ?_⟩
    refine ⟨_, rfl, b, _, 0, .int x, rfl, rfl, SqL.of hb, rfl, _, _, rfl, rfl, _, rfl, ite2 (fun hx => ?_) (fun hx => ?_)⟩
    · refine ⟨_, rfl, b, _, 0, .int x, rfl, rfl, SqL.of hb, rfl, .inl ⟨x, rfl, _, rfl, _, _, rfl, rfl, u0, ?_⟩⟩
      refine ⟨_, rfl, b, _, 0, .int x, rfl, rfl, SqL.of hb, rfl, _, rfl, _, _, rfl, rfl, cdiv 30 u0 u1 (by decide) (by decide), ?_⟩
      refine ⟨_, rfl, b, _, 0, 0, rfl, rfl, hb, rfl, ?_⟩
      refine ⟨_, rfl, k _ _ (Int.emod_nonneg _ (by omega)) (Int.emod_lt_of_pos _ u0) ⟨_, rfl⟩ ⟨_, _, _, upd_same, ?_⟩⟩
      exact ⟨Int.ediv_nonneg x0 (by omega), y0, y1, z0, by omega⟩
    · refine ⟨_, rfl, b, _, 2, .int z, rfl, rfl, SqL.of hb, rfl, _, _, rfl, rfl, ?_⟩
      obtain ⟨t, et⟩ : ∃ t, t = z + 1 := ⟨_, rfl⟩
      dsimp only
      rw [← et]
      have t0 : 0 ≤ t := by omega
      have t1 : t < 2 ^ 31 := by omega
      refine ⟨_, rfl, _, rfl, b, _, 2, 2, rfl, rfl, hb, rfl, ?_⟩
      have a1 := mul_lt (a := 31) (b := 31) t0 t1 t0 t1
      have a2 := mul_lt (i := 1009) (a := 10) (b := 31) (by decide) (by decide) t0 t1
      have a3 := mul_lt (i := y + 5) (j := t * t + 1009 * t + 61) (a := 41) (b := 63) (by omega) (by omega) (by omega) (by omega)
      have a4 := mul_lt (i := 9176) (a := 14) (b := 31) (by decide) (by decide) t0 t1
      refine ⟨_, rfl, b, _, 1, .int y, rfl, rfl, SqL.of upd_same, rfl, _, _, rfl, rfl,
        _, rfl, _, rfl, _, _, rfl, rfl, cmul 31 31 t0 t1 t0 t1 (by decide) (by decide) (by decide),
        _, rfl, _, _, rfl, rfl, cmul 10 31 (by decide) (by decide) t0 t1 (by decide) (by decide) (by decide), _, _, rfl, rfl, _, _, rfl, rfl,
        _, _, rfl, rfl, cmul 41 63 (by omega) (by omega) (by omega) (by omega) (by decide) (by decide) (by decide),
        _, rfl, _, _, rfl, rfl, cmul 14 31 (by decide) (by decide) t0 t1 (by decide) (by decide) (by decide), _, _, rfl, rfl, ?_⟩
      obtain ⟨m, em⟩ : ∃ m, m = (y + 5) * (t * t + 1009 * t + 61) + 9176 * t := ⟨_, rfl⟩
      dsimp only
      rw [← em]
      have m0 : 0 ≤ m := by omega
      have m1 : m < 2 ^ 105 := by omega
      refine ⟨_, rfl, _, rfl, _, _, rfl, rfl, cmul 105 105 m0 m1 m0 m1 (by decide) (by decide) (by decide),
        _, rfl, _, _, rfl, rfl, cmul 20 105 (by decide) (by decide) m0 m1 (by decide) (by decide) (by decide), _, _, rfl, rfl,
        _, rfl, _, _, rfl, rfl, .inl ⟨_, rfl, _, _, rfl, rfl, (by show (0 : Int) < 1000000000039; decide), _, _, rfl, rfl, cdiv 8 (by decide) (by decide) (by decide) (by decide), ?_⟩⟩
      obtain ⟨v, ev⟩ : ∃ v, v = (m * m + 524287 * m + t) % 1000000000039 / 131 := ⟨_, rfl⟩
      dsimp only
      rw [← ev]
      have w0 : 0 ≤ (m * m + 524287 * m + t) % 1000000000039 := Int.emod_nonneg _ (by decide)
      have w1 : (m * m + 524287 * m + t) % 1000000000039 < 1000000000039 := Int.emod_lt_of_pos _ (by decide)
      have v0 : 0 ≤ v := by omega
      have v1 : v < 2 ^ 40 := by omega
      refine ⟨_, rfl, _, rfl, _, _, rfl, rfl, cmul 40 40 v0 v1 v0 v1 (by decide) (by decide) (by decide),
        _, rfl, _, _, rfl, rfl, cmul 13 40 (by decide) (by decide) v0 v1 (by decide) (by decide) (by decide), _, _, rfl, rfl,
        _, rfl, _, _, rfl, rfl, .inl ⟨_, rfl, _, _, rfl, rfl, (by show (0 : Int) < 2147483587; decide), _, _, rfl, rfl, cdiv 5 (by decide) (by decide) (by decide) (by decide), _, rfl, _, _, rfl, rfl, u0, ?_⟩⟩
      exact k _ _ (Int.emod_nonneg _ (by omega)) (Int.emod_lt_of_pos _ u0) ⟨_, rfl⟩ ⟨_, _, _, upd_same, x0, y0, y1, by omega, by omega⟩
abbrev s__law_text : Stmt := topS 27
abbrev N__law_text : List Str := ["bag", "size", "k"]
theorem sc__law_text : FnScope ["bag", "size", "k"] ["bag"] (defScope s__law_text) := ⟨rfl, rfl, rfl, by decide +kernel, rfl, by decide +kernel, by decide +kernel⟩

/-! ### drawn texts -/
def spText : Sp := fun vs H Q _ => ∃ (b : Addr) (n : Nat), vs = [.ref b] ∧ Bag H b n ∧ n + 20 < 2 ^ 30 ∧ ∀ l H', Abc l → l.length ≤ 12 → Stp [b] H H' → Bag H' b (n + 14) → Q (Tx l) H'
theorem cl__law_text {f : Addr} {fd : FuncData} (D : Df K mg "_law_text" s__law_text ["bag"] f fd) (T : Nm mg) (c__law_draw : Cl P w K mg base 1 "_law_draw" s__law_draw ["bag", "upto"] spDraw) : Cl P w K mg base 2 "_law_text" s__law_text ["bag"] spText := by
  refine D.cl sc__law_text (fun vs H Q E h => ?_) (fun cdv A outer s H vs Q E hr h => ?_)
  · obtain ⟨b, n, rfl, _⟩ := h
    rfl
  · obtain ⟨b, n, rfl, B, hn, k⟩ := h
    refine ⟨_, (pss_cons (ps_set (i := 1) sc__law_text.nd rfl (by first | exact Or.inl rfl | exact Or.inr rfl) (pe_cl c__law_draw hr (by omega) (pa_cons (pv 0) (pa_cons (pe_ix ix_list (pe_lst (pa_cons pe_int (pa_cons pe_int (pa_cons pe_int (pa_cons pe_int pa_nil))))) (pe_cl c__law_draw hr (by omega) (pa_cons (pv 0) (pa_cons pe_int pa_nil))) (fun _ _ => rfl)) pa_nil))))
      (pss_one (ps_ret (pe_join pe_str (pe_lc (own := [("k", 2)]) rfl sc__law_text.nd (pi_range1 (by rfl) T.n_range (pa_cons (pv 1) pa_nil)) (blkOk_by (own := [("k", 2)]) (N := N__law_text) (sc := defScope s__law_text) (by decide +kernel)) (fun _ _ _ _ _ => (pg_name (i := 2) sc__law_text.nd rfl (by first | exact Or.inl rfl | exact Or.inr rfl))) (fun _ _ _ _ _ => pts_nil) (fun _ _ _ _ _ => (pe_ix ix_str pe_str (pe_cl c__law_draw hr (by omega) (pa_cons (pv 0) (pa_cons pe_int pa_nil))) (fun _ _ => rfl)))))))), ?_⟩
    refine ⟨_, rfl, (by show 4 ≤ sizeLine; decide), fun l nl => ?_⟩
    have S1 : Stp [b] H (upd H l (.lst [.int 3, .int 4, .int 6, .int 13])) := Stp.new nl _
    refine ⟨_, rfl, b, 4, n, rfl, B.upd (B.ne nl), by omega, by decide, by decide, fun d H2 d0 d1 o1 B1 => ?_⟩
    have S2 : Stp [b] H H2 := S1.trans (o1.stp (List.mem_singleton.mpr rfl))
    have hl : H2 l = some (.lst [.int 3, .int 4, .int 6, .int 13]) := o1.at upd_same (B.ne nl).symm
    obtain ⟨u, mu, eu⟩ := pick_int (ns := [3, 4, 6, 13]) d0 d1
    have u0 : 0 < u ∧ u ≤ 13 := by
      simp at mu
      omega
    refine ⟨l, _, d, .int u, rfl, rfl, SqL.of hl, eu, b, u, n + 1, rfl, B1, by omega, u0.1, by omega, fun z H3 z0 z1 o2 B2 => ?_⟩
    have S3 : Stp [b] H H3 := S2.trans (o2.stp (List.mem_singleton.mpr rfl))
    refine ⟨⟨_, rfl⟩, _, rfl, z, rfl, by omega, by omega, fun L nL => ?_⟩
    refine lc_range (lo := 0) (n := z.toNat) (fun i H4 => ∃ cs : List Nat, Abc cs ∧ cs.length = i ∧ H4 L = some (.lst (cs.map fun c => Tx [c])) ∧ Stp [b] H3 H4 ∧ Bag H4 b (n + 2 + i))
      ⟨[], Abc.nil, rfl, upd_same, Stp.new nL _, B2.upd (B2.ne nL)⟩ ?_ ?_
    · rintro i H4 hi ⟨cs, ha, hcl, hL, S4, B4⟩
      refine ⟨rfl, _, rfl, b, 3, _, rfl, B4, by omega, by decide, by decide, fun d H5 d0 d1 o3 B5 => ?_⟩
      obtain ⟨c, mc, ec⟩ := pick (xs := [97, 98, 99]) d0 d1
      have nLb : L ≠ b := (B2.ne nL).symm
      have hL5 : H5 L = some (.lst (cs.map fun c => Tx [c])) := o3.at hL nLb
      have S5 : Stp [b] H4 H5 := o3.stp (List.mem_singleton.mpr rfl)
      have hc : c = 97 ∨ c = 98 ∨ c = 99 := by
        simp at mc
        exact mc
      refine ⟨("abc" : Str), d, c, rfl, rfl, (by rw [abc_lit]; exact szt (by decide)), (by rw [abc_lit]; exact ec), cs.map fun c => Tx [c], hL5, ?_, ?_⟩
      · rw [List.length_map, hcl]
        exact Nat.lt_of_lt_of_le (show i < 100000 by omega) (by decide)
      · refine ⟨cs ++ [c], ha.app (Abc.one hc), by simp [hcl], ?_, ?_, ?_⟩
        · rw [List.map_append]
          exact upd_same
        · exact (S4.trans S5).mut nL
        · exact B5.upd nLb.symm
    · rintro H4 ⟨cs, ha, hcl, hL, S4, B4⟩
      refine ⟨_, L, cs.map (fun c => tx [c]), rfl, rfl, .inl (SqL.of (by rw [List.map_map]; exact hL)), ?_, ?_⟩
      · rw [List.map_map, nil_lit]
        have e : ∀ l : List Nat, (l.map ((fun x : Str => x.length) ∘ fun c => tx [c])).sum = l.length := by
          intro l
          induction l with
          | nil => rfl
          | cons x l ih =>
            rw [List.map_cons, List.sum_cons, ih, List.length_cons]
            show (tx [x]).length + l.length = l.length + 1
            rw [tx_len]
            simp
            omega
        rw [e, List.length_map, tx_len]
        simp
        omega
      · rw [nil_lit, join_abc]
        exact k _ _ ha (by omega) (S3.trans S4) (B4.mono (by omega))
abbrev s_is_text : Stmt := topS 20
abbrev N_is_text : List Str := ["value"]
theorem sc_is_text : FnScope ["value"] ["value"] (defScope s_is_text) := ⟨rfl, rfl, rfl, by decide +kernel, rfl, by decide +kernel, by decide +kernel⟩

/-! ### is_text -/
def IsTx (d : Dt) : Prop := ∃ l, d = .str l ∧ Abc l
def spIsText (K : PySem.W.Frag) : Sp := fun vs H Q _ => ∃ v d, vs = [v] ∧ Rp K H v d ∧ ∀ b : Bool, (b = true ↔ IsTx d) → Q (.bl b) H
theorem cl_is_text {f : Addr} {fd : FuncData} (D : Df K mg "is_text" s_is_text ["value"] f fd) (T : Nm mg) : Cl P w K mg base 1 "is_text" s_is_text ["value"] (spIsText K) := by
  refine D.cl sc_is_text (fun vs H Q E h => ?_) (fun cdv A outer s H vs Q E hr h => ?_)
  · obtain ⟨v, d, rfl, _⟩ := h
    rfl
  · obtain ⟨v, d, rfl, r, k⟩ := h
    refine ⟨_, (pss_one (ps_ret (pe_and (pe_tyIs (T := "str") Mono.var (pv 0) T.n_type T.n_str (by decide +kernel)) (pe_one (pe_cmpR op_eq (pe_bm PySem.F.plainAttrs_str PySem.F.slot_str_strip PySem.F.type_str_strip mt_stripChars (pv 0) (pa_cons pe_str pa_nil)) pe_str (by first | exact nomark _ | rfl)))))), ?_⟩
    have no : (∀ l, d ≠ .str l) → Q (.bl false) H := fun n => k false ⟨fun e => (nomatch e), fun ⟨l, e, _⟩ => absurd e (n l)⟩
    refine ⟨_, rfl, d, r, _, rfl, ?_⟩
    cases r with
    | str l hl =>
      refine ⟨_, rfl, rfl, tx l, ("abc" : Str), rfl, rfl, szt hl, rfl, ?_⟩
      refine k _ ?_
      rw [abc_lit, nil_lit]
      constructor
      · intro h
        exact ⟨l, rfl, (strip_abc l).mp (V.str.inj (of_decide_eq_true h))⟩
      · rintro ⟨l', e, ha⟩
        cases e
        exact decide_eq_true (congrArg V.str ((strip_abc l).mpr ha))
    | _ => exact no (fun l e => nomatch e)
abbrev s_check_text : Stmt := topS 21
abbrev N_check_text : List Str := ["text"]
theorem sc_check_text : FnScope ["text"] ["text"] (defScope s_check_text) := ⟨rfl, rfl, rfl, by decide +kernel, rfl, by decide +kernel, by decide +kernel⟩

abbrev s_behind : Stmt := topS 22
abbrev N_behind : List Str := ["text"]
theorem sc_behind : FnScope ["text"] ["text"] (defScope s_behind) := ⟨rfl, rfl, rfl, by decide +kernel, rfl, by decide +kernel, by decide +kernel⟩

abbrev s_beyond : Stmt := topS 23
abbrev N_beyond : List Str := ["text", "stem"]
theorem sc_beyond : FnScope ["text", "stem"] ["text"] (defScope s_beyond) := ⟨rfl, rfl, rfl, by decide +kernel, rfl, by decide +kernel, by decide +kernel⟩

/-! ### what is refused -/
/-- a value that is no text: an error of the class at C -/
def spBad (K : PySem.W.Frag) (C : Addr) : Sp := fun vs H Q E => ∃ v d, vs = [v] ∧ Rp K H v d ∧ ¬ IsTx d ∧ E (.ref C) none H
theorem cl_check_textX {f : Addr} {fd : FuncData} (D : Df K mg "check_text" s_check_text ["text"] f fd) (T : Nm mg) (TX : Er K mg) (c_is_text : Cl P w K mg base 1 "is_text" s_is_text ["value"] (spIsText K)) : ClX P w K mg base 2 "check_text" s_check_text ["text"] (spBad K TX.C_InvalidText) := by
  refine D.clX sc_check_text (fun vs H Q E h => ?_) (fun cdv A outer s H vs Q E hr h tk => ?_)
  · obtain ⟨v, d, rfl, _⟩ := h
    rfl
  · obtain ⟨v, d, rfl, r, no, k⟩ := h
    refine ⟨_, (pss_one (ps_if (pt_not (pt_val (pe_cl c_is_text hr (by omega) (pa_cons (pv 0) pa_nil)))) (pss_one (ps_raise1 rfl tk TX.e_InvalidText)) pss_nil)), ?_⟩
    refine ⟨_, rfl, v, d, rfl, r, fun b hb => ?_⟩
    have : b = false := by
      rw [Bool.eq_false_iff]
      exact fun e => no (hb.mp e)
    subst this
    exact ⟨_, rfl, ite2 (fun _ => k) (fun h => absurd rfl h)⟩
theorem cl_behindX {f : Addr} {fd : FuncData} (D : Df K mg "behind" s_behind ["text"] f fd) (T : Nm mg) (TX : Er K mg) (c_check_textX : ClX P w K mg base 2 "check_text" s_check_text ["text"] (spBad K TX.C_InvalidText)) : ClX P w K mg base 3 "behind" s_behind ["text"] (spBad K TX.C_InvalidText) := by
  refine D.clX sc_behind (fun vs H Q E h => ?_) (fun cdv A outer s H vs Q E hr h tk => ?_)
  · obtain ⟨v, d, rfl, _⟩ := h
    rfl
  · obtain ⟨v, d, rfl, r, no, k⟩ := h
    refine ⟨_, (pss_cons (ps_expr (pe_clX c_check_textX tk hr (by omega) (pa_cons (pv 0) pa_nil)))
      (pss_one (ps_ret (pe_op op_add_str (pv 0) pe_str)))), ?_⟩
    exact ⟨_, rfl, v, d, rfl, r, no, k⟩
theorem cl_beyondX {f : Addr} {fd : FuncData} (D : Df K mg "beyond" s_beyond ["text"] f fd) (T : Nm mg) (TX : Er K mg) (TG : Ng K w mg) (c_check_textX : ClX P w K mg base 2 "check_text" s_check_text ["text"] (spBad K TX.C_InvalidText)) : ClX P w K mg base 3 "beyond" s_beyond ["text"] (spBad K TX.C_InvalidText) := by
  refine D.clX sc_beyond (fun vs H Q E h => ?_) (fun cdv A outer s H vs Q E hr h tk => ?_)
  · obtain ⟨v, d, rfl, _⟩ := h
    rfl
  · obtain ⟨v, d, rfl, r, no, k⟩ := h
    refine ⟨_, (pss_cons (ps_expr (pe_clX c_check_textX tk hr (by omega) (pa_cons (pv 0) pa_nil)))
      (pss_cons (ps_set (i := 1) sc_beyond.nd rfl (by first | exact Or.inl rfl | exact Or.inr rfl) (pe_bm PySem.F.plainAttrs_str PySem.F.slot_str_rstrip PySem.F.type_str_rstrip mt_rstripChars (pv 0) (pa_cons pe_str pa_nil)))
      (pss_one (ps_ret (pe_ifExp (pt_truth (pv 1) (by intro _; rfl)) (pe_op op_add_str (pe_slice sl_str (pv 1) po_none (po_some (pe_un un_neg pe_int))) (pe_ix ix_kdict (pe_glob (v := .ref TG.NEXT_LETTERS) rfl TG.g_NEXT_LETTERS rfl) (pe_ix ix_str (pv 1) (pe_un un_neg pe_int) (fun _ _ => rfl)) (fun _ _ => rfl))) pe_non))))), ?_⟩
    exact ⟨_, rfl, v, d, rfl, r, no, k⟩
abbrev s__law_names : Stmt := topS 30
abbrev N__law_names : List Str := ["caught", "marks", "words", "k"]
theorem sc__law_names : FnScope ["caught", "marks", "words", "k"] ["caught"] (defScope s__law_names) := ⟨rfl, rfl, rfl, by decide +kernel, rfl, by decide +kernel, by decide +kernel⟩

abbrev s__law_refused : Stmt := topS 31
abbrev N__law_refused : List Str := ["far", "by_name", "odd", "caught", "e"]
theorem sc__law_refused : FnScope ["far", "by_name", "odd", "caught", "e"] ["far", "by_name", "odd"] (defScope s__law_refused) := ⟨rfl, rfl, rfl, by decide +kernel, rfl, by decide +kernel, by decide +kernel⟩

/-! ### the name of an error -/
theorem call_isKK {X : Cx} {K : PySem.W.Frag} (hK : X.K = K) : CallR X (.builtin "isinstance") (rIsK K) := by
  subst hK
  exact call_isK
theorem rv_ref {a : Addr} : ∀ u, RelV (.ref a) u → u = .ref a := fun u r => by
  cases r
  rfl
def wordsV : List V := [.str "text", .str "value", .str "span", .str "filter", .str "rule", .str "page", .str "note", .str "column", .str "index", .str "number", .str "code", .str "block", .str "undo", .str "full", .str "command", .str "words", .str "error"]
def testV : List V := [.bl true, .bl false, .bl false, .bl false, .bl false, .bl false, .bl false, .bl false, .bl false, .bl false, .bl false, .bl false, .bl false, .bl false, .bl false, .bl false, .bl true]
def resV (i : Nat) : List V := if i = 0 then [] else if i < 17 then [.str "text"] else [.str "text", .str "error"]
theorem res_len (i : Nat) : (resV i).length ≤ 2 := by
  unfold resV
  split
  · decide
  · split <;> decide
def wdV (i : Nat) : V := (wordsV[i]?).getD .non
theorem res_step {i : Nat} (h : i < 17) : testV[i]? = some (.bl (decide (i = 0 ∨ i = 16))) ∧ wordsV[i]? = some (wdV i) ∧ resV (i + 1) = resV i ++ (if decide (i = 0 ∨ i = 16) = true then [wdV i] else []) := by
  have go : ∀ j : Fin 17, testV[j.val]? = some (.bl (decide (j.val = 0 ∨ j.val = 16))) ∧ wordsV[j.val]? = some (wdV j.val) ∧ resV (j.val + 1) = resV j.val ++ (if decide (j.val = 0 ∨ j.val = 16) = true then [wdV j.val] else []) := by
    intro j
    rcases j with ⟨j, hj⟩
    match j, hj with
    | 0, _ => exact ⟨rfl, rfl, rfl⟩
    | 1, _ => exact ⟨rfl, rfl, rfl⟩
    | 2, _ => exact ⟨rfl, rfl, rfl⟩
    | 3, _ => exact ⟨rfl, rfl, rfl⟩
    | 4, _ => exact ⟨rfl, rfl, rfl⟩
    | 5, _ => exact ⟨rfl, rfl, rfl⟩
    | 6, _ => exact ⟨rfl, rfl, rfl⟩
    | 7, _ => exact ⟨rfl, rfl, rfl⟩
    | 8, _ => exact ⟨rfl, rfl, rfl⟩
    | 9, _ => exact ⟨rfl, rfl, rfl⟩
    | 10, _ => exact ⟨rfl, rfl, rfl⟩
    | 11, _ => exact ⟨rfl, rfl, rfl⟩
    | 12, _ => exact ⟨rfl, rfl, rfl⟩
    | 13, _ => exact ⟨rfl, rfl, rfl⟩
    | 14, _ => exact ⟨rfl, rfl, rfl⟩
    | 15, _ => exact ⟨rfl, rfl, rfl⟩
    | 16, _ => exact ⟨rfl, rfl, rfl⟩
    | n + 17, h => exact absurd h (by omega)
  exact go ⟨i, h⟩
theorem rv_ve : ∀ u, RelV (.ty "ValueError") u → u = .type "ValueError" := fun u r => by
  cases r
  rfl
def spNames (K : PySem.W.Frag) (C : Addr) : Sp := fun vs H Q _ => ∃ a, vs = [.ref a] ∧ H a = some (ExK (.ref C) a) ∧ ∀ L H', Stp [] H H' → H' L = some (.lst [.str "text", .str "error"]) → Q (.ref L) H'
theorem cl__law_names {f : Addr} {fd : FuncData} (D : Df K mg "_law_names" s__law_names ["caught"] f fd) (T : Nm mg) (TX : Er K mg) : Cl P w K mg base 1 "_law_names" s__law_names ["caught"] (spNames K TX.C_InvalidText) := by
  refine D.cl sc__law_names (fun vs H Q E h => ?_) (fun cdv A outer s H vs Q E hr h => ?_)
  · obtain ⟨a, rfl, _⟩ := h
    rfl
  · obtain ⟨a, rfl, ha, k⟩ := h
    refine ⟨_, (pss_cons (ps_set (i := 1) sc__law_names.nd rfl (by first | exact Or.inl rfl | exact Or.inr rfl) (pe_lst (pa_cons (pe_callB call_isK (by rfl) T.n_isinstance (by decide +kernel) (pa_cons (pv 0) (pa_cons (pe_glob (v := .ref TX.C_InvalidText) rfl TX.g_InvalidText rfl) pa_nil))) (pa_cons (pe_callB call_isK (by rfl) T.n_isinstance (by decide +kernel) (pa_cons (pv 0) (pa_cons (pe_glob (v := .ref TX.C_InvalidValue) rfl TX.g_InvalidValue rfl) pa_nil))) pa_nil))))
      (pss_cons (ps_set (i := 1) sc__law_names.nd rfl (by first | exact Or.inl rfl | exact Or.inr rfl) (pe_op op_cat (pv 1) (pe_lst (pa_cons (pe_callB call_isK (by rfl) T.n_isinstance (by decide +kernel) (pa_cons (pv 0) (pa_cons (pe_glob (v := .ref TX.C_InvalidSpan) rfl TX.g_InvalidSpan rfl) pa_nil))) (pa_cons (pe_callB call_isK (by rfl) T.n_isinstance (by decide +kernel) (pa_cons (pv 0) (pa_cons (pe_glob (v := .ref TX.C_InvalidFilter) rfl TX.g_InvalidFilter rfl) pa_nil))) pa_nil)))))
      (pss_cons (ps_set (i := 1) sc__law_names.nd rfl (by first | exact Or.inl rfl | exact Or.inr rfl) (pe_op op_cat (pv 1) (pe_lst (pa_cons (pe_callB call_isK (by rfl) T.n_isinstance (by decide +kernel) (pa_cons (pv 0) (pa_cons (pe_glob (v := .ref TX.C_InvalidRule) rfl TX.g_InvalidRule rfl) pa_nil))) (pa_cons (pe_callB call_isK (by rfl) T.n_isinstance (by decide +kernel) (pa_cons (pv 0) (pa_cons (pe_glob (v := .ref TX.C_InvalidPage) rfl TX.g_InvalidPage rfl) pa_nil))) pa_nil)))))
      (pss_cons (ps_set (i := 1) sc__law_names.nd rfl (by first | exact Or.inl rfl | exact Or.inr rfl) (pe_op op_cat (pv 1) (pe_lst (pa_cons (pe_callB call_isK (by rfl) T.n_isinstance (by decide +kernel) (pa_cons (pv 0) (pa_cons (pe_glob (v := .ref TX.C_InvalidNote) rfl TX.g_InvalidNote rfl) pa_nil))) (pa_cons (pe_callB call_isK (by rfl) T.n_isinstance (by decide +kernel) (pa_cons (pv 0) (pa_cons (pe_glob (v := .ref TX.C_InvalidColumn) rfl TX.g_InvalidColumn rfl) pa_nil))) pa_nil)))))
      (pss_cons (ps_set (i := 1) sc__law_names.nd rfl (by first | exact Or.inl rfl | exact Or.inr rfl) (pe_op op_cat (pv 1) (pe_lst (pa_cons (pe_callB call_isK (by rfl) T.n_isinstance (by decide +kernel) (pa_cons (pv 0) (pa_cons (pe_glob (v := .ref TX.C_InvalidIndex) rfl TX.g_InvalidIndex rfl) pa_nil))) (pa_cons (pe_callB call_isK (by rfl) T.n_isinstance (by decide +kernel) (pa_cons (pv 0) (pa_cons (pe_glob (v := .ref TX.C_InvalidNumber) rfl TX.g_InvalidNumber rfl) pa_nil))) pa_nil)))))
      (pss_cons (ps_set (i := 1) sc__law_names.nd rfl (by first | exact Or.inl rfl | exact Or.inr rfl) (pe_op op_cat (pv 1) (pe_lst (pa_cons (pe_callB call_isK (by rfl) T.n_isinstance (by decide +kernel) (pa_cons (pv 0) (pa_cons (pe_glob (v := .ref TX.C_InvalidCode) rfl TX.g_InvalidCode rfl) pa_nil))) (pa_cons (pe_callB call_isK (by rfl) T.n_isinstance (by decide +kernel) (pa_cons (pv 0) (pa_cons (pe_glob (v := .ref TX.C_NoBlock) rfl TX.g_NoBlock rfl) pa_nil))) pa_nil)))))
      (pss_cons (ps_set (i := 1) sc__law_names.nd rfl (by first | exact Or.inl rfl | exact Or.inr rfl) (pe_op op_cat (pv 1) (pe_lst (pa_cons (pe_callB call_isK (by rfl) T.n_isinstance (by decide +kernel) (pa_cons (pv 0) (pa_cons (pe_glob (v := .ref TX.C_NothingToUndo) rfl TX.g_NothingToUndo rfl) pa_nil))) (pa_cons (pe_callB call_isK (by rfl) T.n_isinstance (by decide +kernel) (pa_cons (pv 0) (pa_cons (pe_glob (v := .ref TX.C_Full) rfl TX.g_Full rfl) pa_nil))) pa_nil)))))
      (pss_cons (ps_set (i := 1) sc__law_names.nd rfl (by first | exact Or.inl rfl | exact Or.inr rfl) (pe_op op_cat (pv 1) (pe_lst (pa_cons (pe_callB call_isK (by rfl) T.n_isinstance (by decide +kernel) (pa_cons (pv 0) (pa_cons (pe_glob (v := .ref TX.C_InvalidCommand) rfl TX.g_InvalidCommand rfl) pa_nil))) (pa_cons (pe_callB call_isK (by rfl) T.n_isinstance (by decide +kernel) (pa_cons (pv 0) (pa_cons (pe_glob (v := .ref TX.C_InvalidWords) rfl TX.g_InvalidWords rfl) pa_nil))) pa_nil)))))
      (pss_cons (ps_set (i := 2) sc__law_names.nd rfl (by first | exact Or.inl rfl | exact Or.inr rfl) (pe_lst (pa_cons pe_str (pa_cons pe_str (pa_cons pe_str (pa_cons pe_str (pa_cons pe_str (pa_cons pe_str (pa_cons pe_str (pa_cons pe_str (pa_cons pe_str (pa_cons pe_str (pa_cons pe_str pa_nil)))))))))))))
      (pss_cons (ps_set (i := 2) sc__law_names.nd rfl (by first | exact Or.inl rfl | exact Or.inr rfl) (pe_op op_cat (pv 2) (pe_lst (pa_cons pe_str (pa_cons pe_str (pa_cons pe_str (pa_cons pe_str (pa_cons pe_str (pa_cons pe_str pa_nil)))))))))
      (pss_one (ps_ret (pe_lc (own := [("k", 3)]) rfl sc__law_names.nd (pi_range1 (by rfl) T.n_range (pa_cons pe_int pa_nil)) (blkOk_by (own := [("k", 3)]) (N := N__law_names) (sc := defScope s__law_names) (by decide +kernel)) (fun _ _ _ _ _ => (pg_name (i := 3) sc__law_names.nd rfl (by first | exact Or.inl rfl | exact Or.inr rfl))) (fun _ _ _ _ _ => (pts_one (pt_val (pe_ix (ix_listK rfl) (pe_op op_cat (pv 1) (pe_lst (pa_cons (pe_callB (call_isKK rfl) (by rfl) T.n_isinstance (by decide +kernel) (pa_cons (pv 0) (pa_cons (pe_bltn (v := .ty "ValueError") (u := Value.type "ValueError") (by rfl) T.n_ValueError (by decide +kernel) rfl) pa_nil))) pa_nil))) (pv 3) (fun _ _ => rfl))))) (fun _ _ _ _ _ => (pe_ix (ix_listK rfl) (pv 2) (pv 3) (fun _ _ => rfl)))))))))))))))), ?_⟩
    have nn : ∀ {x : Addr}, x ∉ ([] : List Addr) := fun m => nomatch m
    have sz : ∀ {n : Nat}, n ≤ 1000 → n ≤ sizeLine := fun h => Nat.le_trans h (by decide)
    have cc := TX.c_InvalidText
    -- the first two
    refine ⟨_, rfl, a, _, _, _, _, rfl, cc, ha, rv_ref, TX.i_InvalidText, ?_⟩
    refine ⟨_, rfl, a, _, _, _, _, rfl, cc, ha, rv_ref, TX.i_InvalidValue, sz (by decide), fun p0 n0 => ?_⟩
    have S0 : Stp [] H (upd H p0 (.lst [.bl true, .bl false])) := Stp.new n0 _
    have h0 : (upd H p0 (.lst [.bl true, .bl false])) p0 = some (.lst [.bl true, .bl false]) := upd_same
    have a0 := S0.kp _ _ nn ha
    generalize upd H p0 (.lst [.bl true, .bl false]) = H0 at *
    -- InvalidSpan, InvalidFilter
    refine ⟨_, rfl, _, rfl, a, _, _, _, _, rfl, cc, a0, rv_ref, TX.i_InvalidSpan, ?_⟩
    refine ⟨_, rfl, a, _, _, _, _, rfl, cc, a0, rv_ref, TX.i_InvalidFilter, sz (by decide), fun q1 nq1 => ?_⟩
    have N1 : Stp [] H0 (upd H0 q1 (.lst [.bl false, .bl false])) := Stp.new nq1 _
    have e1 : (upd H0 q1 (.lst [.bl false, .bl false])) q1 = some (.lst [.bl false, .bl false]) := upd_same
    have g1 := N1.kp _ _ nn h0
    have b1 := N1.kp _ _ nn a0
    generalize upd H0 q1 (.lst [.bl false, .bl false]) = G1 at *
    refine ⟨p0, q1, _, _, rfl, rfl, g1, e1, sz (by decide), fun p1 n1 => ?_⟩
    have M1 : Stp [] G1 (upd G1 p1 (.lst [.bl true, .bl false, .bl false, .bl false])) := Stp.new n1 _
    have h1 : (upd G1 p1 (.lst [.bl true, .bl false, .bl false, .bl false])) p1 = some (.lst [.bl true, .bl false, .bl false, .bl false]) := upd_same
    have a1 := M1.kp _ _ nn b1
    have S1 := (S0.trans N1).trans M1
    show _
    have ee1 : (upd G1 p1 (.lst ([.bl true, .bl false] ++ [V.bl false, V.bl false]))) = (upd G1 p1 (.lst [.bl true, .bl false, .bl false, .bl false])) := rfl
    rw [ee1]
    generalize upd G1 p1 (.lst [.bl true, .bl false, .bl false, .bl false]) = H1 at *
    -- InvalidRule, InvalidPage
    refine ⟨_, rfl, _, rfl, a, _, _, _, _, rfl, cc, a1, rv_ref, TX.i_InvalidRule, ?_⟩
    refine ⟨_, rfl, a, _, _, _, _, rfl, cc, a1, rv_ref, TX.i_InvalidPage, sz (by decide), fun q2 nq2 => ?_⟩
    have N2 : Stp [] H1 (upd H1 q2 (.lst [.bl false, .bl false])) := Stp.new nq2 _
    have e2 : (upd H1 q2 (.lst [.bl false, .bl false])) q2 = some (.lst [.bl false, .bl false]) := upd_same
    have g2 := N2.kp _ _ nn h1
    have b2 := N2.kp _ _ nn a1
    generalize upd H1 q2 (.lst [.bl false, .bl false]) = G2 at *
    refine ⟨p1, q2, _, _, rfl, rfl, g2, e2, sz (by decide), fun p2 n2 => ?_⟩
    have M2 : Stp [] G2 (upd G2 p2 (.lst [.bl true, .bl false, .bl false, .bl false, .bl false, .bl false])) := Stp.new n2 _
    have h2 : (upd G2 p2 (.lst [.bl true, .bl false, .bl false, .bl false, .bl false, .bl false])) p2 = some (.lst [.bl true, .bl false, .bl false, .bl false, .bl false, .bl false]) := upd_same
    have a2 := M2.kp _ _ nn b2
    have S2 := (S1.trans N2).trans M2
    show _
    have ee2 : (upd G2 p2 (.lst ([.bl true, .bl false, .bl false, .bl false] ++ [V.bl false, V.bl false]))) = (upd G2 p2 (.lst [.bl true, .bl false, .bl false, .bl false, .bl false, .bl false])) := rfl
    rw [ee2]
    generalize upd G2 p2 (.lst [.bl true, .bl false, .bl false, .bl false, .bl false, .bl false]) = H2 at *
    -- InvalidNote, InvalidColumn
    refine ⟨_, rfl, _, rfl, a, _, _, _, _, rfl, cc, a2, rv_ref, TX.i_InvalidNote, ?_⟩
    refine ⟨_, rfl, a, _, _, _, _, rfl, cc, a2, rv_ref, TX.i_InvalidColumn, sz (by decide), fun q3 nq3 => ?_⟩
    have N3 : Stp [] H2 (upd H2 q3 (.lst [.bl false, .bl false])) := Stp.new nq3 _
    have e3 : (upd H2 q3 (.lst [.bl false, .bl false])) q3 = some (.lst [.bl false, .bl false]) := upd_same
    have g3 := N3.kp _ _ nn h2
    have b3 := N3.kp _ _ nn a2
    generalize upd H2 q3 (.lst [.bl false, .bl false]) = G3 at *
    refine ⟨p2, q3, _, _, rfl, rfl, g3, e3, sz (by decide), fun p3 n3 => ?_⟩
    have M3 : Stp [] G3 (upd G3 p3 (.lst [.bl true, .bl false, .bl false, .bl false, .bl false, .bl false, .bl false, .bl false])) := Stp.new n3 _
    have h3 : (upd G3 p3 (.lst [.bl true, .bl false, .bl false, .bl false, .bl false, .bl false, .bl false, .bl false])) p3 = some (.lst [.bl true, .bl false, .bl false, .bl false, .bl false, .bl false, .bl false, .bl false]) := upd_same
    have a3 := M3.kp _ _ nn b3
    have S3 := (S2.trans N3).trans M3
    show _
    have ee3 : (upd G3 p3 (.lst ([.bl true, .bl false, .bl false, .bl false, .bl false, .bl false] ++ [V.bl false, V.bl false]))) = (upd G3 p3 (.lst [.bl true, .bl false, .bl false, .bl false, .bl false, .bl false, .bl false, .bl false])) := rfl
    rw [ee3]
    generalize upd G3 p3 (.lst [.bl true, .bl false, .bl false, .bl false, .bl false, .bl false, .bl false, .bl false]) = H3 at *
    -- InvalidIndex, InvalidNumber
    refine ⟨_, rfl, _, rfl, a, _, _, _, _, rfl, cc, a3, rv_ref, TX.i_InvalidIndex, ?_⟩
    refine ⟨_, rfl, a, _, _, _, _, rfl, cc, a3, rv_ref, TX.i_InvalidNumber, sz (by decide), fun q4 nq4 => ?_⟩
    have N4 : Stp [] H3 (upd H3 q4 (.lst [.bl false, .bl false])) := Stp.new nq4 _
    have e4 : (upd H3 q4 (.lst [.bl false, .bl false])) q4 = some (.lst [.bl false, .bl false]) := upd_same
    have g4 := N4.kp _ _ nn h3
    have b4 := N4.kp _ _ nn a3
    generalize upd H3 q4 (.lst [.bl false, .bl false]) = G4 at *
    refine ⟨p3, q4, _, _, rfl, rfl, g4, e4, sz (by decide), fun p4 n4 => ?_⟩
    have M4 : Stp [] G4 (upd G4 p4 (.lst [.bl true, .bl false, .bl false, .bl false, .bl false, .bl false, .bl false, .bl false, .bl false, .bl false])) := Stp.new n4 _
    have h4 : (upd G4 p4 (.lst [.bl true, .bl false, .bl false, .bl false, .bl false, .bl false, .bl false, .bl false, .bl false, .bl false])) p4 = some (.lst [.bl true, .bl false, .bl false, .bl false, .bl false, .bl false, .bl false, .bl false, .bl false, .bl false]) := upd_same
    have a4 := M4.kp _ _ nn b4
    have S4 := (S3.trans N4).trans M4
    show _
    have ee4 : (upd G4 p4 (.lst ([.bl true, .bl false, .bl false, .bl false, .bl false, .bl false, .bl false, .bl false] ++ [V.bl false, V.bl false]))) = (upd G4 p4 (.lst [.bl true, .bl false, .bl false, .bl false, .bl false, .bl false, .bl false, .bl false, .bl false, .bl false])) := rfl
    rw [ee4]
    generalize upd G4 p4 (.lst [.bl true, .bl false, .bl false, .bl false, .bl false, .bl false, .bl false, .bl false, .bl false, .bl false]) = H4 at *
    -- InvalidCode, NoBlock
    refine ⟨_, rfl, _, rfl, a, _, _, _, _, rfl, cc, a4, rv_ref, TX.i_InvalidCode, ?_⟩
    refine ⟨_, rfl, a, _, _, _, _, rfl, cc, a4, rv_ref, TX.i_NoBlock, sz (by decide), fun q5 nq5 => ?_⟩
    have N5 : Stp [] H4 (upd H4 q5 (.lst [.bl false, .bl false])) := Stp.new nq5 _
    have e5 : (upd H4 q5 (.lst [.bl false, .bl false])) q5 = some (.lst [.bl false, .bl false]) := upd_same
    have g5 := N5.kp _ _ nn h4
    have b5 := N5.kp _ _ nn a4
    generalize upd H4 q5 (.lst [.bl false, .bl false]) = G5 at *
    refine ⟨p4, q5, _, _, rfl, rfl, g5, e5, sz (by decide), fun p5 n5 => ?_⟩
    have M5 : Stp [] G5 (upd G5 p5 (.lst [.bl true, .bl false, .bl false, .bl false, .bl false, .bl false, .bl false, .bl false, .bl false, .bl false, .bl false, .bl false])) := Stp.new n5 _
    have h5 : (upd G5 p5 (.lst [.bl true, .bl false, .bl false, .bl false, .bl false, .bl false, .bl false, .bl false, .bl false, .bl false, .bl false, .bl false])) p5 = some (.lst [.bl true, .bl false, .bl false, .bl false, .bl false, .bl false, .bl false, .bl false, .bl false, .bl false, .bl false, .bl false]) := upd_same
    have a5 := M5.kp _ _ nn b5
    have S5 := (S4.trans N5).trans M5
    show _
    have ee5 : (upd G5 p5 (.lst ([.bl true, .bl false, .bl false, .bl false, .bl false, .bl false, .bl false, .bl false, .bl false, .bl false] ++ [V.bl false, V.bl false]))) = (upd G5 p5 (.lst [.bl true, .bl false, .bl false, .bl false, .bl false, .bl false, .bl false, .bl false, .bl false, .bl false, .bl false, .bl false])) := rfl
    rw [ee5]
    generalize upd G5 p5 (.lst [.bl true, .bl false, .bl false, .bl false, .bl false, .bl false, .bl false, .bl false, .bl false, .bl false, .bl false, .bl false]) = H5 at *
    -- NothingToUndo, Full
    refine ⟨_, rfl, _, rfl, a, _, _, _, _, rfl, cc, a5, rv_ref, TX.i_NothingToUndo, ?_⟩
    refine ⟨_, rfl, a, _, _, _, _, rfl, cc, a5, rv_ref, TX.i_Full, sz (by decide), fun q6 nq6 => ?_⟩
    have N6 : Stp [] H5 (upd H5 q6 (.lst [.bl false, .bl false])) := Stp.new nq6 _
    have e6 : (upd H5 q6 (.lst [.bl false, .bl false])) q6 = some (.lst [.bl false, .bl false]) := upd_same
    have g6 := N6.kp _ _ nn h5
    have b6 := N6.kp _ _ nn a5
    generalize upd H5 q6 (.lst [.bl false, .bl false]) = G6 at *
    refine ⟨p5, q6, _, _, rfl, rfl, g6, e6, sz (by decide), fun p6 n6 => ?_⟩
    have M6 : Stp [] G6 (upd G6 p6 (.lst [.bl true, .bl false, .bl false, .bl false, .bl false, .bl false, .bl false, .bl false, .bl false, .bl false, .bl false, .bl false, .bl false, .bl false])) := Stp.new n6 _
    have h6 : (upd G6 p6 (.lst [.bl true, .bl false, .bl false, .bl false, .bl false, .bl false, .bl false, .bl false, .bl false, .bl false, .bl false, .bl false, .bl false, .bl false])) p6 = some (.lst [.bl true, .bl false, .bl false, .bl false, .bl false, .bl false, .bl false, .bl false, .bl false, .bl false, .bl false, .bl false, .bl false, .bl false]) := upd_same
    have a6 := M6.kp _ _ nn b6
    have S6 := (S5.trans N6).trans M6
    show _
    have ee6 : (upd G6 p6 (.lst ([.bl true, .bl false, .bl false, .bl false, .bl false, .bl false, .bl false, .bl false, .bl false, .bl false, .bl false, .bl false] ++ [V.bl false, V.bl false]))) = (upd G6 p6 (.lst [.bl true, .bl false, .bl false, .bl false, .bl false, .bl false, .bl false, .bl false, .bl false, .bl false, .bl false, .bl false, .bl false, .bl false])) := rfl
    rw [ee6]
    generalize upd G6 p6 (.lst [.bl true, .bl false, .bl false, .bl false, .bl false, .bl false, .bl false, .bl false, .bl false, .bl false, .bl false, .bl false, .bl false, .bl false]) = H6 at *
    -- InvalidCommand, InvalidWords
    refine ⟨_, rfl, _, rfl, a, _, _, _, _, rfl, cc, a6, rv_ref, TX.i_InvalidCommand, ?_⟩
    refine ⟨_, rfl, a, _, _, _, _, rfl, cc, a6, rv_ref, TX.i_InvalidWords, sz (by decide), fun q7 nq7 => ?_⟩
    have N7 : Stp [] H6 (upd H6 q7 (.lst [.bl false, .bl false])) := Stp.new nq7 _
    have e7 : (upd H6 q7 (.lst [.bl false, .bl false])) q7 = some (.lst [.bl false, .bl false]) := upd_same
    have g7 := N7.kp _ _ nn h6
    have b7 := N7.kp _ _ nn a6
    generalize upd H6 q7 (.lst [.bl false, .bl false]) = G7 at *
    refine ⟨p6, q7, _, _, rfl, rfl, g7, e7, sz (by decide), fun p7 n7 => ?_⟩
    have M7 : Stp [] G7 (upd G7 p7 (.lst [.bl true, .bl false, .bl false, .bl false, .bl false, .bl false, .bl false, .bl false, .bl false, .bl false, .bl false, .bl false, .bl false, .bl false, .bl false, .bl false])) := Stp.new n7 _
    have h7 : (upd G7 p7 (.lst [.bl true, .bl false, .bl false, .bl false, .bl false, .bl false, .bl false, .bl false, .bl false, .bl false, .bl false, .bl false, .bl false, .bl false, .bl false, .bl false])) p7 = some (.lst [.bl true, .bl false, .bl false, .bl false, .bl false, .bl false, .bl false, .bl false, .bl false, .bl false, .bl false, .bl false, .bl false, .bl false, .bl false, .bl false]) := upd_same
    have a7 := M7.kp _ _ nn b7
    have S7 := (S6.trans N7).trans M7
    show _
    have ee7 : (upd G7 p7 (.lst ([.bl true, .bl false, .bl false, .bl false, .bl false, .bl false, .bl false, .bl false, .bl false, .bl false, .bl false, .bl false, .bl false, .bl false] ++ [V.bl false, V.bl false]))) = (upd G7 p7 (.lst [.bl true, .bl false, .bl false, .bl false, .bl false, .bl false, .bl false, .bl false, .bl false, .bl false, .bl false, .bl false, .bl false, .bl false, .bl false, .bl false])) := rfl
    rw [ee7]
    generalize upd G7 p7 (.lst [.bl true, .bl false, .bl false, .bl false, .bl false, .bl false, .bl false, .bl false, .bl false, .bl false, .bl false, .bl false, .bl false, .bl false, .bl false, .bl false]) = H7 at *
    -- the words
    refine ⟨sz (by decide), fun w0 m0 => ?_⟩
    have X0 : Stp [] H7 (upd H7 w0 (.lst [.str "text", .str "value", .str "span", .str "filter", .str "rule", .str "page", .str "note", .str "column", .str "index", .str "number", .str "code"])) := Stp.new m0 _
    have y0 : (upd H7 w0 (.lst [.str "text", .str "value", .str "span", .str "filter", .str "rule", .str "page", .str "note", .str "column", .str "index", .str "number", .str "code"])) w0 = some (.lst [.str "text", .str "value", .str "span", .str "filter", .str "rule", .str "page", .str "note", .str "column", .str "index", .str "number", .str "code"]) := upd_same
    generalize upd H7 w0 (.lst [.str "text", .str "value", .str "span", .str "filter", .str "rule", .str "page", .str "note", .str "column", .str "index", .str "number", .str "code"]) = H8 at *
    refine ⟨_, rfl, sz (by decide), fun w1 m1 => ?_⟩
    have X1 : Stp [] H8 (upd H8 w1 (.lst [.str "block", .str "undo", .str "full", .str "command", .str "words", .str "error"])) := Stp.new m1 _
    have y1 : (upd H8 w1 (.lst [.str "block", .str "undo", .str "full", .str "command", .str "words", .str "error"])) w1 = some (.lst [.str "block", .str "undo", .str "full", .str "command", .str "words", .str "error"]) := upd_same
    generalize upd H8 w1 (.lst [.str "block", .str "undo", .str "full", .str "command", .str "words", .str "error"]) = H9 at *
    refine ⟨w0, w1, _, _, rfl, rfl, X1.kp _ _ nn y0, y1, sz (by decide), fun W mW => ?_⟩
    have X2 : Stp [] H9 (upd H9 W (.lst ([.str "text", .str "value", .str "span", .str "filter", .str "rule", .str "page", .str "note", .str "column", .str "index", .str "number", .str "code"] ++ [.str "block", .str "undo", .str "full", .str "command", .str "words", .str "error"]))) := Stp.new mW _
    have y2 : (upd H9 W (.lst ([.str "text", .str "value", .str "span", .str "filter", .str "rule", .str "page", .str "note", .str "column", .str "index", .str "number", .str "code"] ++ [.str "block", .str "undo", .str "full", .str "command", .str "words", .str "error"]))) W = some (.lst wordsV) := upd_same
    generalize upd H9 W (.lst ([.str "text", .str "value", .str "span", .str "filter", .str "rule", .str "page", .str "note", .str "column", .str "index", .str "number", .str "code"] ++ [.str "block", .str "undo", .str "full", .str "command", .str "words", .str "error"])) = H10 at *
    have X02 := (X0.trans X1).trans X2
    have h10 := X02.kp _ _ nn h7
    have a10 := X02.kp _ _ nn a7
    refine ⟨17, rfl, by decide, by decide, fun R nR => ?_⟩
    refine lc_range (lo := 0) (n := 17) (fun i H' => H' R = some (.lst (resV i)) ∧ Stp [] H10 H') ⟨upd_same, Stp.new nR _⟩ ?_ ?_
    · rintro i H' hi ⟨hR, S⟩
      rw [Int.zero_add]
      have ha' := S.kp _ _ nn a10
      have hp' := S.kp _ _ nn h10
      have hW' := S.kp _ _ nn y2
      obtain ⟨g1, g2, g3⟩ := res_step hi
      refine ⟨rfl, _, rfl, _, rfl, a, _, _, _, _, rfl, cc, ha', rv_ve, TX.v_InvalidText, sz (by decide), fun q nq => ?_⟩
      have T1 : Stp [] H' (upd H' q (.lst [.bl true])) := Stp.new nq _
      have e1 : (upd H' q (.lst [.bl true])) q = some (.lst [.bl true]) := upd_same
      generalize upd H' q (.lst [.bl true]) = J1 at *
      refine ⟨p7, q, _, _, rfl, rfl, T1.kp _ _ nn hp', e1, sz (by decide), fun r nr => ?_⟩
      have T2 : Stp [] J1 (upd J1 r (.lst ([.bl true, .bl false, .bl false, .bl false, .bl false, .bl false, .bl false, .bl false, .bl false, .bl false, .bl false, .bl false, .bl false, .bl false, .bl false, .bl false] ++ [V.bl true]))) := Stp.new nr _
      have e2 : (upd J1 r (.lst ([.bl true, .bl false, .bl false, .bl false, .bl false, .bl false, .bl false, .bl false, .bl false, .bl false, .bl false, .bl false, .bl false, .bl false, .bl false, .bl false] ++ [V.bl true]))) r = some (.lst testV) := upd_same
      generalize upd J1 r (.lst ([.bl true, .bl false, .bl false, .bl false, .bl false, .bl false, .bl false, .bl false, .bl false, .bl false, .bl false, .bl false, .bl false, .bl false, .bl false, .bl false] ++ [V.bl true])) = J2 at *
      have T12 := T1.trans T2
      refine ⟨_, rfl, r, _, _, _, rfl, rfl, SqL.of e2, atI_nat g1, ?_⟩
      have hR2 := T12.kp _ _ nn hR
      refine ⟨_, rfl, ite2 (fun h => ?_) (fun h => ?_)⟩
      · refine ⟨_, rfl, _, rfl, W, _, _, _, rfl, rfl, SqL.of (T12.kp _ _ nn hW'), atI_nat g2, _, hR2, ?_, ?_, (S.trans T12).mut nR⟩
        · exact sz (Nat.lt_of_le_of_lt (res_len i) (by decide))
        · rw [upd_same, g3, if_pos h]
      · rw [g3, if_neg h, List.append_nil]
        exact ⟨hR2, S.trans T12⟩
    rintro H' ⟨hR, S⟩
    exact k R H' ((S7.trans X02).trans S) hR
/-! ### what is refused, and named -/
theorem kb_beyond_text {K : PySem.W.Frag} (f : Addr) (fd : FuncData) (F : Fun K "beyond" "beyond" s_beyond f fd) : KBinds K fd ["text"] ["text"] (fun us ws => match us with | [] => ws | _ :: _ => []) (fun vs zs => match vs with | [] => zs | _ :: _ => []) :=
  kb_of (g := fun ws => ws) (gV := fun zs => zs) F (by simp) (fun _ _ _ _ _ _ ws hl => match ws, hl with | [_], _ => rfl) fun r => r
theorem kb_behind_text {K : PySem.W.Frag} (f : Addr) (fd : FuncData) (F : Fun K "behind" "behind" s_behind f fd) : KBinds K fd ["text"] ["text"] (fun us ws => match us with | [] => ws | _ :: _ => []) (fun vs zs => match vs with | [] => zs | _ :: _ => []) :=
  kb_of (g := fun ws => ws) (gV := fun zs => zs) F (by simp) (fun _ _ _ _ _ _ ws hl => match ws, hl with | [_], _ => rfl) fun r => r
theorem kb_is_text_value {K : PySem.W.Frag} (f : Addr) (fd : FuncData) (F : Fun K "is_text" "is_text" s_is_text f fd) : KBinds K fd ["value"] ["value"] (fun us ws => match us with | [] => ws | _ :: _ => []) (fun vs zs => match vs with | [] => zs | _ :: _ => []) :=
  kb_of (g := fun ws => ws) (gV := fun zs => zs) F (by simp) (fun _ _ _ _ _ _ ws hl => match ws, hl with | [_], _ => rfl) fun r => r
def spRefused (K : PySem.W.Frag) : Sp := fun vs H Q _ => ∃ (b1 b2 : Bool) (v : V) (d : Dt), vs = [.bl b1, .bl b2, v] ∧ Rp K H v d ∧ ¬ IsTx d ∧ ∀ L H', Stp [] H H' → H' L = some (.lst [.str "text", .str "error"]) → Q (.ref L) H'
theorem cl__law_refused {f : Addr} {fd : FuncData} (D : Df K mg "_law_refused" s__law_refused ["far", "by_name", "odd"] f fd) (T : Nm mg) (TX : Er K mg) (c_behindX : ClX P w K mg base 3 "behind" s_behind ["text"] (spBad K TX.C_InvalidText)) (c_beyondX : ClX P w K mg base 3 "beyond" s_beyond ["text"] (spBad K TX.C_InvalidText))
    (c__law_names : Cl P w K mg base 1 "_law_names" s__law_names ["caught"] (spNames K TX.C_InvalidText)) : Cl P w K mg base 4 "_law_refused" s__law_refused ["far", "by_name", "odd"] (spRefused K) := by
  refine D.cl sc__law_refused (fun vs H Q E h => ?_) (fun cdv A outer s H vs Q E hr h => ?_)
  · obtain ⟨b1, b2, v, d, rfl, _⟩ := h
    rfl
  · obtain ⟨b1, b2, v, d, rfl, r, no, k⟩ := h
    refine ⟨_, (pss_cons (ps_set (i := 3) sc__law_refused.nd rfl (by first | exact Or.inl rfl | exact Or.inr rfl) pe_non)
      (pss_cons (ps_try_keep (i := 4) (n := "e") (c := .ref TX.C_SkipError) rfl rfl rfl sc__law_refused.nd rfl rfl ⟨rfl, by decide, .inl TX.g_SkipError⟩ takes0 (tb := fun W => _) (fun W pn xe tk _ => (pss_one (ps_if (PW.pt (pw_and (pt_val (pv 0)) (pw_and1 (pt_val (pv 1))))) (pss_one (ps_expr (pe_clXK c_beyondX tk hr (by omega) kb_beyond_text (pk_cons (pv 2) pk_nil)))) (pss_one (ps_if (pt_val (pv 0)) (pss_one (ps_expr (pe_clX c_beyondX tk hr (by omega) (pa_cons (pv 2) pa_nil)))) (pss_one (ps_if (pt_val (pv 1)) (pss_one (ps_expr (pe_clXK c_behindX tk hr (by omega) kb_behind_text (pk_cons (pv 2) pk_nil)))) (pss_one (ps_expr (pe_clX c_behindX tk hr (by omega) (pa_cons (pv 2) pa_nil))))))))))) (fun a pn => (pss_one (ps_set (i := 3) sc__law_refused.nd rfl (by first | exact Or.inl rfl | exact Or.inr rfl) (pv 4)))))
      (pss_one (ps_ret (pe_cl c__law_names hr (by omega) (pa_cons (pv 3) pa_nil)))))), ?_⟩
    cases b1 with
    | true =>
      cases b2 with
      | true => exact ⟨_, rfl, _, rfl, ite2 (fun _ => ⟨_, rfl, _, rfl, ite2 (fun _ => ⟨_, rfl, v, d, rfl, r, no, true, TX.m_InvalidText, fun _ => ⟨rfl, fun a na => ⟨_, rfl, _, rfl, a, rfl, upd_same, fun L H' S hL => k L H' ((Stp.new na _).trans S) hL⟩⟩, fun h => (nomatch h)⟩) (fun h => absurd rfl h)⟩) (fun h => absurd rfl h)⟩
      | false => exact ⟨_, rfl, _, rfl, ite2 (fun _ => ⟨_, rfl, _, rfl, ite2 (fun h => nomatch h) (fun _ => ⟨_, rfl, _, rfl, ite2 (fun _ => ⟨_, rfl, v, d, rfl, r, no, true, TX.m_InvalidText, fun _ => ⟨rfl, fun a na => ⟨_, rfl, _, rfl, a, rfl, upd_same, fun L H' S hL => k L H' ((Stp.new na _).trans S) hL⟩⟩, fun h => (nomatch h)⟩) (fun h => absurd rfl h)⟩)⟩) (fun h => absurd rfl h)⟩
    | false =>
      cases b2 with
      | true => exact ⟨_, rfl, _, rfl, ite2 (fun h => nomatch h) (fun _ => ite2 (fun h => nomatch h) (fun _ => ⟨_, rfl, _, rfl, ite2 (fun h => nomatch h) (fun _ => ⟨_, rfl, _, rfl, ite2 (fun _ => ⟨_, rfl, v, d, rfl, r, no, true, TX.m_InvalidText, fun _ => ⟨rfl, fun a na => ⟨_, rfl, _, rfl, a, rfl, upd_same, fun L H' S hL => k L H' ((Stp.new na _).trans S) hL⟩⟩, fun h => (nomatch h)⟩) (fun h => absurd rfl h)⟩)⟩))⟩
      | false => exact ⟨_, rfl, _, rfl, ite2 (fun h => nomatch h) (fun _ => ite2 (fun h => nomatch h) (fun _ => ⟨_, rfl, _, rfl, ite2 (fun h => nomatch h) (fun _ => ⟨_, rfl, _, rfl, ite2 (fun h => nomatch h) (fun _ => ⟨_, rfl, v, d, rfl, r, no, true, TX.m_InvalidText, fun _ => ⟨rfl, fun a na => ⟨_, rfl, _, rfl, a, rfl, upd_same, fun L H' S hL => k L H' ((Stp.new na _).trans S) hL⟩⟩, fun h => (nomatch h)⟩)⟩)⟩))⟩
abbrev Txt := List Nat
def oV : Option Txt → V
  | none => .non
  | some l => Tx l
def Short (l : Txt) : Prop := Abc l ∧ l.length ≤ 40
theorem a_lit : ("a" : Str) = tx [97] := by decide +kernel
/-! ### the text beyond -/
def beyR : Txt → Option Txt
  | [] => none
  | a :: y => match beyR y with | some e => some (a :: e) | none => if a < 99 then some [a + 1] else none
theorem beyR_c : ∀ m : Txt, beyR (m ++ [99]) = beyR m
  | [] => rfl
  | a :: m => by
    show (match beyR (m ++ [99]) with | some e => some (a :: e) | none => if a < 99 then some [a + 1] else none) = _
    rw [beyR_c m]
    rfl
theorem beyR_id {c : Nat} (h : c < 99) : ∀ m : Txt, beyR (m ++ [c]) = some (m ++ [c + 1])
  | [] => if_pos h
  | a :: m => by
    show (match beyR (m ++ [c]) with | some e => some (a :: e) | none => if a < 99 then some [a + 1] else none) = _
    rw [beyR_id h m]
    rfl
theorem beyR_ok : ∀ {y e : Txt}, Abc y → beyR y = some e → Abc e ∧ e.length ≤ y.length ∧ y < e
  | [], e, _, h => by cases h
  | a :: y, e, ab, h => by
    have ha := ab a List.mem_cons_self
    have hy : Abc y := fun c m => ab c (List.mem_cons_of_mem _ m)
    have h : (match beyR y with | some e => some (a :: e) | none => if a < 99 then some [a + 1] else none) = some e := h
    cases q : beyR y with
    | some e' =>
      rw [q] at h
      cases h
      obtain ⟨h1, h2, h3⟩ := beyR_ok hy q
      refine ⟨fun c m => ?_, by simp; omega, List.cons_lt_cons_iff.mpr (.inr ⟨rfl, h3⟩)⟩
      rcases List.mem_cons.mp m with rfl | m
      · exact ha
      · exact h1 c m
    | none =>
      rw [q] at h
      by_cases c : a < 99
      · rw [if_pos c] at h
        cases h
        refine ⟨fun x m => ?_, by simp, List.cons_lt_cons_iff.mpr (.inl (Nat.lt_succ_self a))⟩
        rw [List.mem_singleton.mp m]
        omega
      · rw [if_neg c] at h
        cases h
theorem cOff_c (m : List Nat) : cOff (m ++ [99]) = cOff m := by
  rw [cOff_rev, cOff_rev, List.reverse_append]
  rfl
theorem cOff_id {m : List Nat} {c : Nat} (h : c ≠ 99) : cOff (m ++ [c]) = m ++ [c] := by
  rw [cOff_rev, List.reverse_append]
  show (List.dropWhile _ (c :: m.reverse)).reverse = _
  rw [List.dropWhile_cons, if_neg (by simpa using h), List.reverse_cons, List.reverse_reverse]
theorem bey_eq : ∀ (n : Nat) (l : Txt), l.length ≤ n → Abc l → bey l = beyR l
  | 0, l, h, _ => by
    rw [List.length_eq_zero_iff.mp (Nat.le_zero.mp h)]
    rfl
  | n + 1, l, h, al => by
    rcases List.eq_nil_or_concat l with rfl | ⟨m, c, rfl⟩
    · rfl
    rw [List.concat_eq_append] at *
    have am : Abc m := fun x q => al x (List.mem_append_left _ q)
    have hm : m.length ≤ n := by rw [List.length_append, List.length_singleton] at h; omega
    by_cases e : c = 99
    · subst e
      rw [beyR_c, ← bey_eq n m hm am]
      unfold bey
      rw [cOff_c]
    · have hc : c < 99 := by rcases al c (by simp) with q | q | q <;> omega
      rw [beyR_id hc]
      unfold bey
      rw [cOff_id e, if_neg (by simp)]
      simp
/-! ### ranges of one text -/
/-! ### the program's own -/
def Lng (l : Txt) : Prop := Abc l ∧ l.length ≤ 1000
theorem Short.lng {l : Txt} (h : Short l) : Lng l := ⟨h.1, by have := h.2; omega⟩
def spCkTextL : Sp := fun vs H Q _ => ∃ l : Txt, vs = [Tx l] ∧ Lng l ∧ Q .non H
theorem cl_check_text {f : Addr} {fd : FuncData} (D : Df K mg "check_text" s_check_text ["text"] f fd) (T : Nm mg) (c_is_text : Cl P w K mg base 1 "is_text" s_is_text ["value"] (spIsText K)) : Cl P w K mg base 2 "check_text" s_check_text ["text"] spCkTextL := by
  refine D.cl sc_check_text (fun vs H Q E h => ?_) (fun cdv A outer s H vs Q E hr h => ?_)
  · obtain ⟨l, rfl, _⟩ := h
    rfl
  · obtain ⟨l, rfl, ⟨al, ll⟩, k⟩ := h
    refine ⟨_, (pss_one (ps_if (pt_not (pt_val (pe_cl c_is_text hr (by omega) (pa_cons (pv 0) pa_nil)))) (pss_one ps_never) pss_nil)), ?_⟩
    refine ⟨_, rfl, Tx l, .str l, rfl, .str l (by omega), fun b hb => ?_⟩
    obtain rfl : b = true := hb.mpr ⟨l, rfl, al⟩
    exact ⟨_, rfl, k⟩
def spBehind : Sp := fun vs H Q _ => ∃ l : Txt, vs = [Tx l] ∧ Lng l ∧ Q (Tx (l ++ [97])) H
theorem cl_behind {f : Addr} {fd : FuncData} (D : Df K mg "behind" s_behind ["text"] f fd) (T : Nm mg) (c_check_text : Cl P w K mg base 2 "check_text" s_check_text ["text"] spCkTextL) : Cl P w K mg base 3 "behind" s_behind ["text"] spBehind := by
  refine D.cl sc_behind (fun vs H Q E h => ?_) (fun cdv A outer s H vs Q E hr h => ?_)
  · obtain ⟨l, rfl, _⟩ := h
    rfl
  · obtain ⟨l, rfl, sl, k⟩ := h
    refine ⟨_, (pss_cons (ps_expr (pe_cl c_check_text hr (by omega) (pa_cons (pv 0) pa_nil)))
      (pss_one (ps_ret (pe_op op_add_str (pv 0) pe_str)))), ?_⟩
    refine ⟨_, rfl, l, rfl, sl, _, rfl, tx l, tx [97], rfl, congrArg V.str a_lit, (by rw [tx_len, tx_len]; exact sz (by have := sl.2; simp; omega)), ?_⟩
    rw [tx_app]
    exact k
def spBeyX : Sp := fun vs H Q _ => ∃ l : Txt, vs = [Tx l] ∧ Lng l ∧ Q (oV (beyR l)) H
theorem b_lit : ("b" : Str) = tx [98] := by decide +kernel
theorem c_lit9 : ("c" : Str) = tx [99] := by decide +kernel
theorem bey_none {l : List Nat} (h : cOff l = []) : bey l = none := by unfold bey; rw [if_pos h]
theorem bey_some {l i : List Nat} {c : Nat} (h : cOff l = i ++ [c]) : bey l = some (i ++ [c + 1]) := by
  unfold bey
  rw [h, if_neg (by simp)]
  simp
theorem cl_beyond {f : Addr} {fd : FuncData} (D : Df K mg "beyond" s_beyond ["text"] f fd) (T : Nm mg) (TG : Ng K w mg) (c_check_text : Cl P w K mg base 2 "check_text" s_check_text ["text"] spCkTextL) : Cl P w K mg base 3 "beyond" s_beyond ["text"] spBeyX := by
  refine D.cl sc_beyond (fun vs H Q E h => ?_) (fun cdv A outer s H vs Q E hr h => ?_)
  · obtain ⟨l, rfl, _⟩ := h
    rfl
  · obtain ⟨l, rfl, sl, k⟩ := h
    obtain ⟨al, ll⟩ := id sl
    refine ⟨_, (pss_cons (ps_expr (pe_cl c_check_text hr (by omega) (pa_cons (pv 0) pa_nil)))
      (pss_cons (ps_set (i := 1) sc_beyond.nd rfl (by first | exact Or.inl rfl | exact Or.inr rfl) (pe_bm PySem.F.plainAttrs_str PySem.F.slot_str_rstrip PySem.F.type_str_rstrip mt_rstripChars (pv 0) (pa_cons pe_str pa_nil)))
      (pss_one (ps_ret (pe_ifExp (pt_truth (pv 1) (by intro _; rfl)) (pe_op op_add_str (pe_slice sl_str (pv 1) po_none (po_some (pe_un un_neg pe_int))) (pe_ix ix_kdict (pe_glob (v := .ref TG.NEXT_LETTERS) rfl TG.g_NEXT_LETTERS rfl) (pe_ix ix_str (pv 1) (pe_un un_neg pe_int) (fun _ _ => rfl)) (fun _ _ => rfl))) pe_non))))), ?_⟩
    rw [← bey_eq _ l (Nat.le_refl _) al] at k
    refine ⟨_, rfl, l, rfl, sl, ?_⟩
    refine ⟨_, rfl, rfl, tx l, ("c" : Str), rfl, rfl, szt (by omega), ?_⟩
    rw [c_lit9, rstrip_c]
    have lo := cOff_len l
    have ao := abc_cOff al
    refine ⟨_, rfl, _, ⟨szt (by omega), rfl⟩, ite2 (fun h => ?_) (fun h => ?_)⟩
    · have ne : cOff l ≠ [] := fun e => by
        rw [e] at h
        exact absurd h (by decide)
      obtain ⟨i, c, hc, nc⟩ := cOff_last ne
      rw [bey_some hc] at k
      rw [hc] at lo ao
      rw [List.length_append, List.length_singleton] at lo
      have hcc : c = 97 ∨ c = 98 := by
        rcases ao c (by simp) with q | q | q
        · exact .inl q
        · exact .inr q
        · exact absurd q nc
      rw [hc]
      refine ⟨_, rfl, 1, rfl, -1, rfl, tx (i ++ [c]), rfl, szt (by simp; omega), ?_⟩
      rw [show cutS (tx (i ++ [c])) none (some (-1)) = _ from tx_init _, List.dropLast_concat]
      refine ⟨_, rfl, 1, rfl, tx (i ++ [c]), -1, c, rfl, rfl, szt (by simp; omega), atI_last i c, ?_⟩
      rcases hcc with rfl | rfl
      · refine ⟨_, tx [97], _, rfl, rfl, TG.na, tx i, tx [98], rfl, congrArg V.str b_lit, (by rw [tx_len, tx_len]; exact sz (by simp; omega)), ?_⟩
        rw [tx_app]
        exact k
      · refine ⟨_, tx [98], _, rfl, rfl, TG.nb, tx i, tx [99], rfl, congrArg V.str c_lit9, (by rw [tx_len, tx_len]; exact sz (by simp; omega)), ?_⟩
        rw [tx_app]
        exact k
    · have e : cOff l = [] := by
        cases hc : cOff l with
        | nil => rfl
        | cons x t =>
          rw [hc, tx_len] at h
          exact absurd (by simp; omega) h
      rw [bey_none e] at k
      exact k
abbrev s__law_past : Stmt := topS 28
abbrev N__law_past : List Str := ["word"]
theorem sc__law_past : FnScope ["word"] ["word"] (defScope s__law_past) := ⟨rfl, rfl, rfl, by decide +kernel, rfl, by decide +kernel, by decide +kernel⟩

theorem nil_tx {l : List Nat} : tx l = tx [] ↔ l = [] := ⟨fun h => tx_inj h, fun h => by rw [h]⟩
theorem bey_same {a b : List Nat} (h : cOff a = cOff b) : bey a = bey b := by
  unfold bey
  rw [h]
def spPastX : Sp := fun vs H Q _ => ∃ l : List Nat, vs = [Tx l] ∧ Lng l ∧ Q (oV (beyR l)) H
theorem cl__law_pastX {f : Addr} {fd : FuncData} (D : Df K mg "_law_past" s__law_past ["word"] f fd) (T : Nm mg) : Cl P w K mg base 1 "_law_past" s__law_past ["word"] spPastX := by
  refine D.cl sc__law_past (fun vs H Q E h => ?_) (fun cdv A outer s H vs Q E hr h => ?_)
  · obtain ⟨l, rfl, _⟩ := h
    rfl
  · obtain ⟨l, rfl, ⟨al, ll⟩, k⟩ := h
    rw [← bey_eq _ l (Nat.le_refl _) al] at k
    refine ⟨_, (pss_cons (ps_while PassesOwn.never (pt_cmpR op_eq (pe_slice sl_str (pv 0) (po_some (pe_un un_neg pe_int)) po_none) pe_str (by first | exact nomark _ | rfl)) (pss_one (ps_set (i := 0) sc__law_past.nd rfl (by first | exact Or.inl rfl | exact Or.inr rfl) (pe_slice sl_str (pv 0) po_none (po_some (pe_un un_neg pe_int))))))
      (pss_cons (ps_if (pt_cmpR op_eq (pv 0) pe_str (by first | exact nomark _ | rfl)) (pss_one (ps_ret pe_non)) pss_nil)
      (pss_one (ps_ret (pe_op op_add_str (pe_slice sl_str (pv 0) po_none (po_some (pe_un un_neg pe_int))) (pe_ifExp (pt_cmpR op_eq (pe_slice sl_str (pv 0) (po_some (pe_un un_neg pe_int)) po_none) pe_str (by first | exact nomark _ | rfl)) pe_str pe_str)))))), ?_⟩
    refine while_by (fun σ H1 => ∃ m : List Nat, σ = [some (Tx m)] ∧ Abc m ∧ m.length ≤ 1000 ∧ bey l = bey m ∧ H1 = H) (fun σ _ => match σ with | [some (.str x)] => x.length | _ => 0) ⟨l, rfl, al, ll, rfl, rfl⟩ ?_ ?_
    · rintro σ H1 ⟨m, rfl, am, lm, lmt, rfl⟩
      refine ⟨_, rfl, 1, rfl, -1, rfl, tx m, rfl, szt (by omega), ?_⟩
      rw [show cutS (tx m) (some (-1)) none = _ from tx_last m]
      refine ⟨rfl, _, rfl, ?_⟩
      rcases List.eq_nil_or_concat m with rfl | ⟨i, c, e⟩
      · refine ite2 (fun h => absurd h (by decide +kernel)) (fun h => ?_)
        refine ⟨_, rfl, rfl, _, rfl, ite2 (fun h1 => ?_) (fun h1 => absurd (decide_eq_true (congrArg V.str nil_lit.symm)) h1)⟩
        rw [lmt] at k
        exact k
      · rw [List.concat_eq_append] at e
        subst e
        have ed : (i ++ [c]).drop ((i ++ [c]).length - 1) = [c] := by rw [List.length_append, List.length_singleton, Nat.add_sub_cancel, List.drop_left]
        rw [ed]
        have li : i.length + 1 ≤ 1000 := by simpa using lm
        have ai : Abc i := fun x m => am x (List.mem_append_left _ m)
        refine ite2 (fun h => ?_) (fun h => ?_)
        · have hc : c = 99 := by
            have := tx_inj ((V.str.inj (of_decide_eq_true h)).trans c_lit9)
            simpa using this
          subst hc
          refine ⟨_, rfl, 1, rfl, -1, rfl, tx (i ++ [99]), rfl, szt (by simp; omega), ?_⟩
          rw [show cutS (tx (i ++ [99])) none (some (-1)) = _ from tx_init _, List.dropLast_concat]
          refine ⟨⟨i, rfl, ai, by omega, by rw [lmt]; exact bey_same (cOff_c i), rfl⟩, ?_⟩
          show (tx i).length < (tx (i ++ [99])).length
          rw [tx_len, tx_len, List.length_append, List.length_singleton]
          omega
        · have hc : c ≠ 99 := fun e => h (decide_eq_true (by rw [e]; exact congrArg V.str c_lit9.symm))
          rw [lmt, bey_some (cOff_id hc)] at k
          refine ⟨_, rfl, rfl, _, rfl, ite2 (fun h1 => ?_) (fun h1 => ?_)⟩
          · have := nil_tx.mp ((V.str.inj (of_decide_eq_true h1)).trans nil_lit)
            simp at this
          · refine ⟨_, rfl, 1, rfl, -1, rfl, tx (i ++ [c]), rfl, szt (by simp; omega), ?_⟩
            rw [show cutS (tx (i ++ [c])) none (some (-1)) = _ from tx_init _, List.dropLast_concat]
            refine ⟨_, rfl, 1, rfl, -1, rfl, tx (i ++ [c]), rfl, szt (by simp; omega), ?_⟩
            rw [show cutS (tx (i ++ [c])) (some (-1)) none = _ from tx_last _, ed]
            refine ⟨rfl, _, rfl, ?_⟩
            rcases am c (by simp) with rfl | rfl | rfl
            · refine ite2 (fun _ => ?_) (fun h => absurd (decide_eq_true (congrArg V.str a_lit.symm)) h)
              refine ⟨tx i, tx [98], rfl, congrArg V.str b_lit, (by rw [tx_len, tx_len]; exact sz (by simp; omega)), ?_⟩
              rw [tx_app]
              exact k
            · refine ite2 (fun h => absurd h (by decide +kernel)) (fun _ => ?_)
              refine ⟨tx i, tx [99], rfl, congrArg V.str c_lit9, (by rw [tx_len, tx_len]; exact sz (by simp; omega)), ?_⟩
              rw [tx_app]
              exact k
            · exact absurd rfl hc
    · rintro σ H Q Q' h ⟨v, e1, i, e2, j, e3, x, e4, z, s1, b, e5, q⟩
      exact ⟨v, e1, i, e2, j, e3, x, e4, z, s1, b, e5, h _ _ q⟩
abbrev s__law_odd_text : Stmt := topS 29
abbrev N__law_odd_text : List Str := ["bag", "word", "at", "every", "wrong", "odd"]
theorem sc__law_odd_text : FnScope ["bag", "word", "at", "every", "wrong", "odd"] ["bag", "word"] (defScope s__law_odd_text) := ⟨rfl, rfl, rfl, by decide +kernel, rfl, by decide +kernel, by decide +kernel⟩

/-! ### values that are no texts -/
theorem foldl_app_flat : ∀ (n : Nat) (l : List Nat) (acc : Array Nat), (List.replicate n l.toArray).foldl (· ++ ·) acc = acc ++ ((List.replicate n l).flatten).toArray
  | 0, l, acc => by simp
  | n + 1, l, acc => by
    rw [List.replicate_succ, List.foldl_cons, foldl_app_flat n, List.replicate_succ]
    apply Array.ext'
    simp
theorem mul_flat {l : List Nat} (hl : l ≠ []) (n : Int) : Txt.mul (tx l) n = tx ((List.replicate n.toNat l).flatten) := by
  unfold Txt.mul
  by_cases h : n < 1
  · rw [if_pos h, show n.toNat = 0 by omega]
    rfl
  · rw [if_neg h]
    by_cases h1 : n = 1
    · subst h1
      rw [if_pos (by simp)]
      simp
    · rw [if_neg (by simp [h1, Str.length, hl])]
      show (⟨(List.replicate n.toNat l.toArray).foldl (· ++ ·) #[]⟩ : Str) = _
      rw [foldl_app_flat]
      simp [tx]
theorem EvD.mul {K : PySem.W.Frag} {σ : L2.St} {H : Hp} {s : Str} {l : List Nat} {n : Int} (e : s = tx l) (hl : l ≠ []) (ok : MulOk (tx l) n) (len : ((List.replicate n.toNat l).flatten).length ≤ 100000) : EvD K (tOp (fun x y H Q => ∃ i j, x = .str i ∧ y = .int j ∧ MulOk i j ∧ Q (.str (Txt.mul i j)) H) (tC (.str s)) (tC (.int n))) σ H (.str ((List.replicate n.toNat l).flatten)) := fun H1 s Q k => by
  subst e
  refine ⟨tx l, n, rfl, rfl, ok, ?_⟩
  rw [mul_flat hl]
  exact k _ _ (Stp.refl _ _) (.str _ len)
theorem EvD.upper {K : PySem.W.Frag} {σ : L2.St} {H : Hp} {te : TE} {a : List Nat} (h : EvD K te σ H (.str a)) (hl : a.length ≤ 1000) : EvD K (tM0 (fun x xs H Q => ∃ a, x = .str a ∧ xs = [] ∧ a.length ≤ 5592405 ∧ Q (.str (Txt.upper a)) H) te) σ H (.str (Txt.upper (tx a)).cps.toList) := fun H1 s Q k =>
  h H1 s _ fun v H2 s2 r => by
    cases r with
    | str _ h1 =>
      refine ⟨⟨_, rfl⟩, tx a, rfl, rfl, by rw [tx_len]; omega, k _ _ s2 (Rp.lit _ ?_)⟩
      have := PyProof.Rows.len_upper (tx a)
      have t := tx_len a
      have e : (Txt.upper (tx a)).cps.toList.length = (Txt.upper (tx a)).length := by simp [Str.length]
      omega
theorem bad_mem {l : List Nat} {c : Nat} (m : c ∈ l) (h : ¬ (c = 97 ∨ c = 98 ∨ c = 99)) : ¬ IsTx (.str l) := fun ⟨l', e, a⟩ => by
  cases e
  exact h (a c m)
theorem bad_str (l : List Nat) {s : Str} {c : Nat} (m : c ∈ s.cps.toList) (h : ¬ (c = 97 ∨ c = 98 ∨ c = 99)) : ¬ IsTx (.str (l ++ s.cps.toList)) := bad_mem (List.mem_append_right _ m) h
theorem bad_pre (l : List Nat) {s : Str} {c : Nat} (m : c ∈ s.cps.toList) (h : ¬ (c = 97 ∨ c = 98 ∨ c = 99)) : ¬ IsTx (.str (s.cps.toList ++ l)) := bad_mem (List.mem_append_left _ m) h
def everyL : List Nat := [32, 33, 34, 35, 36, 38, 39, 40, 41, 42, 43, 44, 45, 46, 47, 48, 49, 50, 51, 52, 53, 54, 55, 56, 57, 58, 59, 60, 61, 62, 63, 64] ++ [65, 66, 67, 68, 69, 70, 71, 72, 73, 74, 75, 76, 77, 78, 79, 80, 81, 82, 83, 84, 85, 86, 87, 88, 89, 90, 91, 92, 93, 94, 95, 96] ++ [100, 101, 102, 103, 104, 105, 106, 107, 108, 109, 110, 111, 112, 113, 114, 115, 116, 117, 118, 119, 120, 121, 122, 123, 124, 125, 126, 10]
theorem every_bad : ∀ c ∈ everyL, ¬ (c = 97 ∨ c = 98 ∨ c = 99) := by decide
theorem tx_from (l : List Nat) (k : Nat) : cutS (tx l) (some (k : Int)) none = tx (l.drop k) := by
  rw [tx_cut, HT.sIx_none, HT.sIx_nat]
  rcases Nat.le_total k l.length with h | h
  · rw [Nat.min_eq_left h, List.take_of_length_le (by rw [List.length_drop]; exact Nat.le_refl _)]
  · rw [Nat.min_eq_right h, List.drop_length, List.drop_of_length_le h, List.take_nil]
theorem no_tx {d : Dt} (h : ∀ l, d ≠ .str l) : ¬ IsTx d := fun ⟨l, e, _⟩ => h l e
theorem rpl_rep {K : PySem.W.Frag} {H : Hp} {v : V} {d : Dt} (r : Rp K H v d) : ∀ n : Nat, RpL K H (List.replicate n v) (List.replicate n d)
  | 0 => .nil
  | n + 1 => .cons r (rpl_rep r n)
theorem rep12 (v : V) : (List.replicate (12 : Int).toNat [v]).flatten = List.replicate 12 v := rfl
theorem flat_len (n : Nat) (l : List Nat) : ((List.replicate n l).flatten).length = n * l.length := by simp
theorem mo2000 : MulOk (tx [97, 98, 99]) 2000 := ⟨by decide, fun _ _ => by decide +kernel, fun _ _ => by decide +kernel⟩
theorem mo900 : MulOk (tx [97, 98, 99]) 900 := ⟨by decide, fun _ _ => by decide +kernel, fun _ _ => by decide +kernel⟩
theorem mo900' : MulOk (tx [99, 98, 97]) 900 := ⟨by decide, fun _ _ => by decide +kernel, fun _ _ => by decide +kernel⟩
theorem cba_lit : ("cba" : Str) = tx [99, 98, 97] := by decide +kernel
theorem up_len {l : List Nat} (h : l.length ≤ 12) : (Txt.upper (tx l)).cps.toList.length + ("A" : Str).cps.toList.length ≤ 100000 := by
  have := PyProof.Rows.len_upper (tx l)
  have t := tx_len l
  have e : (Txt.upper (tx l)).cps.toList.length = (Txt.upper (tx l)).length := by simp [Str.length]
  have e2 : ("A" : Str).cps.toList.length = 1 := by decide +kernel
  omega
theorem big900 : ((List.replicate (900 : Int).toNat [97, 98, 99]).flatten ++ ("C" : Str).cps.toList).length + ((List.replicate (900 : Int).toNat [99, 98, 97]).flatten).length ≤ 100000 := by
  rw [List.length_append, flat_len, flat_len]
  decide +kernel
theorem sp_len {l : List Nat} (h : l.length ≤ 12) : (" " : Str).cps.toList.length + l.length ≤ 100000 := by
  have e2 : (" " : Str).cps.toList.length = 1 := by decide +kernel
  omega
theorem nl_len {l : List Nat} (h : l.length ≤ 12) : l.length + ("\n" : Str).cps.toList.length ≤ 100000 := by
  have e2 : ("\n" : Str).cps.toList.length = 1 := by decide +kernel
  omega
def spOddT (K : PySem.W.Frag) : Sp := fun vs H Q _ => ∃ (b : Addr) (n : Nat) (l : List Nat), vs = [.ref b, Tx l] ∧ Bag H b n ∧ n + 10 < 2 ^ 30 ∧ Abc l ∧ l.length ≤ 12 ∧
  ∀ v d H', Rp K H' v d → ¬ IsTx d → Stp [b] H H' → Bag H' b (n + 3) → Q v H'
theorem cl__law_odd_text {f : Addr} {fd : FuncData} (D : Df K mg "_law_odd_text" s__law_odd_text ["bag", "word"] f fd) (T : Nm mg) (TX : Er K mg) (c__law_draw : Cl P w K mg base 1 "_law_draw" s__law_draw ["bag", "upto"] spDraw) : Cl P w K mg base 2 "_law_odd_text" s__law_odd_text ["bag", "word"] (spOddT K) := by
  refine D.cl sc__law_odd_text (fun vs H Q E h => ?_) (fun cdv A outer s H vs Q E hr h => ?_)
  · obtain ⟨b, n, l, rfl, _⟩ := h
    rfl
  · obtain ⟨b, n, l, rfl, B, hn, ha, hl, k⟩ := h
    refine ⟨_, (pss_cons (ps_set (i := 2) sc__law_odd_text.nd rfl (by first | exact Or.inl rfl | exact Or.inr rfl) (pe_cl c__law_draw hr (by omega) (pa_cons (pv 0) (pa_cons (pe_op op_add (pe_callB call_len_str (by rfl) T.n_len (by decide +kernel) (pa_cons (pv 1) pa_nil)) pe_int) pa_nil))))
      (pss_cons (ps_set (i := 3) sc__law_odd_text.nd rfl (by first | exact Or.inl rfl | exact Or.inr rfl) (pe_op op_add_str pe_str pe_str))
      (pss_cons (ps_set (i := 3) sc__law_odd_text.nd rfl (by first | exact Or.inl rfl | exact Or.inr rfl) (pe_op op_add_str (pv 3) pe_str))
      (pss_cons (ps_set (i := 4) sc__law_odd_text.nd rfl (by first | exact Or.inl rfl | exact Or.inr rfl) (pe_op op_add_str (pe_op op_add_str (pe_slice sl_str (pv 1) po_none (po_some (pv 2))) (pe_ix ix_str (pv 3) (pe_cl c__law_draw hr (by omega) (pa_cons (pv 0) (pa_cons (pe_callB call_len_str (by rfl) T.n_len (by decide +kernel) (pa_cons (pv 3) pa_nil)) pa_nil))) (fun _ _ => rfl))) (pe_slice sl_str (pv 1) (po_some (pv 2)) po_none)))
      (pss_cons (ps_set (i := 5) sc__law_odd_text.nd rfl (by first | exact Or.inl rfl | exact Or.inr rfl) (pe_lst (pa_cons pe_bl (pa_cons pe_bl (pa_cons pe_int (pa_cons pe_int (pa_cons (pe_un un_neg pe_int) (pa_cons (pe_op op_pow pe_int pe_int) (pa_cons (pe_lst pa_nil) (pa_cons (pe_tup pa_nil) (pa_cons (pe_lst (pa_cons (pv 1) pa_nil)) (pa_cons (pe_tup (pa_cons (pv 1) pa_nil)) (pa_cons (pe_tup (pa_cons (pe_tup (pa_cons (pv 1) (pa_cons pe_non pa_nil))) pa_nil)) (pa_cons (pe_tup (pa_cons pe_str (pa_cons (pv 1) pa_nil))) (pa_cons (pe_lst (pa_cons pe_non pa_nil)) pa_nil)))))))))))))))
      (pss_cons (ps_set (i := 5) sc__law_odd_text.nd rfl (by first | exact Or.inl rfl | exact Or.inr rfl) (pe_op op_cat (pe_op op_cat (pv 5) (pe_op op_rep (pe_lst (pa_cons (pv 4) pa_nil)) pe_int)) (pe_lst (pa_cons (pe_op op_add_str (pv 1) pe_str) (pa_cons (pe_op op_add_str pe_str (pv 1)) (pa_cons (pe_op op_add_str (pe_upper (pv 1)) pe_str) pa_nil))))))
      (pss_cons (ps_set (i := 5) sc__law_odd_text.nd rfl (by first | exact Or.inl rfl | exact Or.inr rfl) (pe_op op_cat (pv 5) (pe_lst (pa_cons (pe_op op_add_str (pe_op Pg.op_mul_str pe_str pe_int) pe_str) (pa_cons (pe_op op_add_str pe_str (pe_op Pg.op_mul_str pe_str pe_int)) (pa_cons (pe_op op_add_str (pe_op op_add_str (pe_op Pg.op_mul_str pe_str pe_int) pe_str) (pe_op Pg.op_mul_str pe_str pe_int)) (pa_cons (pe_exc1 PySem.F.excBase_ValueError TX.x_InvalidText TX.g_InvalidText TX.k_InvalidText rfl (pv 1)) pa_nil)))))))
      (pss_one (ps_ret (pe_ix ix_list (pv 5) (pe_cl c__law_draw hr (by omega) (pa_cons (pv 0) (pa_cons (pe_callB call_len_seq (by rfl) T.n_len (by decide +kernel) (pa_cons (pv 5) pa_nil)) pa_nil))) (fun _ _ => rfl))))))))))), ?_⟩
    have one : b ∈ [b] := List.mem_singleton.mpr rfl
    have len1 : (1 : Nat) ≤ sizeLine := by decide
    refine ⟨_, rfl, _, rfl, tx l, rfl, szt (by omega), _, _, rfl, rfl, b, _, n, rfl, B, by omega, by rw [tx_len]; omega, by rw [tx_len]; omega, fun at0 H1 a0 a1 o1 B1 => ?_⟩
    have S1 : Stp [b] H H1 := o1.stp one
    obtain ⟨k0, rfl⟩ := Int.eq_ofNat_of_zero_le a0
    refine ⟨_, _, rfl, rfl, by decide +kernel, ?_⟩
    refine ⟨_, rfl, _, _, rfl, rfl, by decide +kernel, ?_⟩
    obtain ⟨ev, eev⟩ : ∃ ev : Str, ev = " !\"#$&'()*+,-./0123456789:;<=>?@" ++ "ABCDEFGHIJKLMNOPQRSTUVWXYZ[\\]^_`" ++ "defghijklmnopqrstuvwxyz{|}~\n" := ⟨_, rfl⟩
    rw [← eev]
    have ev9 : ev = tx everyL := by rw [eev]; decide +kernel
    clear eev
    subst ev9
    -- wrong
    refine ⟨_, rfl, _, rfl, (k0 : Int), rfl, tx l, rfl, szt (by omega), ?_⟩
    rw [show cutS (tx l) none (some (k0 : Int)) = _ from tx_upto l k0]
    have le : everyL.length = 92 := by decide
    refine ⟨_, rfl, _, rfl, _, rfl, tx everyL, rfl, szt (by decide), b, _, n + 1, rfl, B1, by omega, by rw [tx_len, le]; decide, by rw [tx_len, le]; decide, fun e H2 e0 e1 o2 B2 => ?_⟩
    have S2 : Stp [b] H1 H2 := o2.stp one
    obtain ⟨c, mc, ec⟩ := pick (xs := everyL) e0 (by rw [tx_len] at e1; exact e1)
    have cb := every_bad c mc
    refine ⟨tx everyL, e, c, rfl, rfl, szt (by decide), ec, ?_⟩
    have lk : (l.take k0).length ≤ 12 := by rw [List.length_take]; omega
    refine ⟨tx (l.take k0), tx [c], rfl, rfl, by rw [tx_len, tx_len]; exact sz (by simp; omega), ?_⟩
    refine ⟨_, rfl, _, rfl, (k0 : Int), rfl, tx l, rfl, szt (by omega), ?_⟩
    rw [show cutS (tx l) (some (k0 : Int)) none = _ from tx_from l k0]
    have ld : (l.drop k0).length ≤ 12 := by rw [List.length_drop]; omega
    refine ⟨tx (l.take k0 ++ [c]), tx (l.drop k0), congrArg V.str (tx_app _ _), rfl, by rw [tx_len, tx_len]; exact sz (by simp; omega), ?_⟩
    obtain ⟨wr, ewr⟩ : ∃ wr, wr = l.take k0 ++ [c] ++ l.drop k0 := ⟨_, rfl⟩
    have wbad : ¬ IsTx (.str wr) := bad_mem (c := c) (by rw [ewr]; simp) cb
    have wl : wr.length ≤ 100 := by rw [ewr]; simp; omega
    rw [show tx (l.take k0 ++ [c]) ++ tx (l.drop k0) = tx wr by rw [ewr]; exact tx_app _ _]
    clear ewr
    have S02 := S1.trans S2
    have lb : Lsts H [b] := Pv.bag_ls B
    have rw0 : ∀ {Hx : Hp}, Rp K Hx (Tx l) (.str l) := fun {_} => .str l (by omega)
    have rwr : ∀ {Hx : Hp}, Rp K Hx (Tx wr) (.str wr) := fun {_} => .str wr (by omega)
    -- the first
    dsimp only [gName]
    refine asg_name ?_
    refine' Pg.EvDA.newl (K := K) ?e0 ?l0 ?k0
    case e0 => (repeat' first | exact Pg.EvDA.nil | apply Pg.EvDA.cons | exact Pg.EvD.bl | exact Pg.EvD.int | exact Pg.EvD.non | exact Pg.EvD.str | exact Pg.EvD.var rw0 | apply Pg.EvD.tup | apply Pg.EvD.lst | apply Pg.EvD.exc | exact Pg.EvD.pow ⟨by decide, by decide, by decide⟩ | apply Pg.EvD.neg | (simp; done))
    case l0 => simp
    case k0 =>
    intro L0 vs0 H3 S3 n3 h3 r3
    -- wrong, twelve times
    refine asg_name ?_
    refine op_var rfl ?_
    refine ⟨_, rfl, len1, fun p1 n1 => ?_⟩
    have S4 : Stp [] H3 (upd H3 p1 (.lst [Tx wr])) := Stp.new n1 _
    have h4 : (upd H3 p1 (.lst [Tx wr])) p1 = some (.lst [Tx wr]) := upd_same
    generalize upd H3 p1 (.lst [Tx wr]) = H4 at *
    refine ⟨p1, 12, _, rfl, rfl, h4, by decide, by decide, (by show 1 * 12 ≤ sizeLine; decide), fun p2 n2 => ?_⟩
    rw [rep12]
    have S5 : Stp [] H4 (upd H4 p2 (.lst (List.replicate 12 (Tx wr)))) := Stp.new n2 _
    have h5 : (upd H4 p2 (.lst (List.replicate 12 (Tx wr)))) p2 = some (.lst (List.replicate 12 (Tx wr))) := upd_same
    generalize upd H4 p2 (.lst (List.replicate 12 (Tx wr))) = H5 at *
    have S35 := S4.trans S5
    refine ⟨L0, p2, _, _, rfl, rfl, S35.kp _ _ (fun m => nomatch m) h3, h5, ?z1, fun L1 m1 => ?_⟩
    case z1 => rw [r3.len, List.length_replicate]; exact sz (by simp)
    have q5 := r3.stp S35 Lsts.nil
    have q6 := (q5.app (rpl_rep (rwr (Hx := H5)) 12)).stp (Stp.new (o := .lst (vs0 ++ List.replicate 12 (Tx wr))) m1 []) Lsts.nil
    have S6 : Stp [] H5 (upd H5 L1 (.lst (vs0 ++ List.replicate 12 (Tx wr)))) := Stp.new m1 _
    have h6 : (upd H5 L1 (.lst (vs0 ++ List.replicate 12 (Tx wr)))) L1 = some (.lst (vs0 ++ List.replicate 12 (Tx wr))) := upd_same
    generalize vs0 ++ List.replicate 12 (Tx wr) = vs1 at *
    generalize upd H5 L1 (.lst vs1) = H6 at *
    refine' Pg.EvDA.newl (K := K) ?e2 ?l2 ?k2
    case e2 => (repeat' first | exact Pg.EvDA.nil | apply Pg.EvDA.cons | exact Pg.EvD.bl | exact Pg.EvD.int | exact Pg.EvD.non | exact Pg.EvD.str | exact Pg.EvD.var rw0 | apply Pg.EvD.tup | apply Pg.EvD.lst | apply Pg.EvD.exc | apply Pg.EvD.cat | apply EvD.upper | exact up_len hl | exact sp_len hl | exact nl_len hl | exact Nat.le_trans hl (by decide) | (simp; done) | (simp; omega))
    case l2 => simp
    case k2 =>
    intro M2 ws2 H7 S7 n7 h7 r7
    refine ⟨L1, M2, _, _, rfl, rfl, S7.kp _ _ (fun m => nomatch m) h6, h7, ?z3, fun L3 m3 => ?_⟩
    case z3 => rw [q6.len, r7.len]; exact sz (by simp)
    have q8 := ((q6.stp S7 Lsts.nil).app r7).stp (Stp.new (o := .lst (vs1 ++ ws2)) m3 []) Lsts.nil
    have S8 : Stp [] H7 (upd H7 L3 (.lst (vs1 ++ ws2))) := Stp.new m3 _
    have h8 : (upd H7 L3 (.lst (vs1 ++ ws2))) L3 = some (.lst (vs1 ++ ws2)) := upd_same
    generalize vs1 ++ ws2 = vs2 at *
    generalize upd H7 L3 (.lst vs2) = H8 at *
    -- the last
    refine asg_name ?_
    refine op_var rfl ?_
    refine' Pg.EvDA.newl (K := K) ?e4 ?l4 ?k4
    case e4 => (repeat' first | exact Pg.EvDA.nil | apply Pg.EvDA.cons | exact EvD.mul abc_lit (by simp) mo2000 (by rw [flat_len]; decide) | exact EvD.mul abc_lit (by simp) mo900 (by rw [flat_len]; decide) | exact EvD.mul cba_lit (by simp) mo900' (by rw [flat_len]; decide) | exact Pg.EvD.str | exact Pg.EvD.var rw0 | apply Pg.EvD.exc | apply Pg.EvD.cat | exact big900 | (rw [flat_len]; decide +kernel))
    case l4 => simp
    case k4 =>
    intro M4 ws4 H9 S9 n9 h9 r9
    refine ⟨L3, M4, _, _, rfl, rfl, S9.kp _ _ (fun m => nomatch m) h8, h9, ?z5, fun L5 m5 => ?_⟩
    case z5 => rw [q8.len, r9.len]; exact sz (by simp)
    have q10 := ((q8.stp S9 Lsts.nil).app r9).stp (Stp.new (o := .lst (vs2 ++ ws4)) m5 []) Lsts.nil
    have S10 : Stp [] H9 (upd H9 L5 (.lst (vs2 ++ ws4))) := Stp.new m5 _
    have h10 : (upd H9 L5 (.lst (vs2 ++ ws4))) L5 = some (.lst (vs2 ++ ws4)) := upd_same
    have S29 := (((S3.trans S35).trans S6).trans S7).trans (S8.trans S9)
    have nb5 : b ≠ L5 := (B2.kp S29 (fun m => nomatch m)).ne m5
    have S210 := S29.trans S10
    generalize vs2 ++ ws4 = vs3 at *
    generalize upd H9 L5 (.lst vs3) = H10 at *
    have B10 := B2.kp S210 (fun m => nomatch m)
    clear q5 q6 q8 r3 r7 r9
    refine ⟨_, rfl, _, rfl, _, rfl, L5, vs3, rfl, .inl (SqL.of h10), b, _, _, rfl, B10, by omega, ?_, ?_, fun g H11 g0 g1 o3 B11 => ?_⟩
    · rw [q10.len]
      simp
    · rw [q10.len]
      simp
    have S11 : Stp [b] H10 H11 := o3.stp one
    have lb10 : Lsts H10 [b] := Pv.bag_ls B10
    have nLb : L5 ∉ [b] := fun m => nb5 (List.mem_singleton.mp m).symm
    obtain ⟨j, rfl⟩ := Int.eq_ofNat_of_zero_le g0
    have hj : j < vs3.length := by omega
    obtain ⟨d', hd', rd'⟩ := q10.get (List.getElem?_eq_getElem hj)
    refine ⟨L5, vs3, (j : Int), vs3[j], rfl, rfl, SqL.of (S11.kp _ _ nLb h10), atI_nat (List.getElem?_eq_getElem hj), ?_⟩
    refine k _ d' H11 (rd'.stp S11 lb10) ?_ ((S02.trans S210.nil).trans S11) B11
    have md := List.mem_of_getElem? hd'
    clear q10 hd' rd'
    rcases List.mem_append.mp md with md | md
    · rcases List.mem_append.mp md with md | md
      · rcases List.mem_append.mp md with md | md
        · simp only [List.mem_cons, List.not_mem_nil, or_false] at md
          rcases md with rfl | rfl | rfl | rfl | rfl | rfl | rfl | rfl | rfl | rfl | rfl | rfl | rfl <;> exact no_tx fun l e => nomatch e
        · rw [(List.mem_replicate.mp md).2]
          exact wbad
      · simp only [List.mem_cons, List.not_mem_nil, or_false] at md
        rcases md with rfl | rfl | rfl
        · exact bad_str _ (c := 10) (by decide +kernel) (by decide)
        · exact bad_pre _ (c := 32) (by decide +kernel) (by decide)
        · exact bad_str _ (c := 65) (by decide +kernel) (by decide)
    · simp only [List.mem_cons, List.not_mem_nil, or_false] at md
      rcases md with rfl | rfl | rfl | rfl
      · exact bad_str _ (c := 100) (by decide +kernel) (by decide)
      · exact bad_pre _ (c := 100) (by decide +kernel) (by decide)
      · exact bad_mem (c := 67) (List.mem_append_left _ (List.mem_append_right _ (by decide +kernel))) (by decide)
      · exact no_tx fun l e => nomatch e
theorem seq_end {t u : TS} {D : Ends} {σ : L2.St} {H : Hp} (I : L2.St → Hp → Prop) (fin : ∀ σ' H', I σ' H' → u D σ' H') (h : (∀ σ' H', I σ' H' → u D σ' H') → t { D with nx := u D } σ H) : tSeq t u D σ H := h fin
abbrev s__law_right : Stmt := topS 32
abbrev N__law_right : List Str := ["bag", "word", "due", "later", "odd", "far", "by_name"]
theorem sc__law_right : FnScope ["bag", "word", "due", "later", "odd", "far", "by_name"] ["bag"] (defScope s__law_right) := ⟨rfl, rfl, rfl, by decide +kernel, rfl, by decide +kernel, by decide +kernel⟩

/-! ### right -/
theorem neat_ab {l : List Nat} (h : Abc l) (hl : l.length ≤ 40) : Neat (.str (tx l)) := .str (by rw [tx_len]; exact hl) fun n m => by
  rcases h n (by simpa [tx] using m) with e | e | e <;> rw [e] <;> decide
def vlP : Option (List Nat) → PyData
  | none => .none
  | some l => .str (tx l)
def Fit (t : Option (List Nat)) : Prop := ∀ l, t = some l → Abc l ∧ l.length ≤ 40
theorem neat_vl {t : Option (List Nat)} (h : Fit t) : Neat (vlP t) := by
  cases t with
  | none => exact .non
  | some l => exact neat_ab (h l rfl).1 (h l rfl).2
theorem dp_vl {K : PySem.W.Frag} {H : Hp} (t : Option (List Nat)) : Dp K H (oV t) (vlP t) := by
  cases t with
  | none => exact .non
  | some l => exact .str _
theorem rep3 {K : PySem.W.Frag} {H : Hp} {q : Addr} {b : Bool} {s t : Option (List Nat)} {Q : VK} (hq : SqL K H q [.bl b, oV s, oV t]) (hs : Fit s) (ht : Fit t) (k : Q (.str (PyData.list [.bool b, vlP s, vlP t]).shown) H) : rNeat K [.ref q] H Q := by
  refine ⟨_, _, rfl, .lst hq (.cons (.bl b) (.cons (dp_vl s) (.cons (dp_vl t) .nil))), .lst (.cons (.bl b) (.cons (neat_vl hs) (.cons (neat_vl ht) .nil))), ?_, ?_, k⟩
  · cases s <;> cases t <;> exact (by show (1 : Nat) ≤ 100; decide)
  · cases s <;> cases t <;> cases b <;> simp [vlP, dW, dWs]
theorem rep2 {K : PySem.W.Frag} {H : Hp} {q : Addr} {b : Bool} {s : Option (List Nat)} {Q : VK} (hq : SqL K H q [.bl b, oV s]) (hs : Fit s) (k : Q (.str (PyData.list [.bool b, vlP s]).shown) H) : rNeat K [.ref q] H Q := by
  refine ⟨_, _, rfl, .lst hq (.cons (.bl b) (.cons (dp_vl s) .nil)), .lst (.cons (.bl b) (.cons (neat_vl hs) .nil)), ?_, ?_, k⟩
  · cases s <;> exact (by show (1 : Nat) ≤ 100; decide)
  · cases s <;> cases b <;> simp [vlP, dW, dWs]
theorem aa_lit : ("aa" : Str) = tx [97, 97] := by decide +kernel
theorem ab_lit : ("ab" : Str) = tx [97, 98] := by decide +kernel
def teP : PyData := .list [.str "text", .str "error"]
theorem te_dp {K : PySem.W.Frag} {H : Hp} : DpAll K H [.str "text", .str "error"] [.str "text", .str "error"] := .cons (.str _) (.cons (.str _) .nil)
theorem te_shaped : SeqAt.shaped teP = true := by decide +kernel
theorem te_eqv : PyData.eqv teP teP = true := by simp [teP, PyData.eqv, PyData.eqvAll]
def spRight : Sp := fun vs H Q _ => ∃ (b : Addr) (n : Nat), vs = [.ref b] ∧ Bag H b n ∧ n + 100 < 2 ^ 30 ∧ ∀ H', Stp [b] H H' → Q (.bl true) H'
theorem cl__law_right {f : Addr} {fd : FuncData} (D : Df K mg "_law_right" s__law_right ["bag"] f fd) (T : Nm mg) (TX : Er K mg) (c__law_text : Cl P w K mg base 2 "_law_text" s__law_text ["bag"] spText) (c__law_past : Cl P w K mg base 1 "_law_past" s__law_past ["word"] spPastX)
    (c_is_text : Cl P w K mg base 1 "is_text" s_is_text ["value"] (spIsText K)) (c_behind : Cl P w K mg base 3 "behind" s_behind ["text"] spBehind) (c_beyond : Cl P w K mg base 3 "beyond" s_beyond ["text"] spBeyX) (c__law_odd_text : Cl P w K mg base 2 "_law_odd_text" s__law_odd_text ["bag", "word"] (spOddT K))
    (c__law_draw : Cl P w K mg base 1 "_law_draw" s__law_draw ["bag", "upto"] spDraw) (c__law_refused : Cl P w K mg base 4 "_law_refused" s__law_refused ["far", "by_name", "odd"] (spRefused K)) : ClG P w K mg base 5 "_law_right" s__law_right ["bag"] spRight := by
  refine ⟨f, fd, D, D.g sc__law_right (fun vs H Q E h => ?_) (fun cdv A outer s H vs Q E hG hr h => ?_)⟩
  · obtain ⟨b, n, rfl, _⟩ := h
    rfl
  · obtain ⟨b, n, rfl, B, hn, k⟩ := h
    refine ⟨_, (pss_cons (ps_set (i := 1) sc__law_right.nd rfl (by first | exact Or.inl rfl | exact Or.inr rfl) (pe_cl c__law_text hr (by omega) (pa_cons (pv 0) pa_nil)))
      (pss_cons (ps_set (i := 2) sc__law_right.nd rfl (by first | exact Or.inl rfl | exact Or.inr rfl) (pe_lst (pa_cons pe_bl (pa_cons (pe_op op_add_str (pv 1) pe_str) (pa_cons (pe_cl c__law_past hr (by omega) (pa_cons (pv 1) pa_nil)) pa_nil)))))
      (pss_cons (ps_if (pt_cmpR op_ne (pe_callB (Pg.call_repr_neat hG hr) (by rfl) T.n_repr (by decide +kernel) (pa_cons (pe_lst (pa_cons (pe_cl c_is_text hr (by omega) (pa_cons (pv 1) pa_nil)) (pa_cons (pe_cl c_behind hr (by omega) (pa_cons (pv 1) pa_nil)) (pa_cons (pe_cl c_beyond hr (by omega) (pa_cons (pv 1) pa_nil)) pa_nil)))) pa_nil)) (pe_callB (Pg.call_repr_neat hG hr) (by rfl) T.n_repr (by decide +kernel) (pa_cons (pv 2) pa_nil)) (by first | exact nomark _ | rfl)) (pss_one (ps_ret pe_bl)) pss_nil)
      (pss_cons (ps_if (pt_cmpR op_ne (pe_callB (Pg.call_repr_neat hG hr) (by rfl) T.n_repr (by decide +kernel) (pa_cons (pe_lst (pa_cons (pe_clK c_is_text hr (by omega) kb_is_text_value (pk_cons (pv 1) pk_nil)) (pa_cons (pe_clK c_behind hr (by omega) kb_behind_text (pk_cons (pv 1) pk_nil)) (pa_cons (pe_clK c_beyond hr (by omega) kb_beyond_text (pk_cons (pv 1) pk_nil)) pa_nil)))) pa_nil)) (pe_callB (Pg.call_repr_neat hG hr) (by rfl) T.n_repr (by decide +kernel) (pa_cons (pv 2) pa_nil)) (by first | exact nomark _ | rfl)) (pss_one (ps_ret pe_bl)) pss_nil)
      (pss_cons (ps_set (i := 3) sc__law_right.nd rfl (by first | exact Or.inl rfl | exact Or.inr rfl) (pe_cl c_behind hr (by omega) (pa_cons (pe_cl c_behind hr (by omega) (pa_cons (pv 1) pa_nil)) pa_nil)))
      (pss_cons (ps_if (pt_cmpR op_ne (pe_callB (Pg.call_repr_neat hG hr) (by rfl) T.n_repr (by decide +kernel) (pa_cons (pe_lst (pa_cons (pe_cl c_is_text hr (by omega) (pa_cons (pv 3) pa_nil)) (pa_cons (pv 3) (pa_cons (pe_cl c_beyond hr (by omega) (pa_cons (pv 3) pa_nil)) pa_nil)))) pa_nil)) (pe_callB (Pg.call_repr_neat hG hr) (by rfl) T.n_repr (by decide +kernel) (pa_cons (pe_lst (pa_cons pe_bl (pa_cons (pe_op op_add_str (pv 1) pe_str) (pa_cons (pe_op op_add_str (pv 1) pe_str) pa_nil)))) pa_nil)) (by first | exact nomark _ | rfl)) (pss_one (ps_ret pe_bl)) pss_nil)
      (pss_cons (ps_if (PW.pt (pw_and (pt_cmpR op_notN (pe_ix ix_list (pv 2) pe_int (fun _ _ => rfl)) pe_non (by first | exact nomark _ | rfl)) (pw_and1 (pt_cmpR op_ne (pe_callB (Pg.call_repr_neat hG hr) (by rfl) T.n_repr (by decide +kernel) (pa_cons (pe_lst (pa_cons (pe_cl c_is_text hr (by omega) (pa_cons (pe_ix ix_list (pv 2) pe_int (fun _ _ => rfl)) pa_nil)) (pa_cons (pe_cl c_behind hr (by omega) (pa_cons (pe_cl c_beyond hr (by omega) (pa_cons (pv 1) pa_nil)) pa_nil)) pa_nil))) pa_nil)) (pe_callB (Pg.call_repr_neat hG hr) (by rfl) T.n_repr (by decide +kernel) (pa_cons (pe_lst (pa_cons pe_bl (pa_cons (pe_op op_add_str (pe_ix ix_list (pv 2) pe_int (fun _ _ => rfl)) pe_str) pa_nil))) pa_nil)) (by first | exact nomark _ | rfl))))) (pss_one (ps_ret pe_bl)) pss_nil)
      (pss_cons (ps_set (i := 4) sc__law_right.nd rfl (by first | exact Or.inl rfl | exact Or.inr rfl) (pe_cl c__law_odd_text hr (by omega) (pa_cons (pv 0) (pa_cons (pv 1) pa_nil))))
      (pss_cons (ps_if (pt_cmpR op_eq (pe_cl c__law_draw hr (by omega) (pa_cons (pv 0) (pa_cons pe_int pa_nil))) pe_int (by first | exact nomark _ | rfl)) (pss_one (ps_set (i := 4) sc__law_right.nd rfl (by first | exact Or.inl rfl | exact Or.inr rfl) pe_non)) pss_nil)
      (pss_cons (ps_if (PW.pt (pw_or (pt_cmpR op_notBl (pe_cl c_is_text hr (by omega) (pa_cons (pv 4) pa_nil)) pe_bl (by first | exact nomark _ | rfl)) (pw_or1 (pt_cmpR op_notBl (pe_clK c_is_text hr (by omega) kb_is_text_value (pk_cons (pv 4) pk_nil)) pe_bl (by first | exact nomark _ | rfl))))) (pss_one (ps_ret pe_bl)) pss_nil)
      (pss_cons (ps_par (i := 5) (j := 6) rfl sc__law_right.nd rfl rfl (by decide) rfl rfl (pa_cons (pe_cmpR op_eq (pe_cl c__law_draw hr (by omega) (pa_cons (pv 0) (pa_cons pe_int pa_nil))) pe_int (by first | exact nomark _ | rfl)) (pa_cons (pe_cmpR op_eq (pe_cl c__law_draw hr (by omega) (pa_cons (pv 0) (pa_cons pe_int pa_nil))) pe_int (by first | exact nomark _ | rfl)) pa_nil)) (by rfl))
      (pss_one (ps_ret (pe_chain (op_eqD hr.units) (op_eqD hr.units) (pe_cl c__law_refused hr (by omega) (pa_cons (pv 5) (pa_cons (pv 6) (pa_cons (pv 4) pa_nil)))) (pe_lst (pa_cons pe_str (pa_cons pe_str pa_nil))) (pe_cl c__law_refused hr (by omega) (pa_cons (pe_not (pv 5)) (pa_cons (pe_not (pv 6)) (pa_cons (pv 4) pa_nil)))))))))))))))))), ?_⟩
    have nn : ∀ {x : Addr}, x ∉ ([] : List Addr) := fun m => nomatch m
    have one : b ∈ [b] := List.mem_singleton.mpr rfl
    have len2 : (2 : Nat) ≤ sizeLine := by decide
    have len3 : (3 : Nat) ≤ sizeLine := by decide
    refine ⟨_, rfl, b, n, rfl, B, by omega, fun l H1 al ll S1 B1 => ?_⟩
    have lng : Lng l := ⟨al, by omega⟩
    have aa : Abc (l ++ [97]) := al.app (Abc.one (.inl rfl))
    have lng1 : Lng (l ++ [97]) := ⟨aa, by simp; omega⟩
    have fa : Fit (some (l ++ [97])) := fun x e => by cases e; exact ⟨aa, by simp; omega⟩
    have fb : Fit (beyR l) := fun x e => ⟨(beyR_ok al e).1, by have := (beyR_ok al e).2.1; omega⟩
    -- due
    refine ⟨_, rfl, tx l, tx [97], rfl, congrArg V.str a_lit, by rw [tx_len, tx_len]; exact sz (by simp; omega), ?_⟩
    rw [tx_app]
    refine ⟨_, rfl, l, rfl, lng, len3, fun L nL => ?_⟩
    have S2 : Stp [] H1 (upd H1 L (.lst [.bl true, Tx (l ++ [97]), oV (beyR l)])) := Stp.new nL _
    have hL : (upd H1 L (.lst [.bl true, Tx (l ++ [97]), oV (beyR l)])) L = some (.lst [.bl true, oV (some (l ++ [97])), oV (beyR l)]) := upd_same
    generalize upd H1 L (.lst [.bl true, Tx (l ++ [97]), oV (beyR l)]) = H2 at *
    have B2 := B1.kp S2 nn
    have S02 := S1.trans S2.nil
    -- by place
    refine ⟨_, rfl, Tx l, .str l, rfl, .str l (by omega), fun bt hb => ?_⟩
    obtain rfl : bt = true := hb.mpr ⟨l, rfl, al⟩
    refine ⟨_, rfl, l, rfl, lng, ?_⟩
    refine ⟨_, rfl, l, rfl, lng, ?_⟩
    refine ⟨len3, fun q nq => ?_⟩
    have S3 : Stp [] H2 (upd H2 q (.lst [.bl true, Tx (l ++ [97]), oV (beyR l)])) := Stp.new nq _
    refine tn (rep3 (s := some (l ++ [97])) (SqL.of upd_same) fa fb ?_)
    have hL3 := S3.kp _ _ nn hL
    refine ⟨_, rfl, tn (rep3 (SqL.of hL3) fa fb ⟨rfl, _, rfl, ite2 (fun h => absurd h (by simp)) (fun _ => ?_)⟩)⟩
    generalize upd H2 q (.lst [.bl true, Tx (l ++ [97]), oV (beyR l)]) = H3 at *
    have S23 := S3
    -- by name
    refine ⟨_, rfl, Tx l, .str l, rfl, .str l (by omega), fun bt hb => ?_⟩
    obtain rfl : bt = true := hb.mpr ⟨l, rfl, al⟩
    refine ⟨_, rfl, l, rfl, lng, ?_⟩
    refine ⟨_, rfl, l, rfl, lng, ?_⟩
    refine ⟨len3, fun q nq => ?_⟩
    have S4 : Stp [] H3 (upd H3 q (.lst [.bl true, Tx (l ++ [97]), oV (beyR l)])) := Stp.new nq _
    refine tn (rep3 (s := some (l ++ [97])) (SqL.of upd_same) fa fb ?_)
    have hL4 := S4.kp _ _ nn hL3
    refine ⟨_, rfl, tn (rep3 (SqL.of hL4) fa fb ⟨rfl, _, rfl, ite2 (fun h => absurd h (by simp)) (fun _ => ?_)⟩)⟩
    generalize upd H3 q (.lst [.bl true, Tx (l ++ [97]), oV (beyR l)]) = H4 at *
    -- later
    refine ⟨_, rfl, l, rfl, lng, l ++ [97], rfl, lng1, ?_⟩
    have a2 : Abc (l ++ [97] ++ [97]) := aa.app (Abc.one (.inl rfl))
    have lng2 : Lng (l ++ [97] ++ [97]) := ⟨a2, by simp; omega⟩
    have f2 : Fit (some (l ++ [97] ++ [97])) := fun x e => by cases e; exact ⟨a2, by simp; omega⟩
    have eb : beyR (l ++ [97] ++ [97]) = some (l ++ [97] ++ [98]) := beyR_id (by decide) _
    have f3 : Fit (some (l ++ [97] ++ [98])) := fun x e => by cases e; exact ⟨aa.app (Abc.one (.inr (.inl rfl))), by simp; omega⟩
    refine ⟨_, rfl, Tx (l ++ [97] ++ [97]), .str _, rfl, .str _ (by simp; omega), fun bt hb => ?_⟩
    obtain rfl : bt = true := hb.mpr ⟨_, rfl, a2⟩
    refine ⟨_, rfl, _, rfl, _, rfl, lng2, ?_⟩
    rw [eb]
    refine ⟨len3, fun q nq => ?_⟩
    have S5 : Stp [] H4 (upd H4 q (.lst [.bl true, Tx (l ++ [97] ++ [97]), oV (some (l ++ [97] ++ [98]))])) := Stp.new nq _
    refine tn (rep3 (s := some (l ++ [97] ++ [97])) (SqL.of upd_same) f2 f3 ?_)
    generalize upd H4 q (.lst [.bl true, Tx (l ++ [97] ++ [97]), oV (some (l ++ [97] ++ [98]))]) = H5 at *
    refine ⟨_, rfl, tx l, tx [97, 97], rfl, congrArg V.str aa_lit, by rw [tx_len, tx_len]; exact sz (by simp; omega), ?_⟩
    rw [tx_app]
    refine ⟨_, rfl, tx l, tx [97, 98], rfl, congrArg V.str ab_lit, by rw [tx_len, tx_len]; exact sz (by simp; omega), ?_⟩
    rw [tx_app]
    refine ⟨len3, fun q nq => ?_⟩
    have e1 : l ++ [97, 97] = l ++ [97] ++ [97] := by simp
    have e2 : l ++ [97, 98] = l ++ [97] ++ [98] := by simp
    rw [e1, e2]
    have S6 : Stp [] H5 (upd H5 q (.lst [.bl true, Tx (l ++ [97] ++ [97]), Tx (l ++ [97] ++ [98])])) := Stp.new nq _
    refine tn (rep3 (s := some (l ++ [97] ++ [97])) (t := some (l ++ [97] ++ [98])) (SqL.of upd_same) f2 f3 ⟨rfl, _, rfl, ite2 (fun h => absurd h (by simp)) (fun _ => ?_)⟩)
    generalize upd H5 q (.lst [.bl true, Tx (l ++ [97] ++ [97]), Tx (l ++ [97] ++ [98])]) = H6 at *
    have S26 := ((S3.trans S4).trans S5).trans S6
    have hL6 := ((S4.trans S5).trans S6).kp _ _ nn hL3
    dsimp only [tNext]
    refine seq_end (fun σ H' => σ = [some (.ref b), some (Tx l), some (.ref L), some (Tx (l ++ [97] ++ [97])), none, none, none] ∧ Stp [] H6 H') ?_ (fun fin => ?_)
    rotate_left
    · refine ⟨_, rfl, L, _, 2, _, rfl, rfl, SqL.of hL6, rfl, rfl, _, rfl, ?_⟩
      cases eb2 : beyR l with
      | none => exact ite2 (fun h => absurd h (by decide)) (fun _ => ite2 (fun h => nomatch h) (fun _ => fin _ _ ⟨rfl, Stp.refl _ _⟩))
      | some e =>
        rw [eb2] at hL6 fb
        obtain ⟨ae, le⟩ := fb e rfl
        have fe : Fit (some (e ++ [97])) := fun x q => by cases q; exact ⟨ae.app (Abc.one (.inl rfl)), by have := (beyR_ok al eb2).2.1; simp; omega⟩
        refine ite2 (fun _ => ?_) (fun h => absurd rfl h)
        refine ⟨_, rfl, L, _, 2, _, rfl, rfl, SqL.of hL6, rfl, ?_⟩
        refine ⟨Tx e, .str e, rfl, .str e (by omega), fun bt hb => ?_⟩
        obtain rfl : bt = true := hb.mpr ⟨e, rfl, ae⟩
        refine ⟨_, rfl, l, rfl, lng, ?_⟩
        rw [eb2]
        refine ⟨e, rfl, ⟨ae, by omega⟩, len2, fun q nq => ?_⟩
        have S7 : Stp [] H6 (upd H6 q (.lst [.bl true, Tx (e ++ [97])])) := Stp.new nq _
        refine tn (rep2 (s := some (e ++ [97])) (SqL.of upd_same) fe ?_)
        have hL7 := S7.kp _ _ nn hL6
        generalize upd H6 q (.lst [.bl true, Tx (e ++ [97])]) = H7 at *
        refine ⟨_, rfl, L, _, 2, _, rfl, rfl, SqL.of hL7, rfl, tx e, tx [97], rfl, congrArg V.str a_lit, by rw [tx_len, tx_len]; exact sz (by simp; omega), ?_⟩
        rw [tx_app]
        refine ⟨len2, fun q2 n2 => ?_⟩
        have S8 : Stp [] H7 (upd H7 q2 (.lst [.bl true, Tx (e ++ [97])])) := Stp.new n2 _
        refine tn (rep2 (s := some (e ++ [97])) (SqL.of upd_same) fe ⟨rfl, _, rfl, ite2 (fun h => absurd h (by simp)) (fun _ => ?_)⟩)
        exact fin _ _ ⟨rfl, S7.trans S8⟩
    rintro σ H7 ⟨rfl, S7⟩
    have S27 := S26.trans S7
    have B7 := B2.kp S27 nn
    -- odd
    refine ⟨_, rfl, _, rfl, b, _, l, rfl, B7, by omega, al, ll, fun v d H8 rv no S8 B8 => ?_⟩
    dsimp only
    refine seq_end (fun σ H' => ∃ (v : V) (d : Dt), σ = [some (.ref b), some (Tx l), some (.ref L), some (Tx (l ++ [97] ++ [97])), some v, none, none] ∧ Stp [b] H8 H' ∧ Bag H' b (n + 14 + 4) ∧ Rp K H' v d ∧ ¬ IsTx d) ?_ (fun fin => ?_)
    rotate_left
    · refine ⟨_, rfl, b, 5, _, rfl, B8, by omega, by decide, by decide, fun g H9 g0 g1 o9 B9 => ⟨rfl, _, rfl, ite2 (fun _ => ?_) (fun _ => ?_)⟩⟩
      · exact fin _ _ ⟨.non, .non, rfl, o9.stp one, B9, .non, fun ⟨l, e, _⟩ => nomatch e⟩
      · exact fin _ _ ⟨v, d, rfl, o9.stp one, B9, rv.stp (o9.stp one) (Pv.bag_ls B8), no⟩
    rintro σ H9 ⟨v, d, rfl, S9, B9, rv, no⟩
    have S09 := ((S02.trans S27.nil).trans S8).trans S9
    -- no text
    refine ⟨_, rfl, v, d, rfl, rv, fun bt hb => ?_⟩
    obtain rfl : bt = false := Bool.eq_false_iff.mpr fun e => no (hb.mp e)
    refine ⟨false, false, rfl, rfl, _, rfl, ite2 (fun h => nomatch h) (fun _ => ?_)⟩
    refine ⟨_, rfl, v, d, rfl, rv, fun bt hb => ?_⟩
    obtain rfl : bt = false := Bool.eq_false_iff.mpr fun e => no (hb.mp e)
    refine ⟨false, false, rfl, rfl, _, rfl, ite2 (fun h => nomatch h) (fun _ => ?_)⟩
    -- far, by_name
    refine ⟨_, rfl, b, 2, _, rfl, B9, by omega, by decide, by decide, fun g HA g0 g1 oA BA => ⟨rfl, ?_⟩⟩
    refine ⟨_, rfl, b, 2, _, rfl, BA, by omega, by decide, by decide, fun g' HB g0' g1' oB BB => ⟨rfl, _, _, rfl, ?_⟩⟩
    have SA : Stp [b] H9 HA := oA.stp one
    have SB : Stp [b] HA HB := oB.stp one
    have rvB := (rv.stp SA (Pv.bag_ls B9)).stp SB (Pv.bag_ls BA)
    obtain ⟨b1, eb1⟩ : ∃ b1 : Bool, b1 = decide (V.int g = V.int 0) := ⟨_, rfl⟩
    obtain ⟨b2, eb2⟩ : ∃ b2 : Bool, b2 = decide (V.int g' = V.int 0) := ⟨_, rfl⟩
    rw [← eb1, ← eb2]
    refine ⟨_, rfl, _, rfl, _, rfl, b1, b2, v, d, rfl, rvB, no, fun L1 HC SC hC => ?_⟩
    refine ⟨len2, fun q nq => ?_⟩
    have SD : Stp [] HC (upd HC q (.lst [.str "text", .str "error"])) := Stp.new nq _
    have hq : (upd HC q (.lst [.str "text", .str "error"])) q = some (.lst [.str "text", .str "error"]) := upd_same
    have hC2 := SD.kp _ _ nn hC
    generalize upd HC q (.lst [.str "text", .str "error"]) = HD at *
    refine ⟨teP, teP, .lst (SqL.of hC2) te_dp, .lst (SqL.of hq) te_dp, te_shaped, te_shaped, ?_⟩
    rw [te_eqv]
    refine ⟨_, rfl, ite2 (fun _ => ?_) (fun h => absurd rfl h)⟩
    have rvD := (rvB.stp SC Lsts.nil).stp SD Lsts.nil
    refine ⟨_, rfl, b1, rfl, _, rfl, b2, rfl, _, rfl, !b1, !b2, v, d, rfl, rvD, no, fun L2 HE SE hE => ?_⟩
    refine ⟨teP, teP, .lst (SqL.of (SE.kp _ _ nn hq)) te_dp, .lst (SqL.of hE) te_dp, te_shaped, te_shaped, ?_⟩
    rw [te_eqv]
    exact k _ (((S09.trans SA).trans SB).trans ((SC.trans SD).trans SE).nil)
abbrev s_law : Stmt := topS 33
abbrev N_law : List Str := ["script", "cell"]
theorem sc_law : FnScope ["script", "cell"] ["script"] (defScope s_law) := ⟨rfl, rfl, rfl, by decide +kernel, rfl, by decide +kernel, by decide +kernel⟩

/-! ### the law -/
theorem abc_flat {l : List Nat} (h : Abc l) (n : Nat) : Abc ((List.replicate n l).flatten) := fun c m => by
  obtain ⟨x, mx, mc⟩ := List.mem_flatten.mp m
  rw [(List.mem_replicate.mp mx).2] at mc
  exact h c mc
def ttP : PyData := .list [.bool true, .bool true, .bool true]
theorem tt_dp {K : PySem.W.Frag} {H : Hp} : DpAll K H [.bl true, .bl true, .bl true] [.bool true, .bool true, .bool true] := .cons (.bl _) (.cons (.bl _) (.cons (.bl _) .nil))
theorem tt_eqv : PyData.eqv ttP ttP = true := by simp [ttP, PyData.eqv, PyData.eqvAll]
def spLaw (K : PySem.W.Frag) : Sp := fun vs H Q _ => ∃ (a : Addr) (ns : List Int), vs = [.ref a] ∧ SqL K H a (ns.map V.int) ∧ ns.length ≤ 63 ∧ ∀ H', Q (.bl true) H'
theorem cl_law {f : Addr} {fd : FuncData} (D' : Df K mg "law" s_law ["script"] f fd) (T : Nm mg) (c_is_text : Cl P w K mg base 1 "is_text" s_is_text ["value"] (spIsText K)) (c__law_bag : Cl P w K mg base 1 "_law_bag" s__law_bag ["cell"] spBag) (c__law_right : ClG P w K mg base 5 "_law_right" s__law_right ["bag"] spRight) :
    FnG P w K mg base 6 f fd ["script"] (spLaw K) := by
  refine D'.g sc_law (fun vs H Q E h => ?_) (fun cdv A outer s H vs Q E hG hr h => ?_)
  · obtain ⟨a, ns, rfl, _⟩ := h
    rfl
  · obtain ⟨a, ns, rfl, hS, hlen, k⟩ := h
    refine ⟨_, (pss_cons (ps_if (pt_cmpR (op_neD hr.units) (pe_lst (pa_cons (pe_cl c_is_text hr (by omega) (pa_cons (pe_op Pg.op_mul_str pe_str pe_int) pa_nil)) (pa_cons (pe_cl c_is_text hr (by omega) (pa_cons (pe_op Pg.op_mul_str pe_str pe_int) pa_nil)) (pa_cons (pe_cl c_is_text hr (by omega) (pa_cons (pe_op op_add_str (pe_op Pg.op_mul_str pe_str pe_int) pe_str) pa_nil)) pa_nil)))) (pe_lst (pa_cons pe_bl (pa_cons pe_bl (pa_cons pe_bl pa_nil)))) (by first | exact nomark _ | rfl)) (pss_one (ps_ret pe_bl)) pss_nil)
      (pss_cons (ps_for PassesOwn.never rfl (pi_list (pe_op Pv.op_catS (pv 0) (pe_lst (pa_cons (pe_op op_add (pe_op op_pow pe_int pe_int) pe_int) pa_nil)))) (pg_name (i := 1) sc_law.nd rfl (by first | exact Or.inl rfl | exact Or.inr rfl)) (pss_one (ps_if (pt_not (pt_val (pe_clG c__law_right hG hr (by omega) (pa_cons (pe_cl c__law_bag hr (by omega) (pa_cons (pv 1) pa_nil)) pa_nil)))) (pss_one (ps_ret pe_bl)) pss_nil)))
      (pss_one (ps_ret pe_bl)))), ?_⟩
    have nn : ∀ {x : Addr}, x ∉ ([] : List Addr) := fun m => nomatch m
    have len1 : (1 : Nat) ≤ sizeLine := by decide
    have len3 : (3 : Nat) ≤ sizeLine := by decide
    have abc : Abc [97, 98, 99] := fun c m => by
      simp at m
      exact m
    -- long texts
    refine ⟨tx [97, 98, 99], 2000, congrArg V.str abc_lit, rfl, mo2000, ?_⟩
    rw [mul_flat (by simp)]
    refine ⟨_, .str _, rfl, .str _ (by rw [flat_len]; decide), fun bt hb => ?_⟩
    obtain rfl : bt = true := hb.mpr ⟨_, rfl, abc_flat abc _⟩
    refine ⟨tx [99], 8000, congrArg V.str c_lit9, rfl, mulOk 99 (by decide) (by decide), ?_⟩
    rw [mul_flat (by simp)]
    refine ⟨_, .str _, rfl, .str _ (by rw [flat_len]; decide), fun bt hb => ?_⟩
    obtain rfl : bt = true := hb.mpr ⟨_, rfl, abc_flat (Abc.one (.inr (.inr rfl))) _⟩
    refine ⟨tx [97], 300, congrArg V.str a_lit, rfl, mulOk 97 (by decide) (by decide), ?_⟩
    rw [mul_flat (by simp)]
    refine ⟨_, tx [98], rfl, congrArg V.str b_lit, by rw [tx_len, tx_len, flat_len]; exact sz (by decide), ?_⟩
    rw [tx_app]
    refine ⟨_, .str _, rfl, .str _ (by rw [List.length_append, flat_len]; decide), fun bt hb => ?_⟩
    obtain rfl : bt = true := hb.mpr ⟨_, rfl, (abc_flat (Abc.one (.inl rfl)) _).app (Abc.one (.inr (.inl rfl)))⟩
    refine ⟨len3, fun q nq => ⟨len3, fun q2 n2 => ?_⟩⟩
    have S1 : Stp [] H (upd H q (.lst [.bl true, .bl true, .bl true])) := Stp.new nq _
    have h1 : (upd H q (.lst [.bl true, .bl true, .bl true])) q = some (.lst [.bl true, .bl true, .bl true]) := upd_same
    generalize upd H q (.lst [.bl true, .bl true, .bl true]) = H1 at *
    have S2 : Stp [] H1 (upd H1 q2 (.lst [.bl true, .bl true, .bl true])) := Stp.new n2 _
    have h2 : (upd H1 q2 (.lst [.bl true, .bl true, .bl true])) q2 = some (.lst [.bl true, .bl true, .bl true]) := upd_same
    generalize upd H1 q2 (.lst [.bl true, .bl true, .bl true]) = H2 at *
    refine ⟨ttP, ttP, .lst (SqL.of (S2.kp _ _ nn h1)) tt_dp, .lst (SqL.of h2) tt_dp, by decide +kernel, by decide +kernel, ?_⟩
    rw [tt_eqv]
    refine ⟨_, rfl, ite2 (fun h => nomatch h) (fun _ => ?_)⟩
    have hS2 := sql_up (S1.trans S2) hS
    -- the cells
    refine ⟨_, rfl, _, _, rfl, rfl, ⟨by decide, by decide, by decide⟩, _, _, rfl, rfl, len1, fun p2 np2 => ?_⟩
    have S3 : Stp [] H2 (upd H2 p2 (.lst [V.int (10 ^ (18 : Int).toNat + 6)])) := Stp.new np2 _
    have h3 : (upd H2 p2 (.lst [V.int (10 ^ (18 : Int).toNat + 6)])) p2 = some (.lst [V.int (10 ^ (18 : Int).toNat + 6)]) := upd_same
    generalize upd H2 p2 (.lst [V.int (10 ^ (18 : Int).toNat + 6)]) = H3 at *
    refine ⟨a, p2, _, _, rfl, rfl, sql_up S3 hS2, SqL.of h3, ?_, fun p3 np3 => ?_⟩
    · rw [List.length_map]
      exact Nat.le_trans (show _ ≤ 64 by simp; omega) (by decide)
    obtain ⟨cs, ecs⟩ : ∃ cs : List Int, ns.map V.int ++ [V.int (10 ^ (18 : Int).toNat + 6)] = cs.map V.int := ⟨ns ++ [10 ^ (18 : Int).toNat + 6], by rw [List.map_append]; rfl⟩
    rw [ecs]
    refine ⟨p3, rfl, ⟨_, SqL.of upd_same⟩, for_list (K := K) (a := p3) (xs := cs.map V.int) (fun i σ H1 => ∃ x1 : Option V, σ = [some (.ref a), x1] ∧ H1 p3 = some (.lst (cs.map V.int)))
      ⟨none, rfl, upd_same⟩ (fun i σ H1 _ ⟨_, _, h⟩ => SqL.of h) ?_ (fun σ H1 ⟨x1, e, _⟩ => by rw [e]; exact k _)⟩
    rintro i y σ H4 hi ⟨x1, rfl, h4⟩
    obtain ⟨c, rfl⟩ : ∃ c, y = V.int c := by
      rw [List.getElem?_map] at hi
      cases e : cs[i]? with
      | none =>
        rw [e] at hi
        cases hi
      | some u =>
        rw [e] at hi
        exact ⟨u, (Option.some.inj hi).symm⟩
    refine ⟨_, rfl, c, rfl, fun b H5 nb S5 B5 => ?_⟩
    have h5 := S5.kp _ _ nn h4
    have nb5 : p3 ≠ b := ne_of_none h4 nb
    refine ⟨b, 0, rfl, B5, by decide, fun H6 S6 => ⟨_, rfl, ite2 (fun h => nomatch h) (fun _ => ?_)⟩⟩
    exact ⟨_, rfl, S6.kp _ _ (fun m => nb5 (List.mem_singleton.mp m)) h5⟩
/-! ### what the top has written, the head -/
theorem all_mk {l : PySem.W.OpenLaw} {w : World} {K : PySem.W.Frag} {h : Heap} {mg : Str → Option Value} {fa : Addr} (X : K.In h) (G : h.Ns mainGlobals mg) (hfa : mg "law" = some (.ref fa))
    {f0 : Addr} {od0 an0 : Option Addr} {sl0 : Array (Option Value)} {oc0 kV0 dc0 pm0 cd0 ct0 : Value}
    (a0 : PySem.W.nsIn K mainGlobals "is_text" = some (some (.ref f0))) (l0 : K.lookup f0 = some ⟨oc0, od0, .func (PySem.W.fnOf "is_text" "is_text" (defArgs s_is_text) (defBody s_is_text) (defScope s_is_text) .none kV0 dc0 pm0 an0 cd0 ct0), sl0⟩) (c0 : PySem.W.codeIn K cd0 "is_text" = true) (k0 : PySem.W.keepIn K (.ref f0) = true)
    {f1 : Addr} {od1 an1 : Option Addr} {sl1 : Array (Option Value)} {oc1 kV1 dc1 pm1 cd1 ct1 : Value}
    (a1 : PySem.W.nsIn K mainGlobals "check_text" = some (some (.ref f1))) (l1 : K.lookup f1 = some ⟨oc1, od1, .func (PySem.W.fnOf "check_text" "check_text" (defArgs s_check_text) (defBody s_check_text) (defScope s_check_text) .none kV1 dc1 pm1 an1 cd1 ct1), sl1⟩) (c1 : PySem.W.codeIn K cd1 "check_text" = true) (k1 : PySem.W.keepIn K (.ref f1) = true)
    {f2 : Addr} {od2 an2 : Option Addr} {sl2 : Array (Option Value)} {oc2 kV2 dc2 pm2 cd2 ct2 : Value}
    (a2 : PySem.W.nsIn K mainGlobals "behind" = some (some (.ref f2))) (l2 : K.lookup f2 = some ⟨oc2, od2, .func (PySem.W.fnOf "behind" "behind" (defArgs s_behind) (defBody s_behind) (defScope s_behind) .none kV2 dc2 pm2 an2 cd2 ct2), sl2⟩) (c2 : PySem.W.codeIn K cd2 "behind" = true) (k2 : PySem.W.keepIn K (.ref f2) = true)
    {f3 : Addr} {od3 an3 : Option Addr} {sl3 : Array (Option Value)} {oc3 kV3 dc3 pm3 cd3 ct3 : Value}
    (a3 : PySem.W.nsIn K mainGlobals "beyond" = some (some (.ref f3))) (l3 : K.lookup f3 = some ⟨oc3, od3, .func (PySem.W.fnOf "beyond" "beyond" (defArgs s_beyond) (defBody s_beyond) (defScope s_beyond) .none kV3 dc3 pm3 an3 cd3 ct3), sl3⟩) (c3 : PySem.W.codeIn K cd3 "beyond" = true) (k3 : PySem.W.keepIn K (.ref f3) = true)
    {f4 : Addr} {od4 an4 : Option Addr} {sl4 : Array (Option Value)} {oc4 kV4 dc4 pm4 cd4 ct4 : Value}
    (a4 : PySem.W.nsIn K mainGlobals "_law_bag" = some (some (.ref f4))) (l4 : K.lookup f4 = some ⟨oc4, od4, .func (PySem.W.fnOf "_law_bag" "_law_bag" (defArgs s__law_bag) (defBody s__law_bag) (defScope s__law_bag) .none kV4 dc4 pm4 an4 cd4 ct4), sl4⟩) (c4 : PySem.W.codeIn K cd4 "_law_bag" = true) (k4 : PySem.W.keepIn K (.ref f4) = true)
    {f5 : Addr} {od5 an5 : Option Addr} {sl5 : Array (Option Value)} {oc5 kV5 dc5 pm5 cd5 ct5 : Value}
    (a5 : PySem.W.nsIn K mainGlobals "_law_draw" = some (some (.ref f5))) (l5 : K.lookup f5 = some ⟨oc5, od5, .func (PySem.W.fnOf "_law_draw" "_law_draw" (defArgs s__law_draw) (defBody s__law_draw) (defScope s__law_draw) .none kV5 dc5 pm5 an5 cd5 ct5), sl5⟩) (c5 : PySem.W.codeIn K cd5 "_law_draw" = true) (k5 : PySem.W.keepIn K (.ref f5) = true)
    {f6 : Addr} {od6 an6 : Option Addr} {sl6 : Array (Option Value)} {oc6 kV6 dc6 pm6 cd6 ct6 : Value}
    (a6 : PySem.W.nsIn K mainGlobals "_law_text" = some (some (.ref f6))) (l6 : K.lookup f6 = some ⟨oc6, od6, .func (PySem.W.fnOf "_law_text" "_law_text" (defArgs s__law_text) (defBody s__law_text) (defScope s__law_text) .none kV6 dc6 pm6 an6 cd6 ct6), sl6⟩) (c6 : PySem.W.codeIn K cd6 "_law_text" = true) (k6 : PySem.W.keepIn K (.ref f6) = true)
    {f7 : Addr} {od7 an7 : Option Addr} {sl7 : Array (Option Value)} {oc7 kV7 dc7 pm7 cd7 ct7 : Value}
    (a7 : PySem.W.nsIn K mainGlobals "_law_past" = some (some (.ref f7))) (l7 : K.lookup f7 = some ⟨oc7, od7, .func (PySem.W.fnOf "_law_past" "_law_past" (defArgs s__law_past) (defBody s__law_past) (defScope s__law_past) .none kV7 dc7 pm7 an7 cd7 ct7), sl7⟩) (c7 : PySem.W.codeIn K cd7 "_law_past" = true) (k7 : PySem.W.keepIn K (.ref f7) = true)
    {f8 : Addr} {od8 an8 : Option Addr} {sl8 : Array (Option Value)} {oc8 kV8 dc8 pm8 cd8 ct8 : Value}
    (a8 : PySem.W.nsIn K mainGlobals "_law_odd_text" = some (some (.ref f8))) (l8 : K.lookup f8 = some ⟨oc8, od8, .func (PySem.W.fnOf "_law_odd_text" "_law_odd_text" (defArgs s__law_odd_text) (defBody s__law_odd_text) (defScope s__law_odd_text) .none kV8 dc8 pm8 an8 cd8 ct8), sl8⟩) (c8 : PySem.W.codeIn K cd8 "_law_odd_text" = true) (k8 : PySem.W.keepIn K (.ref f8) = true)
    {f9 : Addr} {od9 an9 : Option Addr} {sl9 : Array (Option Value)} {oc9 kV9 dc9 pm9 cd9 ct9 : Value}
    (a9 : PySem.W.nsIn K mainGlobals "_law_names" = some (some (.ref f9))) (l9 : K.lookup f9 = some ⟨oc9, od9, .func (PySem.W.fnOf "_law_names" "_law_names" (defArgs s__law_names) (defBody s__law_names) (defScope s__law_names) .none kV9 dc9 pm9 an9 cd9 ct9), sl9⟩) (c9 : PySem.W.codeIn K cd9 "_law_names" = true) (k9 : PySem.W.keepIn K (.ref f9) = true)
    {f10 : Addr} {od10 an10 : Option Addr} {sl10 : Array (Option Value)} {oc10 kV10 dc10 pm10 cd10 ct10 : Value}
    (a10 : PySem.W.nsIn K mainGlobals "_law_refused" = some (some (.ref f10))) (l10 : K.lookup f10 = some ⟨oc10, od10, .func (PySem.W.fnOf "_law_refused" "_law_refused" (defArgs s__law_refused) (defBody s__law_refused) (defScope s__law_refused) .none kV10 dc10 pm10 an10 cd10 ct10), sl10⟩) (c10 : PySem.W.codeIn K cd10 "_law_refused" = true) (k10 : PySem.W.keepIn K (.ref f10) = true)
    {f11 : Addr} {od11 an11 : Option Addr} {sl11 : Array (Option Value)} {oc11 kV11 dc11 pm11 cd11 ct11 : Value}
    (a11 : PySem.W.nsIn K mainGlobals "_law_right" = some (some (.ref f11))) (l11 : K.lookup f11 = some ⟨oc11, od11, .func (PySem.W.fnOf "_law_right" "_law_right" (defArgs s__law_right) (defBody s__law_right) (defScope s__law_right) .none kV11 dc11 pm11 an11 cd11 ct11), sl11⟩) (c11 : PySem.W.codeIn K cd11 "_law_right" = true) (k11 : PySem.W.keepIn K (.ref f11) = true)
    {f12 : Addr} {od12 an12 : Option Addr} {sl12 : Array (Option Value)} {oc12 kV12 dc12 pm12 cd12 ct12 : Value}
    (a12 : PySem.W.nsIn K mainGlobals "law" = some (some (.ref f12))) (l12 : K.lookup f12 = some ⟨oc12, od12, .func (PySem.W.fnOf "law" "law" (defArgs s_law) (defBody s_law) (defScope s_law) .none kV12 dc12 pm12 an12 cd12 ct12), sl12⟩) (c12 : PySem.W.codeIn K cd12 "law" = true) (k12 : PySem.W.keepIn K (.ref f12) = true)
    {dN0 : Addr} {esN0 : Array DictEntry} {nN0 : Nat} (aN0 : PySem.W.nsIn K mainGlobals "NEXT_LETTERS" = some (some (.ref dN0))) (lN0 : K.lookup dN0 = some ⟨.type "dict", none, .dict esN0 nN0, #[]⟩) (kN0 : PySem.W.KeysLit w.params esN0.toList)
    {tN0_0 : Tok} (vN0_0 : PySem.W.nsIn K dN0 "a" = some (some (.str "b" tN0_0)))
    {tN0_1 : Tok} (vN0_1 : PySem.W.nsIn K dN0 "b" = some (some (.str "c" tN0_1)))
    {E0 : Addr}
    (aE0 : PySem.W.nsIn K mainGlobals "InvalidText" = some (some (.ref E0)))
    {E1 : Addr}
    (aE1 : PySem.W.nsIn K mainGlobals "InvalidValue" = some (some (.ref E1)))
    {E2 : Addr}
    (aE2 : PySem.W.nsIn K mainGlobals "InvalidSpan" = some (some (.ref E2)))
    {E3 : Addr}
    (aE3 : PySem.W.nsIn K mainGlobals "InvalidFilter" = some (some (.ref E3)))
    {E4 : Addr}
    (aE4 : PySem.W.nsIn K mainGlobals "InvalidRule" = some (some (.ref E4)))
    {E5 : Addr}
    (aE5 : PySem.W.nsIn K mainGlobals "InvalidPage" = some (some (.ref E5)))
    {E6 : Addr}
    (aE6 : PySem.W.nsIn K mainGlobals "InvalidNote" = some (some (.ref E6)))
    {E7 : Addr}
    (aE7 : PySem.W.nsIn K mainGlobals "InvalidColumn" = some (some (.ref E7)))
    {E8 : Addr}
    (aE8 : PySem.W.nsIn K mainGlobals "InvalidIndex" = some (some (.ref E8)))
    {E9 : Addr}
    (aE9 : PySem.W.nsIn K mainGlobals "InvalidNumber" = some (some (.ref E9)))
    {E10 : Addr}
    (aE10 : PySem.W.nsIn K mainGlobals "InvalidCode" = some (some (.ref E10)))
    {E11 : Addr}
    (aE11 : PySem.W.nsIn K mainGlobals "NoBlock" = some (some (.ref E11)))
    {E12 : Addr}
    (aE12 : PySem.W.nsIn K mainGlobals "NothingToUndo" = some (some (.ref E12)))
    {E13 : Addr}
    (aE13 : PySem.W.nsIn K mainGlobals "Full" = some (some (.ref E13)))
    {E14 : Addr}
    (aE14 : PySem.W.nsIn K mainGlobals "InvalidCommand" = some (some (.ref E14)))
    {E15 : Addr}
    (aE15 : PySem.W.nsIn K mainGlobals "InvalidWords" = some (some (.ref E15)))
    {E16 : Addr}
    (aE16 : PySem.W.nsIn K mainGlobals "SkipError" = some (some (.ref E16)))
    (xT : PySem.W.excIn K E0 [.type "ValueError", .type "Exception", .type "BaseException", .type "object"] "ValueError.__new__" = true)
    (kT : PySem.W.keepIn K (.ref E0) = true)
    (bT : PySem.W.subIn K (.ref E0) (.type "BaseException") = some true)
    (tT : PySem.W.typeIn K (.ref E0) = some (.type "type"))
    (gT : PySem.W.findIn K (.ref E0) "__getattribute__" = some (some (.builtin "BaseException.__getattribute__")))
    (hT : PySem.W.findIn K (.ref E0) "__getattr__" = some none)
    (dT : PySem.W.hasDictIn K E0 = true)
    (cT : PySem.W.findIn K (.ref E0) "__class__" = some (some (.builtin "object.__class__")))
    (oT : PySem.W.mroIn K E0 (.type "object") = some true)
    (on : PySem.W.specialIn K (.builtin "object.__class__") "__get__" = some (some (.builtin "getset_descriptor.__get__")))
    (ot : PySem.W.takesIn K (.builtin "object.__class__") = some true)
    (bS : PySem.W.subIn K (.ref E16) (.type "BaseException") = some true)
    (dS : PySem.W.hasDictIn K E16 = true)
    (tS : PySem.W.typeIn K (.ref E16) = some (.type "type"))
    (sS : PySem.W.subIn K (.ref E0) (.ref E16) = some true)
    (iV : PySem.W.kitOne K (.ref E0) (.type "ValueError") = some true)
    (iE0 : PySem.W.kitOne K (.ref E0) (.ref E0) = some true)
    (iE1 : PySem.W.kitOne K (.ref E0) (.ref E1) = some false)
    (iE2 : PySem.W.kitOne K (.ref E0) (.ref E2) = some false)
    (iE3 : PySem.W.kitOne K (.ref E0) (.ref E3) = some false)
    (iE4 : PySem.W.kitOne K (.ref E0) (.ref E4) = some false)
    (iE5 : PySem.W.kitOne K (.ref E0) (.ref E5) = some false)
    (iE6 : PySem.W.kitOne K (.ref E0) (.ref E6) = some false)
    (iE7 : PySem.W.kitOne K (.ref E0) (.ref E7) = some false)
    (iE8 : PySem.W.kitOne K (.ref E0) (.ref E8) = some false)
    (iE9 : PySem.W.kitOne K (.ref E0) (.ref E9) = some false)
    (iE10 : PySem.W.kitOne K (.ref E0) (.ref E10) = some false)
    (iE11 : PySem.W.kitOne K (.ref E0) (.ref E11) = some false)
    (iE12 : PySem.W.kitOne K (.ref E0) (.ref E12) = some false)
    (iE13 : PySem.W.kitOne K (.ref E0) (.ref E13) = some false)
    (iE14 : PySem.W.kitOne K (.ref E0) (.ref E14) = some false)
    (iE15 : PySem.W.kitOne K (.ref E0) (.ref E15) = some false)
    (z0 : PySem.W.nsIn K mainGlobals "int" = some none)
    (z1 : PySem.W.nsIn K mainGlobals "len" = some none)
    (z2 : PySem.W.nsIn K mainGlobals "max" = some none)
    (z3 : PySem.W.nsIn K mainGlobals "range" = some none)
    (z4 : PySem.W.nsIn K mainGlobals "type" = some none)
    (z5 : PySem.W.nsIn K mainGlobals "str" = some none)
    (z6 : PySem.W.nsIn K mainGlobals "isinstance" = some none)
    (z7 : PySem.W.nsIn K mainGlobals "repr" = some none)
    (z8 : PySem.W.nsIn K mainGlobals "ValueError" = some none)
    (z9 : PySem.W.nsIn K mainGlobals "list" = some none)
    (z10 : PySem.W.nsIn K mainGlobals "tuple" = some none)
    (z11 : PySem.W.nsIn K mainGlobals "bool" = some none)
    (z12 : PySem.W.nsIn K mainGlobals "min" = some none)
    (z13 : PySem.W.nsIn K mainGlobals "any" = some none)
    (z14 : PySem.W.nsIn K mainGlobals "all" = some none)
    (z15 : PySem.W.nsIn K mainGlobals "zip" = some none)
    (z16 : PySem.W.nsIn K mainGlobals "sorted" = some none)
    (z17 : PySem.W.nsIn K mainGlobals "set" = some none)
    : ∃ fd : FuncData, (∀ (s : Shared) (v : Value), BindsTo s fd ⟨[v], []⟩ [("script", v)]) ∧ ∀ base : Heap, K.In base → base.Ns mainGlobals mg → FnG l.prog w K mg base 6 fa fd ["script"] (spLaw K) := by
  have e := hfa.symm.trans (PySem.W.mg_of X G a12)
  cases e
  have F_is_text := fun_mk (st := s_is_text) l0 c0 k0
  have D_is_text : Df K mg "is_text" s_is_text ["value"] f0 _ := ⟨F_is_text, PySem.W.mg_of X G a0, F_is_text.binds (ps := ["value"]) fun _ _ _ _ _ _ us hl => match us, hl with | [_], _ => rfl⟩
  have F_check_text := fun_mk (st := s_check_text) l1 c1 k1
  have D_check_text : Df K mg "check_text" s_check_text ["text"] f1 _ := ⟨F_check_text, PySem.W.mg_of X G a1, F_check_text.binds (ps := ["text"]) fun _ _ _ _ _ _ us hl => match us, hl with | [_], _ => rfl⟩
  have F_behind := fun_mk (st := s_behind) l2 c2 k2
  have D_behind : Df K mg "behind" s_behind ["text"] f2 _ := ⟨F_behind, PySem.W.mg_of X G a2, F_behind.binds (ps := ["text"]) fun _ _ _ _ _ _ us hl => match us, hl with | [_], _ => rfl⟩
  have F_beyond := fun_mk (st := s_beyond) l3 c3 k3
  have D_beyond : Df K mg "beyond" s_beyond ["text"] f3 _ := ⟨F_beyond, PySem.W.mg_of X G a3, F_beyond.binds (ps := ["text"]) fun _ _ _ _ _ _ us hl => match us, hl with | [_], _ => rfl⟩
  have F__law_bag := fun_mk (st := s__law_bag) l4 c4 k4
  have D__law_bag : Df K mg "_law_bag" s__law_bag ["cell"] f4 _ := ⟨F__law_bag, PySem.W.mg_of X G a4, F__law_bag.binds (ps := ["cell"]) fun _ _ _ _ _ _ us hl => match us, hl with | [_], _ => rfl⟩
  have F__law_draw := fun_mk (st := s__law_draw) l5 c5 k5
  have D__law_draw : Df K mg "_law_draw" s__law_draw ["bag", "upto"] f5 _ := ⟨F__law_draw, PySem.W.mg_of X G a5, F__law_draw.binds (ps := ["bag", "upto"]) fun _ _ _ _ _ _ us hl => match us, hl with | [_, _], _ => rfl⟩
  have F__law_text := fun_mk (st := s__law_text) l6 c6 k6
  have D__law_text : Df K mg "_law_text" s__law_text ["bag"] f6 _ := ⟨F__law_text, PySem.W.mg_of X G a6, F__law_text.binds (ps := ["bag"]) fun _ _ _ _ _ _ us hl => match us, hl with | [_], _ => rfl⟩
  have F__law_past := fun_mk (st := s__law_past) l7 c7 k7
  have D__law_past : Df K mg "_law_past" s__law_past ["word"] f7 _ := ⟨F__law_past, PySem.W.mg_of X G a7, F__law_past.binds (ps := ["word"]) fun _ _ _ _ _ _ us hl => match us, hl with | [_], _ => rfl⟩
  have F__law_odd_text := fun_mk (st := s__law_odd_text) l8 c8 k8
  have D__law_odd_text : Df K mg "_law_odd_text" s__law_odd_text ["bag", "word"] f8 _ := ⟨F__law_odd_text, PySem.W.mg_of X G a8, F__law_odd_text.binds (ps := ["bag", "word"]) fun _ _ _ _ _ _ us hl => match us, hl with | [_, _], _ => rfl⟩
  have F__law_names := fun_mk (st := s__law_names) l9 c9 k9
  have D__law_names : Df K mg "_law_names" s__law_names ["caught"] f9 _ := ⟨F__law_names, PySem.W.mg_of X G a9, F__law_names.binds (ps := ["caught"]) fun _ _ _ _ _ _ us hl => match us, hl with | [_], _ => rfl⟩
  have F__law_refused := fun_mk (st := s__law_refused) l10 c10 k10
  have D__law_refused : Df K mg "_law_refused" s__law_refused ["far", "by_name", "odd"] f10 _ := ⟨F__law_refused, PySem.W.mg_of X G a10, F__law_refused.binds (ps := ["far", "by_name", "odd"]) fun _ _ _ _ _ _ us hl => match us, hl with | [_, _, _], _ => rfl⟩
  have F__law_right := fun_mk (st := s__law_right) l11 c11 k11
  have D__law_right : Df K mg "_law_right" s__law_right ["bag"] f11 _ := ⟨F__law_right, PySem.W.mg_of X G a11, F__law_right.binds (ps := ["bag"]) fun _ _ _ _ _ _ us hl => match us, hl with | [_], _ => rfl⟩
  have F_law := fun_mk (st := s_law) l12 c12 k12
  have D_law : Df K mg "law" s_law ["script"] fa _ := ⟨F_law, PySem.W.mg_of X G a12, F_law.binds (ps := ["script"]) fun _ _ _ _ _ _ us hl => match us, hl with | [_], _ => rfl⟩
  have TX : Er K mg := ⟨E0, PySem.W.mg_of X G aE0, E1, PySem.W.mg_of X G aE1, E2, PySem.W.mg_of X G aE2, E3, PySem.W.mg_of X G aE3, E4, PySem.W.mg_of X G aE4, E5, PySem.W.mg_of X G aE5, E6, PySem.W.mg_of X G aE6, E7, PySem.W.mg_of X G aE7, E8, PySem.W.mg_of X G aE8, E9, PySem.W.mg_of X G aE9, E10, PySem.W.mg_of X G aE10, E11, PySem.W.mg_of X G aE11, E12, PySem.W.mg_of X G aE12, E13, PySem.W.mg_of X G aE13, E14, PySem.W.mg_of X G aE14, E15, PySem.W.mg_of X G aE15, E16, PySem.W.mg_of X G aE16, xT, kT, ⟨PySem.W.mg_of X G aE0, xT, kT, bT, tT⟩, ⟨gT, hT, bT, dT, cT, on, ot, oT⟩, PySem.W.exm_ref bS dS tS sS, iV, iE0, iE1, iE2, iE3, iE4, iE5, iE6, iE7, iE8, iE9, iE10, iE11, iE12, iE13, iE14, iE15⟩
  have T : Nm mg := ⟨PySem.W.mg_none_of X G z0, PySem.W.mg_none_of X G z1, PySem.W.mg_none_of X G z2, PySem.W.mg_none_of X G z3, PySem.W.mg_none_of X G z4, PySem.W.mg_none_of X G z5, PySem.W.mg_none_of X G z6, PySem.W.mg_none_of X G z7, PySem.W.mg_none_of X G z8, PySem.W.mg_none_of X G z9, PySem.W.mg_none_of X G z10, PySem.W.mg_none_of X G z11, PySem.W.mg_none_of X G z12, PySem.W.mg_none_of X G z13, PySem.W.mg_none_of X G z14, PySem.W.mg_none_of X G z15, PySem.W.mg_none_of X G z16, PySem.W.mg_none_of X G z17⟩
  have TG : Ng K w mg := ⟨dN0, PySem.W.mg_of X G aN0, (by rw [← a_lit]; exact ⟨esN0, nN0, _, lN0, kN0, vN0_0, ⟨_, rfl⟩⟩), (by rw [← b_lit]; exact ⟨esN0, nN0, _, lN0, kN0, vN0_1, ⟨_, rfl⟩⟩)⟩
  refine ⟨PySem.W.fnOf "law" "law" (defArgs s_law) (defBody s_law) (defScope s_law) .none kV12 dc12 pm12 an12 cd12 ct12, fun s v => .of_eq rfl, fun base _ _ => ?_⟩
  have c_bag := cl__law_bag (P := l.prog) (w := w) (base := base) D__law_bag T
  have c_draw := cl__law_draw (P := l.prog) (w := w) (base := base) D__law_draw T
  have c_text := cl__law_text D__law_text T c_draw
  have c_ist := cl_is_text (P := l.prog) (w := w) (base := base) D_is_text T
  have c_cktX := cl_check_textX D_check_text T TX c_ist
  have c_behX := cl_behindX D_behind T TX c_cktX
  have c_beyX := cl_beyondX D_beyond T TX TG c_cktX
  have c_nam := cl__law_names (P := l.prog) (w := w) (base := base) D__law_names T TX
  have c_ref := cl__law_refused D__law_refused T TX c_behX c_beyX c_nam
  have c_ckt := cl_check_text D_check_text T c_ist
  have c_beh := cl_behind D_behind T c_ckt
  have c_bey := cl_beyond D_beyond T TG c_ckt
  have c_past := cl__law_pastX (P := l.prog) (w := w) (base := base) D__law_past T
  have c_odd := cl__law_odd_text D__law_odd_text T TX c_draw
  have c_rig := cl__law_right D__law_right T TX c_text c_past c_ist c_beh c_bey c_odd c_draw c_ref
  exact cl_law D_law T c_ist c_bag c_rig
end
end Kq
open PySem PySem.W PyProof.Rows in
set_option maxRecDepth 100000 in
set_option maxHeartbeats 0 in
theorem PySem.Challenge.cw_pageskips_k01_texts_holds : PySem.Challenge.rw_pageskips_k01_texts.Holds := by
  w_on; o_law; k_head; (case hw => w_witness2)
  k_fill
  refine Pg.walk_g (l := PySem.Challenge.rw_pageskips_k01_texts) (n := 63) (k := 6) (x := "script") (sp := fun w => Kq.spLaw _) rfl (by decide) rfl ⟨rfl, by decide, by decide⟩ (fun w h Y => PySem.W.kIn_of Y) ?F (fun _ _ a ns hl _ hS => ⟨a, ns, rfl, hS, hl, fun _ => rfl⟩)
  case F =>
    intro w mg fa h KX G hmg
    refine' Kq.all_mk KX G hmg ?a0 ?l0 ?c0 ?k0 ?a1 ?l1 ?c1 ?k1 ?a2 ?l2 ?c2 ?k2 ?a3 ?l3 ?c3 ?k3 ?a4 ?l4 ?c4 ?k4 ?a5 ?l5 ?c5 ?k5 ?a6 ?l6 ?c6 ?k6 ?a7 ?l7 ?c7 ?k7 ?a8 ?l8 ?c8 ?k8 ?a9 ?l9 ?c9 ?k9 ?a10 ?l10 ?c10 ?k10 ?a11 ?l11 ?c11 ?k11 ?a12 ?l12 ?c12 ?k12 ?aN0 ?lN0 ?kN0 ?vN0_0 ?vN0_1 ?aE0 ?aE1 ?aE2 ?aE3 ?aE4 ?aE5 ?aE6 ?aE7 ?aE8 ?aE9 ?aE10 ?aE11 ?aE12 ?aE13 ?aE14 ?aE15 ?aE16 ?xT ?kT ?bT ?tT ?gT ?hT ?dT ?cT ?oT ?on ?ot ?bS ?dS ?tS ?sS ?iV ?iE0 ?iE1 ?iE2 ?iE3 ?iE4 ?iE5 ?iE6 ?iE7 ?iE8 ?iE9 ?iE10 ?iE11 ?iE12 ?iE13 ?iE14 ?iE15 ?z0 ?z1 ?z2 ?z3 ?z4 ?z5 ?z6 ?z7 ?z8 ?z9 ?z10 ?z11 ?z12 ?z13 ?z14 ?z15 ?z16 ?z17
    (case a0 => k_is)
    (case l0 => k_is)
    (case c0 => k_is)
    (case k0 => k_is)
    (case a1 => k_is)
    (case l1 => k_is)
    (case c1 => k_is)
    (case k1 => k_is)
    (case a2 => k_is)
    (case l2 => k_is)
    (case c2 => k_is)
    (case k2 => k_is)
    (case a3 => k_is)
    (case l3 => k_is)
    (case c3 => k_is)
    (case k3 => k_is)
    (case a4 => k_is)
    (case l4 => k_is)
    (case c4 => k_is)
    (case k4 => k_is)
    (case a5 => k_is)
    (case l5 => k_is)
    (case c5 => k_is)
    (case k5 => k_is)
    (case a6 => k_is)
    (case l6 => k_is)
    (case c6 => k_is)
    (case k6 => k_is)
    (case a7 => k_is)
    (case l7 => k_is)
    (case c7 => k_is)
    (case k7 => k_is)
    (case a8 => k_is)
    (case l8 => k_is)
    (case c8 => k_is)
    (case k8 => k_is)
    (case a9 => k_is)
    (case l9 => k_is)
    (case c9 => k_is)
    (case k9 => k_is)
    (case a10 => k_is)
    (case l10 => k_is)
    (case c10 => k_is)
    (case k10 => k_is)
    (case a11 => k_is)
    (case l11 => k_is)
    (case c11 => k_is)
    (case k11 => k_is)
    (case a12 => k_is)
    (case l12 => k_is)
    (case c12 => k_is)
    (case k12 => k_is)
    (case aN0 => k_is)
    (case lN0 => k_is)
    (case kN0 => k_keys)
    (case vN0_0 => k_is)
    (case vN0_1 => k_is)
    (case aE0 => k_is)
    (case aE1 => k_is)
    (case aE2 => k_is)
    (case aE3 => k_is)
    (case aE4 => k_is)
    (case aE5 => k_is)
    (case aE6 => k_is)
    (case aE7 => k_is)
    (case aE8 => k_is)
    (case aE9 => k_is)
    (case aE10 => k_is)
    (case aE11 => k_is)
    (case aE12 => k_is)
    (case aE13 => k_is)
    (case aE14 => k_is)
    (case aE15 => k_is)
    (case aE16 => k_is)
    (case xT => k_exc)
    (case kT => k_is)
    (case bT => k_is)
    (case tT => k_is)
    (case gT => k_is)
    (case hT => k_is)
    (case dT => k_is)
    (case cT => k_is)
    (case oT => k_is)
    (case on => k_is)
    (case ot => k_is)
    (case bS => k_is)
    (case dS => k_is)
    (case tS => k_is)
    (case sS => k_is)
    (case iV => first | k_is | kit_is)
    (case iE0 => first | k_is | kit_is)
    (case iE1 => first | k_is | kit_is)
    (case iE2 => first | k_is | kit_is)
    (case iE3 => first | k_is | kit_is)
    (case iE4 => first | k_is | kit_is)
    (case iE5 => first | k_is | kit_is)
    (case iE6 => first | k_is | kit_is)
    (case iE7 => first | k_is | kit_is)
    (case iE8 => first | k_is | kit_is)
    (case iE9 => first | k_is | kit_is)
    (case iE10 => first | k_is | kit_is)
    (case iE11 => first | k_is | kit_is)
    (case iE12 => first | k_is | kit_is)
    (case iE13 => first | k_is | kit_is)
    (case iE14 => first | k_is | kit_is)
    (case iE15 => first | k_is | kit_is)
    (case z0 => k_is)
    (case z1 => k_is)
    (case z2 => k_is)
    (case z3 => k_is)
    (case z4 => k_is)
    (case z5 => k_is)
    (case z6 => k_is)
    (case z7 => k_is)
    (case z8 => k_is)
    (case z9 => k_is)
    (case z10 => k_is)
    (case z11 => k_is)
    (case z12 => k_is)
    (case z13 => k_is)
    (case z14 => k_is)
    (case z15 => k_is)
    (case z16 => k_is)
    (case z17 => k_is)
