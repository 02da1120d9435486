import PyProof.Rows.All
import Wide.All
import OpenK.AllK
import Wide.FinOn
import HandS.ForMost
import HandS.Wide
import HandS.TupAny
import HandS.ExcValue
import HandS.Style
import HandS.More
import HandS.Defaults
import HandS.EndBits
import HandS.Flow
import HandS.Zip
import HandS.Star
import HandS.StrMore
import HandS.Set
import HandS.SetTxt0
import HandS.IsInst
import HandS.ExcIs
import KE.KRevSl
import PyProof.Rows.SortShellAny
import HandS.RaiseMore
import HandS.Conv
import PySem.Challenge.RW_pageskips_k09_whole_sets_of_texts
set_option Elab.async false
set_option linter.all false
set_option maxRecDepth 100000
set_option maxHeartbeats 2000000
namespace Pg
open PySem PySem.Spec PyProof.Rows L2
/-! ### heaps: what a piece of the program keeps -/
/-- all that was tracked outside of S stands as it was; in S lists stay lists -/
structure Stp (S : List Addr) (H H' : Hp) : Prop where
  kp : ∀ a o, a ∉ S → H a = some o → H' a = some o
  ls : ∀ a xs, H a = some (.lst xs) → ∃ ys, H' a = some (.lst ys)
theorem Stp.refl (S : List Addr) (H : Hp) : Stp S H H := ⟨fun _ _ _ h => h, fun _ xs h => ⟨xs, h⟩⟩
theorem Stp.trans {S : List Addr} {H H1 H2 : Hp} (a : Stp S H H1) (b : Stp S H1 H2) : Stp S H H2 :=
  ⟨fun x o n h => b.kp x o n (a.kp x o n h), fun x xs h => by
    obtain ⟨ys, h1⟩ := a.ls x xs h
    exact b.ls x ys h1⟩
theorem Stp.sub {S S' : List Addr} {H H' : Hp} (a : Stp S H H') (h : ∀ x ∈ S, x ∈ S') : Stp S' H H' :=
  ⟨fun x o n q => a.kp x o (fun m => n (h x m)) q, a.ls⟩
theorem Stp.nil {S : List Addr} {H H' : Hp} (a : Stp [] H H') : Stp S H H' := a.sub fun _ h => nomatch h
theorem Stp.new {H : Hp} {p : Addr} {o : HO} (h : H p = none) (S : List Addr) : Stp S H (upd H p o) :=
  ⟨fun x u _ q => by rw [upd_ne (ne_of_none q h)]; exact q, fun x xs q => ⟨xs, by rw [upd_ne (ne_of_none q h)]; exact q⟩⟩
theorem Stp.put {S : List Addr} {H : Hp} {p : Addr} {ys : List V} (m : p ∈ S) : Stp S H (upd H p (.lst ys)) :=
  ⟨fun x u n q => by
    rw [upd_ne (fun e => n (by rw [e]; exact m))]
    exact q, fun x xs q => by
    by_cases e : x = p
    · subst e
      exact ⟨ys, upd_same⟩
    · exact ⟨xs, by rw [upd_ne e]; exact q⟩⟩
/-- a local object: it was not there -/
theorem Stp.loc {S : List Addr} {H H' : Hp} {p : Addr} (h : H p = none) (a : Stp (p :: S) H H') : Stp S H H' :=
  ⟨fun x o n q => a.kp x o (fun m => by
    rcases List.mem_cons.mp m with e | m
    · exact ne_of_none q h e
    · exact n m) q, a.ls⟩
theorem Stp.fresh {S : List Addr} {H H' : Hp} {p : Addr} (a : Stp S H H') (n : p ∉ S) (h : H' p = none) : H p = none := by
  cases e : H p with
  | none => rfl
  | some o =>
    rw [a.kp p o n e] at h
    cases h
/-- a list that was not there is changed -/
theorem Stp.mut {S : List Addr} {H H' : Hp} {p : Addr} {ys : List V} (a : Stp S H H') (h : H p = none) : Stp S H (upd H' p (.lst ys)) :=
  ⟨fun x o n q => by
    rw [upd_ne (ne_of_none q h)]
    exact a.kp x o n q, fun x xs q => by
    rw [upd_ne (ne_of_none q h)]
    exact a.ls x xs q⟩
theorem Stp.put' {S : List Addr} {H H' : Hp} {p : Addr} {ys : List V} (a : Stp S H H') (m : p ∈ S) : Stp S H (upd H' p (.lst ys)) := a.trans (Stp.put m)
theorem Stp.new' {S : List Addr} {H H' : Hp} {p : Addr} {o : HO} (a : Stp S H H') (h : H' p = none) : Stp S H (upd H' p o) := a.trans (Stp.new h S)
/-- only the list at p may differ -/
def Only (p : Addr) (H H' : Hp) : Prop := ∃ ys, H' = upd H p (.lst ys)
theorem Only.at {p q : Addr} {H H' : Hp} {o : HO} (h : Only p H H') (e : H q = some o) (n : q ≠ p) : H' q = some o := by
  obtain ⟨ys, rfl⟩ := h
  rw [upd_ne n]
  exact e
theorem Only.stp {p : Addr} {H H' : Hp} {S : List Addr} (h : Only p H H') (m : p ∈ S) : Stp S H H' := by
  obtain ⟨ys, rfl⟩ := h
  exact Stp.put m

/-! ### the draws -/
def BagV (x y z : Int) (n : Nat) : Prop := 0 ≤ x ∧ 0 ≤ y ∧ y < 2 ^ 40 ∧ 0 ≤ z ∧ z ≤ (n : Int)
/-- a bag stands at b, from which at most n draws have been made -/
def Bag (H : Hp) (b : Addr) (n : Nat) : Prop := ∃ x y z, H b = some (.lst [.int x, .int y, .int z]) ∧ BagV x y z n
theorem Bag.mono {H : Hp} {b : Addr} {n m : Nat} (h : Bag H b n) (e : n ≤ m) : Bag H b m := by
  obtain ⟨x, y, z, h1, h2, h3, h4, h5, h6⟩ := h
  exact ⟨x, y, z, h1, h2, h3, h4, h5, by omega⟩
theorem Bag.kp {H H' : Hp} {b : Addr} {n : Nat} {S : List Addr} (h : Bag H b n) (s : Stp S H H') (m : b ∉ S) : Bag H' b n := by
  obtain ⟨x, y, z, h1, h2⟩ := h
  exact ⟨x, y, z, s.kp _ _ m h1, h2⟩
theorem Bag.upd {H : Hp} {b p : Addr} {n : Nat} {o : HO} (h : Bag H b n) (e : b ≠ p) : Bag (L2.upd H p o) b n := by
  obtain ⟨x, y, z, h1, h2⟩ := h
  exact ⟨x, y, z, by rw [upd_ne e]; exact h1, h2⟩
theorem Bag.ne {H : Hp} {b p : Addr} {n : Nat} (h : Bag H b n) (q : H p = none) : b ≠ p := by
  obtain ⟨x, y, z, h1, h2⟩ := h
  exact ne_of_none h1 q
theorem cmul {i j : Int} (a b : Nat) (h1 : 0 ≤ i) (h2 : i < 2 ^ a) (h3 : 0 ≤ j) (h4 : j < 2 ^ b) (ha : 0 < a) (hb : 0 < b) (h : a + b ≤ 1000000) : CMulW i j := by
  refine wide_mul (a := a) (b := b) ?_ ?_ ha hb h
  · have e : ((i.natAbs : Nat) : Int) < ((2 ^ a : Nat) : Int) := by
      rw [Int.natAbs_of_nonneg h1, Int.natCast_pow]
      exact h2
    exact Int.ofNat_lt.mp e
  · have e : ((j.natAbs : Nat) : Int) < ((2 ^ b : Nat) : Int) := by
      rw [Int.natAbs_of_nonneg h3, Int.natCast_pow]
      exact h4
    exact Int.ofNat_lt.mp e
theorem cdiv {i j : Int} (b : Nat) (h1 : 0 < j) (h2 : j < 2 ^ b) (hb : 0 < b) (h9 : b ≤ 9000) : CDivW i j := by
  refine wide_div (b := b) h1 ?_ hb h9
  have e : ((j.natAbs : Nat) : Int) < ((2 ^ b : Nat) : Int) := by
    rw [Int.natAbs_of_nonneg (by omega), Int.natCast_pow]
    exact h2
  exact Int.ofNat_lt.mp e
theorem mul_lt {i j : Int} {a b : Nat} (h1 : 0 ≤ i) (h2 : i < 2 ^ a) (h3 : 0 ≤ j) (h4 : j < 2 ^ b) : 0 ≤ i * j ∧ i * j < 2 ^ (a + b) := by
  refine ⟨Int.mul_nonneg h1 h3, ?_⟩
  have e1 : i * j ≤ i * 2 ^ b := Int.mul_le_mul_of_nonneg_left (Int.le_of_lt h4) h1
  have hp : (0 : Int) < 2 ^ b := Int.pow_pos (by omega)
  have e2 : i * 2 ^ b < 2 ^ a * 2 ^ b := Int.mul_lt_mul_of_pos_right h2 hp
  rw [Int.pow_add]
  omega
/-- a letter for a number -/
theorem genQ {Q : V → Hp → Prop} {H : Hp} {i : Int} (h : ∀ t, t = i → Q (.int t) H) : Q (.int i) H := h i rfl
/-! ### rules of my own -/
section
variable {X : Cx}
/-- 'a' * n -/
theorem op_mul_str : OpR X (binaryOp .Mult) (fun x y H Q => ∃ i j, x = .str i ∧ y = .int j ∧ MulOk i j ∧ Q (.str (Txt.mul i j)) H) := by
  intro pins s σ H x y v u Q I rx ry h
  obtain ⟨i, j, rfl, rfl, hz, q⟩ := h
  obtain ⟨t, rfl⟩ := rx
  obtain ⟨t', rfl⟩ := ry
  exact SB.mul hz (fun t' k => ⟨.str (Txt.mul i j), H, I.tok _, ⟨_, rfl⟩, q⟩)
end
end Pg
namespace Pg
open PySem PySem.Spec PyProof.Rows L2
/-! ### a def of the text: where it stands, what it keeps -/
/-- a def of the text, found by its name -/
structure Df (K : PySem.W.Frag) (mg : Str → Option Value) (x : Str) (st : Stmt) (ps : List Str) (f : Addr) (fd : FuncData) : Prop where
  fn : Fun K x x st f fd
  at_ : mg x = some (.ref f)
  bd : Binds K fd ps []
/-- .. with its promise -/
structure Cl (P : Program) (w : World) (K : PySem.W.Frag) (mg : Str → Option Value) (base : Heap) (k : Nat) (x : Str) (st : Stmt) (ps : List Str) (sp : Sp) : Prop where
  ex : ∃ f fd, Df K mg x st ps f fd ∧ FnOk P w K mg base CX0 k f fd ps sp
theorem Cl.mono {P : Program} {w : World} {K : PySem.W.Frag} {mg : Str → Option Value} {base : Heap} {j k : Nat} {x : Str} {st : Stmt} {ps : List Str} {sp : Sp} (c : Cl P w K mg base j x st ps sp) (h : j ≤ k) : Cl P w K mg base k x st ps sp := by
  obtain ⟨f, fd, D, F⟩ := c.ex
  exact ⟨f, fd, D, F.mono h⟩
theorem Df.cl {P : Program} {w : World} {K : PySem.W.Frag} {mg : Str → Option Value} {base : Heap} {x : Str} {st : Stmt} {f : Addr} {fd : FuncData} {N ps : List Str} {k : Nat} {sp : Sp} (D : Df K mg x st ps f fd) (S : FnScope N ps (defScope st)) (len : ∀ vs H Q E, sp vs H Q E → vs.length = ps.length)
    (hbody : ∀ (cdv : Value) (A : Around) (outer : List Env) (s : Shared) (H : Hp) (vs : List V) (Q : VK) (E : XK), Room k (A.deeper (envOfC x (defScope st) s.heap.objs.size f cdv)) → sp vs H Q E →
      ∃ t, PSs (cxOf CX0 P w K mg base N x (defScope st) f cdv A outer s H E).nox (defBody st) t ∧ t { nx := fun _ H' => Q .non H', rt := Q } (start N vs) H) : Cl P w K mg base (k + 1) x st ps sp :=
  ⟨f, fd, D, D.fn.ok S len hbody⟩
def tCl (sp : Sp) (t : TA) : TE := fun σ H Q => t σ H fun vs H1 => sp vs H1 Q E0
section
variable {X : Cx} {j k : Nat} {st : Stmt} {ps : List Str} {sp : Sp} {x : Str} {p pos : Pos} {e : Expr} {es : List Expr} {t : TA}
theorem pe_cl (c : Cl X.prog X.w X.K X.mg X.base k x st ps sp) (hr : Room j X.A) (hk : k ≤ j) (ha : PA X (e :: es) t) (hg : Gl X x := by rfl) (hdb : (x == ("__debug__" : Str)) = false := by decide)
    (he : starEach (e :: es) X.env = (false, eval e X.env) :: starEach es X.env := by rfl) (hpl : (backTo pos (starEach es X.env)).any (·.1) = false := by rfl) :
    PE X (.Call (.Name x p) (e :: es) [] pos) (tCl sp t) := by
  obtain ⟨f, fd, D, F⟩ := c.ex
  refine ⟨fun pins s σ H Q I h => ?_⟩
  have q := (pe_call (E := E0) (p := p) (F.mono hk) hr hg D.at_ D.fn.kp D.bd .nil pass0 ha hdb he hpl).run pins s σ H Q I
  refine q ?_
  have h' : t σ H (fun vs H1 => sp vs H1 Q E0) := h
  show t σ H fun vs H1 => sp (vs ++ []) H1 Q E0
  simp only [List.append_nil]
  exact h'
theorem pe_cl0 (c : Cl X.prog X.w X.K X.mg X.base k x st ps sp) (hr : Room j X.A) (hk : k ≤ j) (hg : Gl X x := by rfl) (hdb : (x == ("__debug__" : Str)) = false := by decide) :
    PE X (.Call (.Name x p) [] [] pos) (tCl sp tNil) := by
  obtain ⟨f, fd, D, F⟩ := c.ex
  exact pe_call0 (E := E0) (F.mono hk) hr hg D.at_ D.fn.kp D.bd .nil pass0 hdb
/-- f(k = v, ..) -/
def tClK (sp : Sp) (gV : List V → List V → List V) (tk : TA) : TE := fun σ H Q => tk σ H fun zs H1 => sp (gV [] zs) H1 Q E0
theorem pe_clK {ks : List Str} {g : List Value → List Value → List Value} {gV : List V → List V → List V} {kws : List Keyword} {tk : TA} (c : Cl X.prog X.w X.K X.mg X.base k x st ps sp) (hr : Room j X.A) (hk : k ≤ j)
    (hb : ∀ f fd, Fun X.K x x st f fd → KBinds X.K fd ps ks g gV) (hkw : PK X kws tk)
    (hg : Gl X x := by rfl) (hall : (backToKw pos (keywordEach kws X.env)).all (·.1.isSome) = true := by rfl) (hks : (backToKw pos (keywordEach kws X.env)).filterMap (·.1) = ks := by rfl) (hdb : (x == ("__debug__" : Str)) = false := by decide)
    (hpl : ((backTo pos (starEach [] X.env)).any (·.1) || (backToKw pos (keywordEach kws X.env)).any (·.1.isNone)) = false := by rfl) :
    PE X (.Call (.Name x p) [] kws pos) (tClK sp gV tk) := by
  obtain ⟨f, fd, D, F⟩ := c.ex
  refine ⟨fun pins s σ H Q I h => ?_⟩
  refine wpAny_Call_Name_kw (ld_glob I hg D.at_ ?_ hdb)
  refine PySem.W.callWith_KW0 (h₀ := X.base) I.ok.mod.kin D.fn.kp hall ?_ hpl
  refine thn (hkw.run pos pins s σ H _ I h) fun ws s2 ⟨zs, H2, I2, rz, q2⟩ => ⟨I2.kIn, ?_⟩
  rw [hks]
  exact run_fnk (E := E0) (us := []) (vs := []) (F.mono hk) hr (hb f fd D.fn) pass0 I2 .nil rz q2
end
/-- keywords alone, in an order of their own -/
theorem kb_of {K : PySem.W.Frag} {x : Str} {st : Stmt} {f : Addr} {fd : FuncData} {ps ks : List Str} {g : List Value → List Value} {gV : List V → List V} (F : Fun K x x st f fd) (hne : ps ≠ [])
    (h : ∀ (kV doc pm : Value) (an : Option Addr) (cdv ct : Value) (ws : List Value), (g ws).length = ps.length → bindArgs (PySem.W.fnOf x x (defArgs st) (defBody st) (defScope st) .none kV doc pm an cdv ct) ⟨[], ks.zip ws⟩ = pure (ps.zip (g ws)))
    (r : ∀ {zs : List V} {ws : List Value}, Vals zs ws → Vals (gV zs) (g ws)) : KBinds K fd ps ks (fun us ws => match us with | [] => g ws | _ :: _ => []) (fun vs zs => match vs with | [] => gV zs | _ :: _ => []) := by
  obtain ⟨oc, od, kV, doc, pm, an, cdv, ct, osl, rfl, lk, hcd⟩ := F.ex
  refine ⟨fun s us ws _ hl => ?_, fun {vs us zs ws} r1 r2 => ?_⟩
  · cases us with
    | nil => exact .of_eq (h kV doc pm an cdv ct ws hl)
    | cons u us => exact absurd (List.length_eq_zero_iff.mp hl.symm) hne
  · cases r1 with
    | nil => exact r r2
    | cons _ _ => exact .nil
end Pg
namespace Pg
open PySem PySem.Spec PyProof.Rows L2
open Builtin Builtin.Str
/-! ### texts as lists of letters -/
/-- the text of these signs -/
abbrev tx (l : List Nat) : Str := ⟨l.toArray⟩
abbrev Tx (l : List Nat) : V := .str (tx l)
/-- letters a, b, c alone -/
def Abc (l : List Nat) : Prop := ∀ c ∈ l, c = 97 ∨ c = 98 ∨ c = 99
theorem tx_inj {a b : List Nat} (h : tx a = tx b) : a = b := by
  have q : (tx a).cps.toList = (tx b).cps.toList := by rw [h]
  simpa using q
theorem tx_of (s : Str) : ∃ l, s = tx l := ⟨s.cps.toList, by cases s; simp [tx]⟩
theorem tx_len (l : List Nat) : (tx l).length = l.length := by simp [Str.length]
theorem tx_app (a b : List Nat) : tx a ++ tx b = tx (a ++ b) := by
  show (⟨a.toArray ++ b.toArray⟩ : Str) = _
  simp [tx]
theorem tx_cut (l : List Nat) (lo hi : Option Int) : cutS (tx l) lo hi = tx ((l.drop (HT.sIx l.length 0 lo)).take (HT.sIx l.length l.length hi - HT.sIx l.length 0 lo)) := by
  unfold cutS
  rw [tx_len]
theorem tx_upto (l : List Nat) (k : Nat) : cutS (tx l) none (some (k : Int)) = tx (l.take k) := by
  rw [tx_cut, HT.sIx_none, HT.sIx_nat]
  rw [List.drop_zero, Nat.sub_zero]
  rcases Nat.le_total k l.length with h | h
  · rw [Nat.min_eq_left h]
  · rw [Nat.min_eq_right h, List.take_of_length_le (Nat.le_refl _), List.take_of_length_le h]
theorem tx_init (l : List Nat) : cutS (tx l) none (some (-1)) = tx l.dropLast := by
  rw [tx_cut, HT.sIx_none]
  have e : HT.sIx l.length l.length (some (-1)) = l.length - 1 := by
    show (if (-1 : Int) < 0 then ((-1 : Int) + (l.length : Int)).toNat else min (-1 : Int).toNat l.length) = _
    rw [if_pos (by decide)]
    omega
  rw [e, List.drop_zero, Nat.sub_zero, ← List.dropLast_eq_take]
theorem tx_last (l : List Nat) : cutS (tx l) (some (-1)) none = tx (l.drop (l.length - 1)) := by
  rw [tx_cut, HT.sIx_none]
  have e : HT.sIx l.length 0 (some (-1)) = l.length - 1 := by
    show (if (-1 : Int) < 0 then ((-1 : Int) + (l.length : Int)).toNat else min (-1 : Int).toNat l.length) = _
    rw [if_pos (by decide)]
    omega
  rw [e]
  congr 2
  rw [List.take_of_length_le]
  rw [List.length_drop]
  exact Nat.le_refl _
theorem foldl_app_rep {α : Type} (c : α) : ∀ (n : Nat) (acc : Array α), (List.replicate n #[c]).foldl (· ++ ·) acc = acc ++ (List.replicate n c).toArray
  | 0, acc => by simp
  | n + 1, acc => by
    rw [List.replicate_succ, List.foldl_cons, foldl_app_rep c n, List.replicate_succ]
    apply Array.ext'
    simp
theorem tx_mul (c : Nat) (n : Int) : Txt.mul (tx [c]) n = tx (List.replicate n.toNat c) := by
  unfold Txt.mul
  by_cases h : n < 1
  · rw [if_pos h, show n.toNat = 0 by omega]
    rfl
  · rw [if_neg h]
    by_cases h1 : n = 1
    · subst h1
      rfl
    · rw [if_neg (by simp [h1, Str.length])]
      show (⟨(List.replicate n.toNat #[c]).foldl (· ++ ·) #[]⟩ : Str) = _
      rw [foldl_app_rep]
      simp [tx]
theorem mulOk (c : Nat) {n : Int} (h0 : -1000 ≤ n) (h1 : n ≤ 100000) : MulOk (tx [c]) n := by
  refine ⟨by simp; omega, fun a b q => ?_, fun a b => ?_⟩
  · rw [tx_len] at q
    have e : (1 : Int) ≤ (2 ^ 63 - 1) / n := by
      have hp : 0 < n := by omega
      exact (Int.le_ediv_iff_mul_le hp).mpr (by omega)
    have q' : (([c].length : Nat) : Int) = 1 := rfl
    rw [q'] at q
    have e2 : (1 : Int) > (2 ^ 63 - 1) / n := q
    exact absurd e (by omega)
  · rw [tx_len]
    have e : ([c].length * n.toNat) ≤ sizeLine := Nat.le_trans (show [c].length * n.toNat ≤ 100000 by simp; omega) (by decide)
    unfold tooLong
    simpa using e
theorem foldl_app {α : Type} : ∀ (ps : List (List α)) (acc : Array α), (ps.map List.toArray).foldl (fun a p => a ++ p) acc = acc ++ ps.flatten.toArray
  | [], acc => by simp
  | p :: ps, acc => by
    rw [List.map_cons, List.foldl_cons, foldl_app ps, List.flatten_cons]
    apply Array.ext'
    simp
theorem join_abc (cs : List Nat) : Txt.join (tx []) (cs.map fun c => tx [c]) = tx cs := by
  cases cs with
  | nil => rfl
  | cons c cs =>
    show (⟨((cs.map fun c => tx [c])).foldl (fun acc p => acc ++ (tx []).cps ++ p.cps) (tx [c]).cps⟩ : Str) = _
    have e : ∀ (l : List Nat) (acc : Array Nat), (l.map fun c => tx [c]).foldl (fun acc p => acc ++ (tx []).cps ++ p.cps) acc = acc ++ l.toArray := by
      intro l
      induction l with
      | nil => intro acc; simp
      | cons x l ih =>
        intro acc
        rw [List.map_cons, List.foldl_cons, ih]
        apply Array.ext'
        simp
    rw [e]
    simp [tx]
theorem Abc.nil : Abc [] := fun _ h => nomatch h
theorem Abc.app {a b : List Nat} (h : Abc a) (g : Abc b) : Abc (a ++ b) := fun c m => (List.mem_append.mp m).elim (h c) (g c)
theorem Abc.take {a : List Nat} (h : Abc a) (n : Nat) : Abc (a.take n) := fun c m => h c (List.mem_of_mem_take m)
theorem Abc.drop {a : List Nat} (h : Abc a) (n : Nat) : Abc (a.drop n) := fun c m => h c (List.mem_of_mem_drop m)
theorem Abc.init {a : List Nat} (h : Abc a) : Abc a.dropLast := fun c m => h c (List.dropLast_subset _ m)
theorem Abc.rep (n : Nat) {c : Nat} (h : c = 97 ∨ c = 98 ∨ c = 99) : Abc (List.replicate n c) := fun x m => by
  rw [(List.mem_replicate.mp m).2]
  exact h
theorem Abc.one {c : Nat} (h : c = 97 ∨ c = 98 ∨ c = 99) : Abc [c] := fun x m => by
  rw [List.mem_singleton.mp m]
  exact h
theorem abc_lit : ("abc" : Str) = tx [97, 98, 99] := by decide +kernel
theorem nil_lit : ("" : Str) = tx [] := by decide +kernel
theorem goes_abc (c : Nat) : (tx [97, 98, 99]).cps.contains c = true ↔ (c = 97 ∨ c = 98 ∨ c = 99) := by
  simp [tx]
/-- strip('abc') leaves nothing just of letters alone -/
theorem strip_abc (l : List Nat) : (Txt.stripChars (tx l) (tx [97, 98, 99]) = tx []) ↔ Abc l := by
  unfold Txt.stripChars
  rw [stripBy_eq]
  obtain ⟨a1, a2, a3⟩ := lo_facts (tx [97, 98, 99]).cps.contains (tx l)
  obtain ⟨b1, b2, b3, b4⟩ := hi_facts (tx [97, 98, 99]).cps.contains (tx l) _ a1
  generalize stripLo (tx [97, 98, 99]).cps.contains true (tx l) = lo at *
  generalize stripHi (tx [97, 98, 99]).cps.contains true (tx l) lo = hi at *
  have gd : ∀ k, (tx l).cps.getD k 0 = l.getD k 0 := fun k => by rw [← getD_list]
  have hlen : (tx l).length = l.length := tx_len l
  rw [hlen] at a1 a3 b2 b3
  have size : (strSub (tx l) lo hi).length = hi - lo := by
    unfold strSub Str.length
    simp
    omega
  constructor
  · intro h
    have e : hi - lo = 0 := by rw [← size, h]; rfl
    have e2 : hi = lo := by omega
    subst e2
    have all : ∀ k, k < l.length → (tx [97, 98, 99]).cps.contains (l.getD k 0) = true := fun k hk => by
      rw [← gd]
      by_cases q : k < hi
      · exact a2 k q
      · exact b3 k (by omega) hk
    intro c m
    obtain ⟨k, hk, rfl⟩ := List.mem_iff_getElem.mp m
    have := all k hk
    rw [List.getD_eq_getElem?_getD, List.getElem?_eq_getElem hk] at this
    exact (goes_abc _).mp this
  · intro h
    have e : lo = l.length := by
      rcases a3 with e | e
      · exact e
      · by_cases q : lo < l.length
        · rw [gd, List.getD_eq_getElem?_getD, List.getElem?_eq_getElem q] at e
          have := (goes_abc _).mpr (h _ (List.getElem_mem q))
          rw [Option.getD_some] at e
          rw [e] at this
          cases this
        · omega
    have z : (strSub (tx l) lo hi).length = 0 := by omega
    have : (strSub (tx l) lo hi).cps = #[] := Array.eq_empty_of_size_eq_zero z
    cases hh : strSub (tx l) lo hi with
    | mk c =>
      rw [hh] at this
      show (⟨c⟩ : Str) = ⟨#[]⟩
      rw [show c = #[] from this]
/-! ### picking -/
theorem pick {α : Type} {xs : List α} {d : Int} (h0 : 0 ≤ d) (h1 : d < (xs.length : Int)) : ∃ v, v ∈ xs ∧ atI xs d = some v := by
  obtain ⟨k, rfl⟩ := Int.eq_ofNat_of_zero_le h0
  have hk : k < xs.length := by omega
  exact ⟨xs[k], List.getElem_mem hk, atI_nat (List.getElem?_eq_getElem hk)⟩
theorem pick_int {ns : List Int} {d : Int} (h0 : 0 ≤ d) (h1 : d < (ns.length : Int)) : ∃ v, v ∈ ns ∧ atI (ns.map V.int) d = some (.int v) := by
  obtain ⟨v, m, e⟩ := pick (xs := ns.map V.int) h0 (by rw [List.length_map]; exact h1)
  obtain ⟨n, hn, rfl⟩ := List.mem_map.mp m
  exact ⟨n, hn, e⟩
theorem at0 {α : Type} {a : α} {l : List α} : atI (a :: l) 0 = some a := atI_nat (j := 0) rfl
theorem at1 {α : Type} {a b : α} {l : List α} : atI (a :: b :: l) 1 = some b := atI_nat (j := 1) rfl
theorem sz {n : Nat} (h : n ≤ 100000) : n ≤ sizeLine := Nat.le_trans h (by decide)
theorem szt {l : List Nat} (h : l.length ≤ 100000) : (tx l).length ≤ sizeLine := by
  rw [tx_len]
  exact sz h
theorem inV_str (s : Str) : ∀ ws : List Str, inV (.str s) (ws.map V.str) = decide (s ∈ ws)
  | [] => rfl
  | x :: ws => by
    have ih := inV_str s ws
    unfold inV at ih ⊢
    rw [List.map_cons, List.any_cons, ih]
    show ((x == s) || decide (s ∈ ws)) = _
    by_cases e : x = s
    · subst e
      simp
    · have : (x == s) = false := beq_eq_false_iff_ne.mpr e
      rw [this]
      simp
      exact fun q => absurd q.symm e
end Pg
namespace Pg
open PySem PySem.Spec PyProof.Rows L2
/-! ### lists of texts, compared -/
theorem strOk_abc {l : List Nat} (h : Abc l) : PyData.canLay0 (.str (tx l)) = true := by
  unfold PyData.canLay0 PyData.strOk
  simp
  intro c m
  rcases h c m with e | e | e <;> subst e <;> decide
theorem canLay_strs : ∀ {ls : List (List Nat)}, (∀ l ∈ ls, Abc l) → PyData.canLayAll0 (ls.map fun l => .str (tx l)) = true
  | [], _ => rfl
  | l :: ls, h => by
    show (PyData.canLay0 (.str (tx l)) && PyData.canLayAll0 (ls.map fun l => .str (tx l))) = true
    rw [strOk_abc (h l List.mem_cons_self), canLay_strs fun m q => h m (List.mem_cons_of_mem _ q)]
    rfl
theorem depth_strs : ∀ (ls : List (List Nat)), PyData.depthAll (ls.map fun l => .str (tx l)) = 0
  | [] => rfl
  | l :: ls => by
    show max 0 (PyData.depthAll (ls.map fun l => .str (tx l))) = 0
    rw [depth_strs ls]
    rfl
theorem shaped_strs {ls : List (List Nat)} (h : ∀ l ∈ ls, Abc l) : SeqAt.shaped (.list (ls.map fun l => .str (tx l))) = true := by
  unfold SeqAt.shaped
  rw [show PyData.canLay0 (.list (ls.map fun l => .str (tx l))) = true from canLay_strs h]
  rw [show PyData.depth (.list (ls.map fun l => .str (tx l))) = 0 + 1 by show PyData.depthAll _ + 1 = _; rw [depth_strs]]
  rfl
theorem dp_strs {K : PySem.W.Frag} {H : Hp} : ∀ (ls : List (List Nat)), DpAll K H (ls.map Tx) (ls.map fun l => .str (tx l))
  | [] => .nil
  | l :: ls => .cons (.str _) (dp_strs ls)
theorem ne_nil_strs {K : PySem.W.Frag} {H : Hp} {p q : Addr} {ls : List (List Nat)} {Q : VK} (hp : SqL K H p (ls.map Tx)) (h : ∀ l ∈ ls, Abc l) (hq : H q = some (.lst [])) (k : Q (.bl (!ls.isEmpty)) H) : rNeD K (.ref p) (.ref q) H Q := by
  refine ⟨.list (ls.map fun l => .str (tx l)), .list [], .lst hp (dp_strs ls), .lst (SqL.of hq) .nil, shaped_strs h, rfl, ?_⟩
  have e : PyData.eqv (.list (ls.map fun l => .str (tx l))) (.list []) = ls.isEmpty := by
    cases ls with
    | nil => rfl
    | cons l ls => rfl
  rw [e]
  exact k
end Pg
namespace Pg
open PySem PySem.Spec PyProof.Rows L2
/-! ### any values: what they are, as far as the program looks -/
inductive Dt where
  | non | bl (b : Bool) | int (i : Int) | str (l : List Nat) | tup (ds : List Dt) | lst | obj
mutual
def Dt.dep : Dt → Nat
  | .tup ds => Dt.depL ds + 1
  | _ => 0
def Dt.depL : List Dt → Nat
  | [] => 0
  | d :: ds => max d.dep (Dt.depL ds)
end
theorem Dt.dep_mem : ∀ {ds : List Dt} {d : Dt}, d ∈ ds → d.dep ≤ Dt.depL ds
  | e :: ds, d, m => by
    rcases List.mem_cons.mp m with rfl | m
    · exact Nat.le_max_left _ _
    · exact Nat.le_trans (Dt.dep_mem m) (Nat.le_max_right _ _)
theorem Dt.depL_le : ∀ {ds : List Dt} {n : Nat}, (∀ d ∈ ds, d.dep ≤ n) → Dt.depL ds ≤ n
  | [], _, _ => Nat.zero_le _
  | d :: ds, n, h => Nat.max_le.mpr ⟨h d List.mem_cons_self, Dt.depL_le fun e m => h e (List.mem_cons_of_mem _ m)⟩
mutual
inductive Rp (K : PySem.W.Frag) (H : Hp) : V → Dt → Prop
  | non : Rp K H .non .non
  | bl (b : Bool) : Rp K H (.bl b) (.bl b)
  | int (i : Int) : Rp K H (.int i) (.int i)
  | str (l : List Nat) (h : l.length ≤ 100000) : Rp K H (Tx l) (.str l)
  | tup {a : Addr} {vs : List V} {ds : List Dt} : SqT K H a vs → vs.length ≤ 100000 → RpL K H vs ds → Rp K H (.ref a) (.tup ds)
  | lst {a : Addr} {vs : List V} : H a = some (.lst vs) → Rp K H (.ref a) .lst
  | obj {a C : Addr} : H a = some (ExO (.ref C) a) → Rp K H (.ref a) .obj
inductive RpL (K : PySem.W.Frag) (H : Hp) : List V → List Dt → Prop
  | nil : RpL K H [] []
  | cons {v : V} {vs : List V} {d : Dt} {ds : List Dt} : Rp K H v d → RpL K H vs ds → RpL K H (v :: vs) (d :: ds)
end
/-- S has nothing but lists -/
def Lsts (H : Hp) (S : List Addr) : Prop := ∀ p ∈ S, ∃ xs, H p = some (.lst xs)
theorem Lsts.nil {H : Hp} : Lsts H [] := fun _ m => nomatch m
theorem Lsts.one {H : Hp} {p : Addr} {xs : List V} (h : H p = some (.lst xs)) : Lsts H [p] := fun q m => by
  rw [List.mem_singleton.mp m]
  exact ⟨xs, h⟩
theorem Lsts.cons {H : Hp} {p : Addr} {S : List Addr} {xs : List V} (h : H p = some (.lst xs)) (t : Lsts H S) : Lsts H (p :: S) := fun q m => by
  rcases List.mem_cons.mp m with rfl | m
  · exact ⟨xs, h⟩
  · exact t q m
theorem Lsts.stp {H H' : Hp} {S S' : List Addr} (h : Lsts H S) (s : Stp S' H H') : Lsts H' S := fun p m => by
  obtain ⟨xs, e⟩ := h p m
  exact s.ls p xs e
theorem sqt_stp {K : PySem.W.Frag} {H H' : Hp} {S : List Addr} {a : Addr} {vs : List V} (s : Stp S H H') (l : Lsts H S) (h : SqT K H a vs) : SqT K H' a vs := by
  rcases h with (h | ⟨o, h⟩) | h
  · refine .inl (.inl (s.kp a _ (fun m => ?_) h))
    obtain ⟨xs, e⟩ := l a m
    rw [h] at e
    cases e
  · refine .inl (.inr ⟨o, s.kp a _ (fun m => ?_) h⟩)
    obtain ⟨xs, e⟩ := l a m
    rw [h] at e
    cases e
  · exact .inr h
mutual
theorem Rp.stp {K : PySem.W.Frag} {H H' : Hp} {S : List Addr} (s : Stp S H H') (l : Lsts H S) : ∀ {v : V} {d : Dt}, Rp K H v d → Rp K H' v d
  | _, .non, .non => .non
  | _, .bl _, .bl b => .bl b
  | _, .int _, .int i => .int i
  | _, .str _, .str x h => .str x h
  | _, .tup ds, .tup h n r => .tup (sqt_stp s l h) n (RpL.stp s l r)
  | _, .lst, .lst (a := a) (vs := vs) h => by
    obtain ⟨ys, e⟩ := s.ls a vs h
    exact .lst e
  | _, .obj, .obj (a := a) (C := C) h => by
    refine .obj (C := C) (s.kp a _ (fun m => ?_) h)
    obtain ⟨xs, e⟩ := l a m
    rw [h] at e
    cases e
theorem RpL.stp {K : PySem.W.Frag} {H H' : Hp} {S : List Addr} (s : Stp S H H') (l : Lsts H S) : ∀ {vs : List V} {ds : List Dt}, RpL K H vs ds → RpL K H' vs ds
  | _, [], .nil => .nil
  | _, _ :: _, .cons h r => .cons (Rp.stp s l h) (RpL.stp s l r)
end
theorem RpL.len {K : PySem.W.Frag} {H : Hp} : ∀ {vs : List V} {ds : List Dt}, RpL K H vs ds → vs.length = ds.length
  | _, [], .nil => rfl
  | _, _ :: _, .cons _ r => by rw [List.length_cons, List.length_cons, RpL.len r]
theorem RpL.get {K : PySem.W.Frag} {H : Hp} : ∀ {vs : List V} {ds : List Dt} {i : Nat} {v : V}, RpL K H vs ds → vs[i]? = some v → ∃ d, ds[i]? = some d ∧ Rp K H v d
  | _, [], _, _, .nil, e => by simp at e
  | _, d :: _, 0, _, .cons h _, e => by
    simp at e
    subst e
    exact ⟨d, rfl, h⟩
  | _, _ :: _, i + 1, v, .cons _ r, e => RpL.get (i := i) (v := v) r (by simpa using e)
theorem RpL.app {K : PySem.W.Frag} {H : Hp} : ∀ {vs ws : List V} {ds es : List Dt}, RpL K H vs ds → RpL K H ws es → RpL K H (vs ++ ws) (ds ++ es)
  | _, _, [], _, .nil, q => q
  | _, _, _ :: _, _, .cons h r, q => .cons h (RpL.app r q)
theorem RpL.one {K : PySem.W.Frag} {H : Hp} : ∀ {vs : List V} {ds : List Dt}, RpL K H vs ds → vs.length = 1 → ∃ v d, vs = [v] ∧ ds = [d] ∧ Rp K H v d
  | _, [], .nil, h => by simp at h
  | _, [d], .cons h .nil, _ => ⟨_, d, rfl, rfl, h⟩
  | _, _ :: _ :: _, .cons _ (.cons _ _), h => by simp at h
/-! ### type(x), is -/
/-- the name of a value's built-in class; none for an object of the package -/
def Dt.ty : Dt → Option String
  | .non => some "NoneType"
  | .bl _ => some "bool"
  | .int _ => some "int"
  | .str _ => some "str"
  | .tup _ => some "tuple"
  | .lst => some "list"
  | .obj => none
def rTy (K : PySem.W.Frag) : List V → Hp → VK → Prop := fun xs H Q => ∃ x d, xs = [x] ∧ Rp K H x d ∧ ∀ y, (∀ T, d.ty = some T → y = .ty T) → (d.ty = none → ∃ C, y = .ref C) → Q y H
section
variable {X : Cx}
theorem call_type : CallR X (.type "type") (rTy X.K) := by
  intro pins s σ H xs us Q I r h
  obtain ⟨x, d, rfl, rp, q⟩ := h
  have old : ∀ T, TyB X.K H x T → d.ty = some T → wpAny (model X.prog X.w) X.A (call (.type "type") us) (EP X pins σ Q) X.xe s := fun T t e => by
    refine call_type1 pins s σ H [x] us Q I r ⟨x, T, rfl, t, q _ (fun T' e' => ?_) (fun n => ?_)⟩
    · rw [e] at e'
      cases e'
      rfl
    · rw [e] at n
      cases n
  cases rp with
  | non => exact old _ .non rfl
  | bl b => exact old _ (.bl b) rfl
  | int i => exact old _ (.int i) rfl
  | str l hl => exact old _ (.str _) rfl
  | tup hs hn ha => exact old _ (.tup hs) rfl
  | lst hs => exact old _ (.lst (SqL.of hs)) rfl
  | obj ho =>
    rename_i a C
    obtain ⟨u, rfl, rx⟩ := vals1 r
    cases rx
    obtain ⟨⟨oe, vs, e1, ⟨e2, e3⟩, e4, _⟩, _⟩ := I.hok _ _ ho
    obtain ⟨hh, g, dd, t, os⟩ := s
    exact call_type_obj e1 (by rw [e2]; rfl) (by rw [e2]; exact ⟨.ref C, H, I, rfl, q _ (fun T e => nomatch e) (fun _ => ⟨C, rfl⟩)⟩)
def rTyIs (neg : Bool) : R2 := fun x y H Q => ∃ T, y = .ty T ∧ ((∃ T', x = .ty T' ∧ Q (.bl (neg ^^ decide (T' = T))) H) ∨ ∃ C, x = .ref C ∧ Q (.bl neg) H)
theorem op_isTy : OpR X (compareOp .Is) (rTyIs false) := by
  intro pins s σ H x y v u Q I rx ry h
  obtain ⟨T, rfl, ⟨T', rfl, q⟩ | ⟨C, rfl, q⟩⟩ := h
  · exact op_isTyB pins s σ H _ _ _ _ _ I rx ry ⟨T', T, rfl, rfl, by rwa [Bool.false_xor] at q⟩
  · cases (show v = Value.ref C from rx)
    cases (show u = Value.type T from ry)
    exact wpAny_is_other rfl (by intro e; cases e) ⟨.bl false, H, I, rfl, q⟩
theorem op_notTy : OpR X (compareOp .IsNot) (rTyIs true) := by
  intro pins s σ H x y v u Q I rx ry h
  obtain ⟨T, rfl, ⟨T', rfl, q⟩ | ⟨C, rfl, q⟩⟩ := h
  · exact op_notTyB pins s σ H _ _ _ _ _ I rx ry ⟨T', T, rfl, rfl, by rwa [Bool.true_xor] at q⟩
  · cases (show v = Value.ref C from rx)
    cases (show u = Value.type T from ry)
    exact wpAny_isNot_other rfl (by intro e; cases e) ⟨.bl true, H, I, rfl, q⟩
end
/-- type(x) is T, type(x) is not T -/
theorem ty_is {K : PySem.W.Frag} {H : Hp} {x : V} {d : Dt} {T : String} {neg : Bool} {Q : VK} (r : Rp K H x d) (k : Q (.bl (neg ^^ decide (d.ty = some T))) H) : rTy K [x] H fun y H1 => rTyIs neg y (.ty T) H1 Q := by
  refine ⟨x, d, rfl, r, fun y h1 h2 => ⟨T, rfl, ?_⟩⟩
  cases e : d.ty with
  | none =>
    obtain ⟨C, rfl⟩ := h2 e
    refine .inr ⟨C, rfl, ?_⟩
    rw [e] at k
    simpa using k
  | some T' =>
    rw [h1 T' e]
    refine .inl ⟨T', rfl, ?_⟩
    rw [e] at k
    simpa using k
/-! ### type(e) is T as one piece -/
def Mono (te : TE) : Prop := ∀ σ H (Q Q' : VK), (∀ v H', Q v H' → Q' v H') → te σ H Q → te σ H Q'
theorem Mono.var {i : Nat} : Mono (tVar i) := fun σ H Q Q' h ⟨v, e, q⟩ => ⟨v, e, h _ _ q⟩
theorem Mono.c {v : V} : Mono (tC v) := fun σ H Q Q' h q => h _ _ q
theorem Mono.op {r : R2} {ta tb : TE} (ha : Mono ta) (hb : Mono tb) (hr : ∀ x y H (Q Q' : VK), (∀ v H', Q v H' → Q' v H') → r x y H Q → r x y H Q') : Mono (tOp r ta tb) := fun σ H Q Q' h q =>
  ha σ H _ _ (fun x H1 q1 => hb σ H1 _ _ (fun y H2 q2 => hr x y H2 _ _ h q2) q1) q
theorem Mono.ixT {K : PySem.W.Frag} {ta tb : TE} (ha : Mono ta) (hb : Mono tb) : Mono (tOp (rIxT K) ta tb) := Mono.op ha hb fun _ _ _ _ _ h ⟨p, xs, i, v, e1, e2, e3, e4, q⟩ => ⟨p, xs, i, v, e1, e2, e3, e4, h _ _ q⟩
theorem Mono.ixL {K : PySem.W.Frag} {ta tb : TE} (ha : Mono ta) (hb : Mono tb) : Mono (tOp (rIxL K) ta tb) := Mono.op ha hb fun _ _ _ _ _ h ⟨p, xs, i, v, e1, e2, e3, e4, q⟩ => ⟨p, xs, i, v, e1, e2, e3, e4, h _ _ q⟩
def tTyIs (K : PySem.W.Frag) (neg : Bool) (T : String) (te : TE) : TE := fun σ H Q => te σ H fun x H1 => ∃ d, Rp K H1 x d ∧ Q (.bl (neg ^^ decide (d.ty = some T))) H1
def tTTyIs (K : PySem.W.Frag) (neg : Bool) (T : String) (te : TE) : TT := fun σ H Q => te σ H fun x H1 => ∃ d, Rp K H1 x d ∧ Q (neg ^^ decide (d.ty = some T)) H1
section
variable {X : Cx} {e : Expr} {te : TE} {T : String} {x : Str} {p pos q pos2 : Pos}
theorem pe_tyIs (hm : Mono te) (he : PE X e te) (hn : X.mg "type" = none) (hT : X.mg x = none) (hv : bootBuiltins x = some (Value.type T)) (hg : Gl X "type" := by rfl) (hgT : Gl X x := by rfl) (hnn : x ≠ "__name__" := by decide) (hd : (x == ("__debug__" : Str)) = false := by decide)
    (hs : starEach [e] X.env = (false, eval e X.env) :: starEach [] X.env := by rfl) (hpl : (backTo pos (starEach [] X.env)).any (·.1) = false := by rfl) :
    PE X (.Compare (.Call (.Name "type" p) [e] [] pos) [.Is] [.Name x q] pos2) (tTyIs X.K false T te) := by
  have h := pe_cmpR (X := X) (pos := pos2) op_isTy (pe_callTy (p := p) (pos := pos) call_type hg hn (by decide +kernel) (pa_cons he pa_nil (hs := hs)) (he := hs) (hpl := hpl)) (pe_bltn (v := .ty T) (pos := q) hgT hT hv rfl hnn hd) (nomark _)
  refine ⟨fun pins s σ H Q I hw => h.run pins s σ H Q I ?_⟩
  exact hm σ H _ _ (fun v H1 ⟨d, r, k⟩ => ty_is (neg := false) r k) hw
theorem pe_tyNot (hm : Mono te) (he : PE X e te) (hn : X.mg "type" = none) (hT : X.mg x = none) (hv : bootBuiltins x = some (Value.type T)) (hg : Gl X "type" := by rfl) (hgT : Gl X x := by rfl) (hnn : x ≠ "__name__" := by decide) (hd : (x == ("__debug__" : Str)) = false := by decide)
    (hs : starEach [e] X.env = (false, eval e X.env) :: starEach [] X.env := by rfl) (hpl : (backTo pos (starEach [] X.env)).any (·.1) = false := by rfl) :
    PE X (.Compare (.Call (.Name "type" p) [e] [] pos) [.IsNot] [.Name x q] pos2) (tTyIs X.K true T te) := by
  have h := pe_cmpR (X := X) (pos := pos2) op_notTy (pe_callTy (p := p) (pos := pos) call_type hg hn (by decide +kernel) (pa_cons he pa_nil (hs := hs)) (he := hs) (hpl := hpl)) (pe_bltn (v := .ty T) (pos := q) hgT hT hv rfl hnn hd) (nomark _)
  refine ⟨fun pins s σ H Q I hw => h.run pins s σ H Q I ?_⟩
  exact hm σ H _ _ (fun v H1 ⟨d, r, k⟩ => ty_is (neg := true) r k) hw
theorem pt_tyIs (hm : Mono te) (he : PE X e te) (hn : X.mg "type" = none) (hT : X.mg x = none) (hv : bootBuiltins x = some (Value.type T)) (hg : Gl X "type" := by rfl) (hgT : Gl X x := by rfl) (hnn : x ≠ "__name__" := by decide) (hd : (x == ("__debug__" : Str)) = false := by decide)
    (hs : starEach [e] X.env = (false, eval e X.env) :: starEach [] X.env := by rfl) (hpl : (backTo pos (starEach [] X.env)).any (·.1) = false := by rfl) :
    PT X (.Compare (.Call (.Name "type" p) [e] [] pos) [.Is] [.Name x q] pos2) (tTTyIs X.K false T te) := by
  have h := pt_cmpR (X := X) (pos := pos2) op_isTy (pe_callTy (p := p) (pos := pos) call_type hg hn (by decide +kernel) (pa_cons he pa_nil (hs := hs)) (he := hs) (hpl := hpl)) (pe_bltn (v := .ty T) (pos := q) hgT hT hv rfl hnn hd) (nomark _)
  refine ⟨fun pins s σ H Q I hw => h.run pins s σ H Q I ?_⟩
  exact hm σ H _ _ (fun v H1 ⟨d, r, k⟩ => ty_is (neg := false) (Q := fun x H' => ∃ k, x = .bl k ∧ Q k H') r ⟨_, rfl, k⟩) hw
theorem pt_tyNot (hm : Mono te) (he : PE X e te) (hn : X.mg "type" = none) (hT : X.mg x = none) (hv : bootBuiltins x = some (Value.type T)) (hg : Gl X "type" := by rfl) (hgT : Gl X x := by rfl) (hnn : x ≠ "__name__" := by decide) (hd : (x == ("__debug__" : Str)) = false := by decide)
    (hs : starEach [e] X.env = (false, eval e X.env) :: starEach [] X.env := by rfl) (hpl : (backTo pos (starEach [] X.env)).any (·.1) = false := by rfl) :
    PT X (.Compare (.Call (.Name "type" p) [e] [] pos) [.IsNot] [.Name x q] pos2) (tTTyIs X.K true T te) := by
  have h := pt_cmpR (X := X) (pos := pos2) op_notTy (pe_callTy (p := p) (pos := pos) call_type hg hn (by decide +kernel) (pa_cons he pa_nil (hs := hs)) (he := hs) (hpl := hpl)) (pe_bltn (v := .ty T) (pos := q) hgT hT hv rfl hnn hd) (nomark _)
  refine ⟨fun pins s σ H Q I hw => h.run pins s σ H Q I ?_⟩
  exact hm σ H _ _ (fun v H1 ⟨d, r, k⟩ => ty_is (neg := true) (Q := fun x H' => ∃ k, x = .bl k ∧ Q k H') r ⟨_, rfl, k⟩) hw
end
end Pg
namespace Pg
open PySem PySem.Spec PyProof.Rows L2
/-! ### readings are monotone: a piece may be cut off by what it leaves -/
def MonoT (t : TT) : Prop := ∀ σ H (Q Q' : Bool → Hp → Prop), (∀ b H', Q b H' → Q' b H') → t σ H Q → t σ H Q'
def MonoA (t : TA) : Prop := ∀ σ H (Q Q' : List V → Hp → Prop), (∀ vs H', Q vs H' → Q' vs H') → t σ H Q → t σ H Q'
def MonoS (sp : Sp) : Prop := ∀ vs H (Q Q' : VK) E, (∀ v H', Q v H' → Q' v H') → sp vs H Q E → sp vs H Q' E
def MonoR (r : R2) : Prop := ∀ x y H (Q Q' : VK), (∀ v H', Q v H' → Q' v H') → r x y H Q → r x y H Q'
def MonoC (r : List V → Hp → VK → Prop) : Prop := ∀ vs H (Q Q' : VK), (∀ v H', Q v H' → Q' v H') → r vs H Q → r vs H Q'
theorem Mono.cut {te : TE} (m : Mono te) {σ : L2.St} {H : Hp} {Q : VK} (P : V → Hp → Prop) (h : te σ H P) (k : ∀ v H', P v H' → Q v H') : te σ H Q := m σ H P Q k h
theorem MonoT.cut {t : TT} (m : MonoT t) {σ : L2.St} {H : Hp} {Q : Bool → Hp → Prop} (P : Bool → Hp → Prop) (h : t σ H P) (k : ∀ b H', P b H' → Q b H') : t σ H Q := m σ H P Q k h
theorem MonoR.i0 {g : Int → Int → V} : MonoR (rI0 g) := fun _ _ _ _ _ h ⟨i, j, e1, e2, q⟩ => ⟨i, j, e1, e2, h _ _ q⟩
theorem MonoR.i {C : Int → Int → Prop} {g : Int → Int → V} : MonoR (rI C g) := fun _ _ _ _ _ h ⟨i, j, e1, e2, c, q⟩ => ⟨i, j, e1, e2, c, h _ _ q⟩
theorem MonoR.eq : MonoR rEq := fun _ _ _ _ _ h ⟨s, q⟩ => ⟨s, h _ _ q⟩
theorem MonoR.ne : MonoR rNe := fun _ _ _ _ _ h ⟨s, q⟩ => ⟨s, h _ _ q⟩
theorem MonoR.ixL {K : PySem.W.Frag} : MonoR (rIxL K) := fun _ _ _ _ _ h ⟨p, xs, i, v, e1, e2, e3, e4, q⟩ => ⟨p, xs, i, v, e1, e2, e3, e4, h _ _ q⟩
theorem MonoR.ixT {K : PySem.W.Frag} : MonoR (rIxT K) := fun _ _ _ _ _ h ⟨p, xs, i, v, e1, e2, e3, e4, q⟩ => ⟨p, xs, i, v, e1, e2, e3, e4, h _ _ q⟩
theorem MonoR.ixS : MonoR rIxS := fun _ _ _ _ _ h ⟨z, i, c, e1, e2, e3, e4, q⟩ => ⟨z, i, c, e1, e2, e3, e4, h _ _ q⟩
theorem MonoR.inn {K : PySem.W.Frag} {neg : Bool} : MonoR (rIn K neg) := fun _ _ _ _ _ h ⟨p, xs, e1, e2, e3, e4, q⟩ => ⟨p, xs, e1, e2, e3, e4, h _ _ q⟩
theorem MonoR.neD {K : PySem.W.Frag} : MonoR (rNeD K) := fun _ _ _ _ _ h ⟨d, e, a, b, c, f, q⟩ => ⟨d, e, a, b, c, f, h _ _ q⟩
theorem MonoR.eqD {K : PySem.W.Frag} : MonoR (rEqD K) := fun _ _ _ _ _ h ⟨d, e, a, b, c, f, q⟩ => ⟨d, e, a, b, c, f, h _ _ q⟩
theorem MonoR.str {C : Str → Str → Prop} {g : Str → Str → V} : MonoR (fun x y H Q => ∃ i j, x = .str i ∧ y = .str j ∧ C i j ∧ Q (g i j) H) := fun _ _ _ _ _ h ⟨i, j, a, b, c, q⟩ => ⟨i, j, a, b, c, h _ _ q⟩
theorem MonoR.str0 {g : Str → Str → V} : MonoR (fun x y H Q => ∃ i j, x = .str i ∧ y = .str j ∧ Q (g i j) H) := fun _ _ _ _ _ h ⟨i, j, a, b, q⟩ => ⟨i, j, a, b, h _ _ q⟩
theorem Mono.op' {r : R2} {ta tb : TE} (hr : MonoR r) (ha : Mono ta) (hb : Mono tb) : Mono (tOp r ta tb) := Mono.op ha hb hr
theorem Mono.tif {t : TT} {ta tb : TE} (ht : MonoT t) (ha : Mono ta) (hb : Mono tb) : Mono (tIf t ta tb) := fun σ H Q Q' h q => ht σ H _ _ (fun b H1 q1 => by
  cases b with
  | true => exact ha σ H1 _ _ h q1
  | false => exact hb σ H1 _ _ h q1) q
theorem MonoT.test {te : TE} (h : Mono te) : MonoT (tTest te) := fun σ H Q Q' k q => h σ H _ _ (fun x H1 ⟨c, e, q1⟩ => ⟨c, e, k _ _ q1⟩) q
theorem MonoT.b {te : TE} (h : Mono te) : MonoT (tB te) := fun σ H Q Q' k q => h σ H _ _ (fun x H1 ⟨c, e, q1⟩ => ⟨c, e, k _ _ q1⟩) q
theorem MonoT.not {t : TT} (h : MonoT t) : MonoT (tNot t) := fun σ H Q Q' k q => h σ H _ _ (fun b H1 q1 => k _ _ q1) q
theorem MonoT.and {t u : TT} (h : MonoT t) (g : MonoT u) : MonoT (tAnd t u) := fun σ H Q Q' k q => h σ H _ _ (fun b H1 q1 => by
  cases b with
  | true => exact g σ H1 _ _ k q1
  | false => exact k _ _ q1) q
theorem MonoT.or {t u : TT} (h : MonoT t) (g : MonoT u) : MonoT (tOr t u) := fun σ H Q Q' k q => h σ H _ _ (fun b H1 q1 => by
  cases b with
  | true => exact k _ _ q1
  | false => exact g σ H1 _ _ k q1) q
theorem MonoA.nil : MonoA tNil := fun _ _ _ _ h q => h _ _ q
theorem MonoA.cons {te : TE} {ta : TA} (h : Mono te) (g : MonoA ta) : MonoA (tCons te ta) := fun σ H Q Q' k q => h σ H _ _ (fun x H1 q1 => g σ H1 _ _ (fun vs H2 q2 => k _ _ q2) q1) q
theorem Mono.cl {sp : Sp} {ta : TA} (hs : MonoS sp) (ha : MonoA ta) : Mono (tCl sp ta) := fun σ H Q Q' k q => ha σ H _ _ (fun vs H1 q1 => hs vs H1 _ _ E0 k q1) q
theorem Mono.cb {r : List V → Hp → VK → Prop} {ta : TA} (hs : MonoC r) (ha : MonoA ta) : Mono (tCB r ta) := fun σ H Q Q' k q => ha σ H _ _ (fun vs H1 q1 => hs vs H1 _ _ k q1) q
theorem Mono.tup {ta : TA} (ha : MonoA ta) : Mono (tTup ta) := fun σ H Q Q' k q => ha σ H _ _ (fun vs H1 ⟨l, q1⟩ => ⟨l, fun p hp => k _ _ (q1 p hp)⟩) q
theorem Mono.lst {ta : TA} (ha : MonoA ta) : Mono (tLst ta) := fun σ H Q Q' k q => ha σ H _ _ (fun vs H1 ⟨l, q1⟩ => ⟨l, fun p hp => k _ _ (q1 p hp)⟩) q
/-- one of two constants -/
theorem ite_tC {c : Prop} [Decidable c] {a b : V} {σ : L2.St} {H : Hp} {Q : VK} (h : ∀ v, v = a ∨ v = b → Q v H) : if c then tC a σ H Q else tC b σ H Q := by
  split
  · exact h a (.inl rfl)
  · exact h b (.inr rfl)
theorem MonoC.two {g : Int → Int → V} : MonoC (fun xs H Q => ∃ i j, xs = [.int i, .int j] ∧ Q (g i j) H) := fun _ _ _ _ h ⟨i, j, e, q⟩ => ⟨i, j, e, h _ _ q⟩
theorem MonoC.int1 : MonoC (fun xs H Q => (∃ i, xs = [.int i] ∧ Q (.int i) H) ∨ ∃ k : Bool, xs = [.bl k] ∧ Q (.int (if k then 1 else 0)) H) := fun _ _ _ _ h q => by
  rcases q with ⟨i, e, q⟩ | ⟨i, e, q⟩
  · exact .inl ⟨i, e, h _ _ q⟩
  · exact .inr ⟨i, e, h _ _ q⟩
theorem RpL.strs {K : PySem.W.Frag} {H : Hp} : ∀ {ws : List (List Nat)}, (∀ l ∈ ws, l.length ≤ 100000) → RpL K H (ws.map Tx) (ws.map Dt.str)
  | [], _ => .nil
  | l :: ws, h => .cons (.str l (h l List.mem_cons_self)) (RpL.strs fun m q => h m (List.mem_cons_of_mem _ q))
theorem dep_strs : ∀ (ws : List (List Nat)), Dt.depL (ws.map Dt.str) = 0
  | [] => rfl
  | l :: ws => by
    show max 0 (Dt.depL (ws.map Dt.str)) = 0
    rw [dep_strs ws]
    rfl
/-- a text of the program's own as a value -/
theorem Rp.lit {K : PySem.W.Frag} {H : Hp} (s : Str) (h : s.cps.toList.length ≤ 100000 := by decide +kernel) : Rp K H (.str s) (.str s.cps.toList) := by
  have := Rp.str (K := K) (H := H) s.cps.toList h
  have e : tx s.cps.toList = s := by cases s <;> simp [tx]
  rwa [Tx, e] at this
end Pg
namespace Pg
open PySem PySem.Spec PyProof.Rows L2
/-! ### expressions that build data: what they evaluate to -/
def EvD (K : PySem.W.Frag) (te : TE) (σ : L2.St) (H : Hp) (d : Dt) : Prop := ∀ H1, Stp [] H H1 → ∀ Q : VK, (∀ v H2, Stp [] H1 H2 → Rp K H2 v d → Q v H2) → te σ H1 Q
def EvDA (K : PySem.W.Frag) (ta : TA) (σ : L2.St) (H : Hp) (ds : List Dt) : Prop := ∀ H1, Stp [] H H1 → ∀ Q : List V → Hp → Prop, (∀ vs H2, Stp [] H1 H2 → RpL K H2 vs ds → Q vs H2) → ta σ H1 Q
section
variable {K : PySem.W.Frag} {te : TE} {ta : TA} {σ : L2.St} {H : Hp} {d : Dt} {ds : List Dt}
theorem EvD.bl {b : Bool} : EvD K (tC (.bl b)) σ H (.bl b) := fun H1 _ _ k => k _ H1 (Stp.refl _ _) (.bl b)
theorem EvD.int {i : Int} : EvD K (tC (.int i)) σ H (.int i) := fun H1 _ _ k => k _ H1 (Stp.refl _ _) (.int i)
theorem EvD.non : EvD K (tC .non) σ H .non := fun H1 _ _ k => k _ H1 (Stp.refl _ _) .non
theorem EvD.str {s : Str} (h : s.cps.toList.length ≤ 100000 := by decide +kernel) : EvD K (tC (.str s)) σ H (.str s.cps.toList) := fun H1 _ _ k => k _ H1 (Stp.refl _ _) (Rp.lit s h)
theorem EvD.var {i : Nat} {v : V} (r : Rp K H v d) (e : σ[i]? = some (some v) := by rfl) : EvD K (tVar i) σ H d := fun H1 s _ k => ⟨v, e, k v H1 (Stp.refl _ _) (r.stp s Lsts.nil)⟩
theorem EvDA.nil : EvDA K tNil σ H [] := fun H1 _ _ k => k [] H1 (Stp.refl _ _) .nil
theorem EvDA.cons (h : EvD K te σ H d) (g : EvDA K ta σ H ds) : EvDA K (tCons te ta) σ H (d :: ds) := fun H1 s Q k =>
  h H1 s _ fun v H2 s2 r => g H2 (s.trans s2) _ fun vs H3 s3 rs => k (v :: vs) H3 (s2.trans s3) (.cons (r.stp s3 Lsts.nil) rs)
theorem EvD.tup (h : EvDA K ta σ H ds) (hl : ds.length ≤ 1000) : EvD K (tTup ta) σ H (.tup ds) := fun H1 s Q k =>
  h H1 s _ fun vs H2 s2 rs => ⟨sz (by rw [rs.len]; omega), fun p np => k _ _ (s2.new' np) (.tup (SqT.of upd_same) (by rw [rs.len]; omega) (rs.stp (Stp.new np []) Lsts.nil))⟩
theorem EvD.lst (h : EvDA K ta σ H ds) (hl : ds.length ≤ 1000) : EvD K (tLst ta) σ H .lst := fun H1 s Q k =>
  h H1 s _ fun vs H2 s2 rs => ⟨sz (by rw [rs.len]; omega), fun p np => k _ _ (s2.new' np) (.lst upd_same)⟩
theorem EvD.exc {C : Addr} (h : EvD K te σ H d) : EvD K (fun σ H Q => te σ H fun _ H1 => ∀ a, H1 a = none → Q (.ref a) (upd H1 a (ExO (.ref C) a))) σ H .obj := fun H1 s Q k =>
  h H1 s _ fun v H2 s2 _ => fun a na => k _ _ (s2.new' na) (.obj upd_same)
theorem EvD.cat {tb : TE} {a b : List Nat} (h : EvD K te σ H (.str a)) (g : EvD K tb σ H (.str b)) (hl : a.length + b.length ≤ 100000) : EvD K (tOp (fun x y H Q => ∃ i j, x = .str i ∧ y = .str j ∧ i.length + j.length ≤ sizeLine ∧ Q (.str (i ++ j)) H) te tb) σ H (.str (a ++ b)) := fun H1 s Q k =>
  h H1 s _ fun v H2 s2 r => g H2 (s.trans s2) _ fun u H3 s3 q => by
    cases r with
    | str _ h1 =>
      cases q with
      | str _ h2 =>
        refine ⟨tx a, tx b, rfl, rfl, by rw [tx_len, tx_len]; exact sz hl, ?_⟩
        rw [tx_app]
        exact k _ _ (s2.trans s3) (.str _ (by rw [List.length_append]; exact hl))
theorem EvD.pow {i j : Int} (h : CPow i j) : EvD K (tOp (rI CPow fun i j => .int (i ^ j.toNat)) (tC (.int i)) (tC (.int j))) σ H (.int (i ^ j.toNat)) := fun H1 s Q k =>
  ⟨i, j, rfl, rfl, h, k _ _ (Stp.refl _ _) (.int _)⟩
theorem EvD.neg {i : Int} : EvD K (tUn (rU fun i => .int (-i)) (tC (.int i))) σ H (.int (-i)) := fun H1 s Q k => ⟨i, rfl, k _ _ (Stp.refl _ _) (.int _)⟩
/-- list(t) of a tuple -/
theorem EvD.list (h : EvD K te σ H (.tup ds)) : EvD K (tCB (fun xs H Q => ∃ p ys, xs = [.ref p] ∧ (SqL K H p ys ∨ SqT K H p ys) ∧ ∀ l, H l = none → Q (.ref l) (upd H l (.lst ys))) (tCons te tNil)) σ H .lst := fun H1 s Q k =>
  h H1 s _ fun v H2 s2 r => by
    cases r with
    | tup hs hn rl => exact ⟨_, _, rfl, .inr hs, fun l nl => k _ _ (s2.new' nl) (.lst upd_same)⟩
theorem EvDA.use (h : EvDA K ta σ H ds) {Q : List V → Hp → Prop} (k : ∀ vs H2, Stp [] H H2 → RpL K H2 vs ds → Q vs H2) : ta σ H Q := h H (Stp.refl _ _) Q k
theorem EvD.use (h : EvD K te σ H d) {Q : VK} (k : ∀ v H2, Stp [] H H2 → Rp K H2 v d → Q v H2) : te σ H Q := h H (Stp.refl _ _) Q k
/-- a new list of data -/
theorem EvDA.newl (h : EvDA K ta σ H ds) (hl : ds.length ≤ 1000) {Q : VK} (k : ∀ p vs H2, Stp [] H H2 → H p = none → H2 p = some (.lst vs) → RpL K H2 vs ds → Q (.ref p) H2) : tLst ta σ H Q :=
  h.use fun vs H2 s rs => ⟨sz (by rw [rs.len]; omega), fun p np => k p vs _ (s.new' np) (s.fresh (fun m => nomatch m) np) upd_same (rs.stp (Stp.new np []) Lsts.nil)⟩
end
/-! ### tuples put together, cut -/
theorem catA_use {K : PySem.W.Frag} {H : Hp} {a b : Addr} {xs ys : List V} {Q : VK} (ha : SqT K H a xs) (hb : SqT K H b ys) (hl : xs.length + ys.length ≤ 100000) (k : ∀ p H', Stp [] H H' → SqT K H' p (xs ++ ys) → Q (.ref p) H') : rCatA K (.ref a) (.ref b) H Q := by
  refine ⟨a, b, xs, ys, rfl, rfl, ha, hb, sz hl, fun e => ?_, fun _ e => ?_, fun _ _ p np => ?_⟩
  · subst e
    exact k b H (Stp.refl _ _) hb
  · subst e
    refine k a H (Stp.refl _ _) ?_
    rw [List.append_nil]
    exact ha
  · exact k p _ (Stp.new np _) (SqT.of upd_same)
theorem slA_use {K : PySem.W.Frag} {H : Hp} {a : Addr} {xs : List V} {lo hi : Option Int} {Q : VK} (ha : SqT K H a xs) (k : ∀ p H', Stp [] H H' → SqT K H' p (cutV xs lo hi) → Q (.ref p) H') : rSlA K (.ref a) lo hi H Q := by
  refine ⟨a, xs, rfl, ha, fun ⟨e1, e2⟩ => ?_, fun _ p np => ?_⟩
  · refine k a H (Stp.refl _ _) ?_
    have e : cutV xs lo hi = xs := by
      unfold cutV
      rw [e1, e2, List.drop_zero, Nat.sub_zero, List.take_length]
    rw [e]
    exact ha
  · exact k p _ (Stp.new np _) (SqT.of upd_same)
theorem cut_upto {xs : List V} (k : Nat) : cutV xs none (some (k : Int)) = xs.take k := by
  unfold cutV
  rw [HT.sIx_none, HT.sIx_nat, List.drop_zero, Nat.sub_zero]
  rcases Nat.le_total k xs.length with h | h
  · rw [Nat.min_eq_left h]
  · rw [Nat.min_eq_right h, List.take_of_length_le (Nat.le_refl _), List.take_of_length_le h]
theorem cut_from {xs : List V} (k : Nat) : cutV xs (some (k : Int)) none = xs.drop k := by
  unfold cutV
  rw [HT.sIx_none, HT.sIx_nat]
  rcases Nat.le_total k xs.length with h | h
  · rw [Nat.min_eq_left h, List.take_of_length_le (by rw [List.length_drop]; exact Nat.le_refl _)]
  · rw [Nat.min_eq_right h, List.drop_length, List.drop_of_length_le h, List.take_nil]
theorem RpL.take {K : PySem.W.Frag} {H : Hp} : ∀ {vs : List V} {ds : List Dt} (n : Nat), RpL K H vs ds → RpL K H (vs.take n) (ds.take n)
  | _, _, 0, _ => by rw [List.take_zero, List.take_zero]; exact .nil
  | _, [], _ + 1, .nil => .nil
  | _, _ :: _, n + 1, .cons h r => .cons h (RpL.take n r)
theorem RpL.drop {K : PySem.W.Frag} {H : Hp} : ∀ {vs : List V} {ds : List Dt} (n : Nat), RpL K H vs ds → RpL K H (vs.drop n) (ds.drop n)
  | _, _, 0, r => r
  | _, [], _ + 1, .nil => .nil
  | _, _ :: _, n + 1, .cons _ r => RpL.drop n r
/-! ### heads of statements -/
theorem asg_name {te : TE} {i : Nat} {u : TS} {D : Ends} {σ : L2.St} {H : Hp} (h : te σ H fun x H1 => u D (σ.set i (some x)) H1) : tSeq (tAsg te (gName i)) u D σ H := h
theorem op_var {r : R2} {i : Nat} {tb : TE} {σ : L2.St} {H : Hp} {Q : VK} {v : V} (e : σ[i]? = some (some v)) (h : tb σ H fun y H2 => r v y H2 Q) : tOp r (tVar i) tb σ H Q := ⟨v, e, h⟩
theorem nopart {σ : L2.St} {H : Hp} {Q : Option Int → Hp → Prop} (h : Q none H) : tNoPart σ H Q := h
end Pg
namespace Pg
open PySem PySem.Spec PyProof.Rows L2 PySem.Froz
/-! ### sets of texts, with what their order leans on -/
/-- the payload D holds the texts l; its table rises, and its order is to be told -/
structure TxR (P : Program) (w : World) (D : SD) (l : List Str) : Prop where
  ok : TxOk P w D l
  all : ∃ us : List Tok, us.length = l.length ∧ D.1.toList.Perm ((l.zip us).map fun p => (hashStr w p.1, Value.str p.1 p.2))
  nd : l.Nodup
  ris : Ris D.2.2.place.toList
  led : w.params.followText "set-order" = true ∨ D.2.2.led = true
section
variable {P : Program} {w : World} {A : Around} {E : Value → Shared → Prop} {s : Shared}
theorem tail_ris {ep : Nat} {xs : Array (Int × Value)} {t : SetTable} {b : Bool} (h : Ris t.place.toList) : Ris (tailTx ep xs t b).2.2.place.toList := by
  unfold tailTx
  by_cases c : (!b && t.tooFull) = true
  · rw [if_pos c]; exact relayAll_ris _ _ _
  · rw [if_neg c]; exact h
theorem tail_led {ep : Nat} {xs : Array (Int × Value)} {t : SetTable} {b : Bool} : (tailTx ep xs t b).2.2.led = t.led := by
  unfold tailTx
  by_cases c : (!b && t.tooFull) = true
  · rw [if_pos c]; exact relayAll_led _ _ _
  · rw [if_neg c]
theorem tail_all {ep : Nat} {xs : Array (Int × Value)} {t : SetTable} {b : Bool} : (tailTx ep xs t b).1.toList.Perm xs.toList := by
  unfold tailTx
  by_cases c : (!b && t.tooFull) = true
  · rw [if_pos c]; exact relayAll_perm _ _ _
  · rw [if_neg c]
theorem TxR.add {D : SD} {l : List Str} {k : Str} (u : Tok) (R : TxR P w D l) (hk : k ∉ l) : TxR P w (addTx (hashStr w k) (.str k u) D) (k :: l) := by
  obtain ⟨us, hu, hp⟩ := R.all
  refine ⟨add_ok u R.ok, ⟨u :: us, by rw [List.length_cons, List.length_cons, hu], ?_⟩, List.nodup_cons.mpr ⟨hk, R.nd⟩, ?_, ?_⟩
  · have p1 : (addTx (hashStr w k) (.str k u) D).1.toList.Perm (D.1.push (hashStr w k, .str k u)).toList := tail_all.trans (layNew_perm _ _ _ _)
    rw [Array.toList_push] at p1
    exact p1.trans ((List.perm_append_singleton _ _).trans (hp.cons _))
  · refine tail_ris ?_
    have q := layNew_ris D.2.2 D.1 (hashStr w k) (.str k u) R.ris
    split
    · exact q
    · exact q
  · have e1 : (addTx (hashStr w k) (.str k u) D).2.2.led = D.2.2.led := by
      unfold addTx
      rw [tail_led]
      have q := layNew_led D.2.2 D.1 (hashStr w k) (.str k u)
      split
      · exact q
      · exact q
    exact R.led.imp id fun z => e1.trans z
/-- a text that is there already is put in -/
theorem add_old {a : Addr} {T : String} {D : SD} {l : List Str} {k : Str} {u : Tok} {Q : Bool → Shared → Prop} (at_ : s.heap.get? a = some (sObj T D)) (F : TxOk P w D l) (hk : k ∈ l) (hb : l.length < scanBound)
    (h : Q false s) : wpAny (model P w) A (setAddHashed a (.str k u) (hashStr w k)) Q E s := by
  obtain ⟨xs, ep, t⟩ := D
  obtain ⟨e, he, hq⟩ := (F.mem k).mp hk
  have size : xs.size < scanBound := by have e : xs.size = l.length := F.sz; omega
  obtain ⟨j, hj⟩ : ∃ j, List.findIdx? (fun e => (strKind P w).is k e.2) xs.toList = some j := by
    cases c : List.findIdx? (fun e => (strKind P w).is k e.2) xs.toList with
    | some j => exact ⟨j, rfl⟩
    | none =>
      have := List.findIdx?_eq_none_iff.mp c e he
      rw [hq] at this
      cases this
  have dat : (sObj T (xs, ep, t)).data = .set xs ep t := rfl
  unfold setAddHashed setAddHashedIn
  refine wpAny_holding (wpAny_bind (wpAny_setState_of at_ dat F.fit ?_)); dsimp only
  rw [byScan_of rfl size F.el]; simp only [↓reduceIte]
  unfold setAddByScan
  refine wpAny_bind (wpAny_bind (wpAny_rule (wpAny_bind (wpAny_setScan_of (knd := strKind P w) (k := k) (is_str k u) at_ dat F.fit F.el ?_))))
  rw [hj]; dsimp only
  exact wpAny_pure (wpAny_pure h)
end
end Pg
namespace Pg
open PySem PySem.Spec PyProof.Rows L2 PySem.Froz
/-- of some texts each once: in the order in which a set takes them -/
def onceL (acc : List Str) : List Str → List Str
  | [] => acc
  | x :: xs => onceL (if x ∈ acc then acc else x :: acc) xs
theorem once_mem : ∀ (xs acc : List Str) (k : Str), k ∈ onceL acc xs ↔ k ∈ acc ∨ k ∈ xs
  | [], acc, k => by show k ∈ acc ↔ _; simp
  | x :: xs, acc, k => by
    show k ∈ onceL (if x ∈ acc then acc else x :: acc) xs ↔ _
    rw [once_mem xs]
    by_cases h : x ∈ acc
    · rw [if_pos h, List.mem_cons]
      constructor
      · rintro (q | q)
        · exact .inl q
        · exact .inr (.inr q)
      · rintro (q | rfl | q)
        · exact .inl q
        · exact .inl h
        · exact .inr q
    · rw [if_neg h, List.mem_cons, List.mem_cons]
      constructor
      · rintro ((q | q) | q)
        · exact .inr (.inl q)
        · exact .inl q
        · exact .inr (.inr q)
      · rintro (q | q | q)
        · exact .inl (.inr q)
        · exact .inl (.inl q)
        · exact .inr q
theorem once_len : ∀ (xs acc : List Str), (onceL acc xs).length ≤ acc.length + xs.length
  | [], acc => Nat.le_refl _
  | x :: xs, acc => by
    have h := once_len xs (if x ∈ acc then acc else x :: acc)
    show (onceL (if x ∈ acc then acc else x :: acc) xs).length ≤ _
    have e : (if x ∈ acc then acc else x :: acc).length ≤ acc.length + 1 := by split <;> simp
    rw [List.length_cons]
    omega
/-- a set of these texts stands at a -/
def SetS (P : Program) (w : World) (h : Heap) (a : Addr) (l : List Str) : Prop := ∃ D, h.get? a = some (sObj "set" D) ∧ TxR P w D l
section
variable {P : Program} {w : World} {A : Around} {E : Value → Shared → Prop} {s : Shared}
/-- one text is put in, new or not -/
theorem put_txt {a : Addr} {l : List Str} {k : Str} {u : Tok} {Q : Bool → Shared → Prop} (R : SetS P w s.heap a l) (hb : l.length + 1 < scanBound)
    (h : ∀ (b : Bool) h', Heap.SameBut a s.heap h' → SetS P w h' a (if k ∈ l then l else k :: l) → Q b { s with heap := h' }) : wpAny (model P w) A (setAddHashed a (.str k u) (hashStr w k)) Q E s := by
  obtain ⟨D, at_, R⟩ := R
  by_cases hk : k ∈ l
  · refine add_old at_ R.ok hk (by omega) ?_
    exact h false s.heap (Heap.SameBut.refl _ _) (by rw [if_pos hk]; exact ⟨D, at_, R⟩)
  · refine add_x at_ R.ok hk hb ?_
    refine h true _ (Heap.SameBut.update s.heap a _) ?_
    rw [if_neg hk]
    exact ⟨_, get_upd _ at_ rfl, R.add u hk⟩
end
section
variable {prog : Program} {w : World} {A : Around} {R : Result → Shared → Prop} {I : Addr} {fp wr : List Addr} {G : Array GenState → Array GenState → Prop} {n : Nat} {P : Nat → Value → Prop} {St : Nat → Shared → Prop}
theorem SetS.moved {h h' : Heap} {a : Addr} {l : List Str} (R : SetS prog w h a l) (k : ∀ o, h.get? a = some o → h'.get? a = some o) : SetS prog w h' a l := by
  obtain ⟨D, at_, q⟩ := R
  exact ⟨D, k _ at_, q⟩
/-- the loop that puts the items of a walk in -/
theorem puts (W : WalksS prog w A.in1 I fp wr G n P St) {D : Addr} (out : D ∉ fp) (xs : List Str) (len : xs.length = n) (few : n + 1 < scanBound) (is : ∀ i v, P i v → ∃ t, v = .str (xs.getD i Str.empty) t) :
    ∀ (m i : Nat) (s : Shared) (acc : List Str), n - i = m → i ≤ n → acc.length ≤ i → St i s → SetS prog w s.heap D acc →
      (∀ s', Moved (D :: wr) G s s' → SetS prog w s'.heap D (onceL acc (xs.drop i)) → R (.ok (.ret .none)) s') →
      codeAny (model prog w) A (.builtin "set.update.loop" ⟨[.ref D, .ref I], []⟩) R s := by
  have offw : D ∉ wr := fun q => out (W.sub _ q)
  have up : ∀ b ∈ wr, b ∈ D :: wr := fun b q => List.mem_cons_of_mem _ q
  intro m
  induction m with
  | zero =>
    intro i s acc hm hi _ st S fin
    obtain rfl : i = n := by omega
    refine codeAny_builtin PyProof.Rows.F.entry_set_update_loop ?_
    rw [Around.under_plainId PyProof.Rows.F.plain_set_update_loop _]
    refine wpAny_bind (W.done s _ _ st fun s' mv => wpAny_pure (fin s' (mv.mono up) ?_))
    rw [List.drop_of_length_le (by omega)]
    exact S.moved fun o e => mv.heap D o offw e
  | succ m ih =>
    intro i s acc hm hi ha st S fin
    have lt : i < n := by omega
    refine codeAny_builtin PyProof.Rows.F.entry_set_update_loop ?_
    rw [Around.under_plainId PyProof.Rows.F.plain_set_update_loop _]
    refine wpAny_bind (W.item i s _ _ lt st fun v s' pv st' mv => ?_)
    obtain ⟨t, rfl⟩ := is i v pv
    have S' : SetS prog w s'.heap D acc := S.moved fun o e => mv.heap D o offw e
    show wpAny _ A.in1 (holding [Value.str (xs.getD i Str.empty) t] (setAdd D (.str (xs.getD i Str.empty) t)) >>= _) _ _ s'
    refine wpAny_bind (wpAny_holding ?_)
    unfold setAdd
    refine wpAny_holding (wpAny_bind ((PySem.strKind prog w).pyHash (k := xs.getD i Str.empty) (strKind_is _ _ _ _) ?_))
    refine put_txt (s := { s' with toks := s'.toks + 1 }) S' (by omega) fun b h' sb S2 => ?_
    have dr : xs.drop i = xs.getD i Str.empty :: xs.drop (i + 1) := by
      rw [List.drop_eq_getElem_cons (by omega), List.getD_eq_getElem?_getD, List.getElem?_eq_getElem (by omega)]
      rfl
    refine wpAny_pure ⟨plainId_quiet PyProof.Rows.F.plain_set_update_loop _, ih (i + 1) _ (if xs.getD i Str.empty ∈ acc then acc else xs.getD i Str.empty :: acc) (by omega) lt ?_ (W.frame _ s' _ _ st' (Nat.le_succ _) fun b hb o e => ?_) S2 fun s'' mv2 S3 => ?_⟩
    · split
      · omega
      · rw [List.length_cons]; omega
    · rw [sb.2 b fun z => out (z ▸ hb)]; exact e
    · refine fin s'' (Moved.trans W.gtrans ((mv.mono up).then_heap (Nat.le_succ _) fun b o hb e => ?_) mv2) ?_
      · rw [sb.2 b fun z => hb (z ▸ List.mem_cons_self)]; exact e
      · rw [dr]; exact S3
end
end Pg
namespace Pg
open PySem PySem.Spec PyProof.Rows L2 PySem.Froz
section
variable {prog : Program} {w : World} {A : Around} {E : Value → Shared → Prop} {s : Shared}
/-- an empty set as it is laid -/
abbrev set0 (w : World) : Obj := { cls := .type "set", dict := none, data := .set #[] 0 (.fresh 0 0 (!w.params.followText "set-order")) }
theorem code_new1 (x : Value) {Z : Value → Shared → Prop} (h : Z (.ref s.heap.objs.size) { s with heap := s.heap.push (set0 w) }) : codeAny (model prog w) A (.call (.builtin "set.__new__") ⟨[.type "set", x], []⟩) (wants Z E) s := by
  refine codeAny_of_tree ?_
  show wpAny _ A.in1 (do checkBuiltinCall "set.__new__" ⟨[.type "set", x], []⟩; again (.builtin "set.__new__" ⟨[.type "set", x], []⟩)) _ _ s
  refine wpAny_bind (wpAny_of_eq (PySem.F.newCall_set_1 x) (wpAny_pure ⟨plainId_quiet PySem.F.plain_set_new _, codeAny_builtin PySem.F.entry_set_new ?_⟩)); rw [Around.under_plainId PySem.F.plain_set_new _]
  unfold Builtin.«set.__new__» Builtin.Frozenset.newClass
  have _sub := sub_set_self
  obtain ⟨heap, gens, drawn, toks, os⟩ := s; dsimp only; wp_walk
  refine wpAny_askSetting (wpAny_pure ?_); dsimp only; simp only [newObj]
  exact wpAny_bind (wpAny_alloc (wpAny_pure (wpAny_pure h)))
theorem set0_ok {h : Heap} : SetS prog w (h.push (set0 w)) h.objs.size [] := by
  refine ⟨(#[], 0, .fresh 0 0 (!w.params.followText "set-order")), Heap.get?_push_size _ rfl, TxOk.nil (by rfl), ⟨[], rfl, List.Perm.refl _⟩, List.nodup_nil, List.Pairwise.nil, ?_⟩
  show _ ∨ (!w.params.followText "set-order") = true
  cases w.params.followText "set-order" with
  | true => exact .inl rfl
  | false => exact .inr rfl
theorem str_at : ∀ {vs : List Value} {xs : List Str}, StrsAre vs xs → ∀ (i : Nat) (v : Value), vs[i]? = some v → ∃ t, v = .str (xs.getD i Str.empty) t
  | _, _, .nil, i, v, h => by simp at h
  | _, _, .cons n t r, 0, v, h => by
    rw [List.getElem?_cons_zero] at h
    exact ⟨t, (Option.some.inj h).symm⟩
  | _, _, .cons n t r, i + 1, v, h => str_at r i v h
set_option maxHeartbeats 4000000 in
/-- set(xs), xs a list of texts -/
theorem call_set_txt {l : Addr} {items : Array Value} {xs : List Str} {Q : Value → Shared → Prop} (hh : A.handled = none) (hl : s.heap.IsList l items) (his : StrsAre items.toList xs) (few : xs.length + 1 < scanBound)
    (h : ∀ (h' : Heap) (tk : Nat), SetS prog w h' s.heap.objs.size (onceL [] xs) → (∀ b o, s.heap.get? b = some o → h'.get? b = some o) → Q (.ref s.heap.objs.size) { s with heap := h', toks := tk }) :
    wpAny (model prog w) A (call (.type "set") [.ref l]) Q E s := by
  obtain ⟨cc, tt, mro⟩ := PySem.F.called_set.mro
  have g1 := PySem.F.called_set.made; have g2 := PySem.F.called_set.sub
  refine wpAny_call (codeAny_of_tree (wpAny_pure ⟨Code.quiet_builtin _ (by decide +kernel), codeAny_builtin PySem.F.entry_type_call ?_⟩))
  rw [Around.under_plain (weight_type_call_type "set" [.ref l] []) rfl]
  have g3 := PySem.F.called_set.notType; have g4 := PySem.F.called_set.canCreate; have g5 := PySem.F.typeCall_set_1 (.ref l)
  repeat (any_goals (first | assumption | wp_step))
  refine codeAny_mono (code_new1 (prog := prog) (.ref l) (E := E) (Z := fun obj z => obj = .ref s.heap.objs.size ∧ z = { s with heap := s.heap.push (set0 w) }) ⟨rfl, rfl⟩) fun r z hr => ?_
  cases r with
  | error e => exact hr
  | ok fl =>
    cases fl with
    | ret obj =>
      obtain ⟨rfl, rfl⟩ := hr
      have at0 : (s.heap.push (set0 w)).get? s.heap.objs.size = some (set0 w) := Heap.get?_push_size _ rfl
      have ty : Shared.TypeIs { s with heap := s.heap.push (set0 w) } (.ref s.heap.objs.size) "set" := ⟨_, at0, rfl⟩
      have g6 := PySem.F.called_set.init.lookup; have g7 := PySem.F.called_set.init.bind (.ref s.heap.objs.size)
      repeat (any_goals (first | assumption | wp_step))
      refine codeAny_mono (codeAny_call_builtin (R := wants (fun r z => r = .none ∧ ∃ h' tk, z = { s with heap := h', toks := tk } ∧ SetS prog w h' s.heap.objs.size (onceL [] xs) ∧ (∀ b o, s.heap.get? b = some o → h'.get? b = some o)) E)
        PySem.F.called_set.init.plain PySem.F.entry_set_init (check_set_init_1 ty ?_)) fun r2 z2 hr2 => ?_
      · obtain ⟨⟨oc, od, odata, osl⟩, hol, hcl, nl, hdl⟩ := hl
        simp only at hcl hdl
        subst hcl hdl
        have hol2 : (s.heap.push (set0 w)).get? l = some { cls := .type "list", dict := od, data := .seq items nl, slots := osl } := Heap.get?_push_of_some _ hol
        have hl2 : (s.heap.push (set0 w)).IsList l items := ⟨_, hol2, rfl, nl, rfl⟩
        have q1 := PySem.F.sub_list_set; have q2 := PySem.F.sub_list_frozenset
        have q3 : (Value.type "list" == Value.type "dict") = false := by decide
        unfold Builtin.«set.__init__» noKeywords Builtin.Frozenset.updateFrom
        generalize hp : pyIter = pi
        wp_walk
        subst hp
        refine wpAny_pyIter_list hl2 (wpAny_bind (wpAny_runValue ?_))
        have lt : l < s.heap.objs.size := Heap.lt_size hol
        have handled : A.in1.in1.in1.handled = none := by simp [hh]
        have sz1 : (s.heap.push (set0 w)).objs.size = s.heap.objs.size + 1 := Heap.size_push _ _
        have ne : l ≠ (s.heap.push (set0 w)).objs.size := by rw [sz1]; exact Nat.ne_of_lt (Nat.lt_succ_of_lt lt)
        have out : s.heap.objs.size ∉ [(s.heap.push (set0 w)).objs.size, l] := by
          rw [sz1]
          intro m
          rcases List.mem_cons.mp m with m | m
          · exact absurd m (Nat.ne_of_lt (Nat.lt_succ_self _))
          · exact absurd (List.mem_singleton.mp m) (Nat.ne_of_gt lt)
        have len : xs.length = items.size := by rw [← StrsAre.len_eq his, Array.length_toList]
        have is : ∀ (i : Nat) (v : Value), items[i]? = some v → ∃ t, v = .str (xs.getD i Str.empty) t := fun i v hv => str_at his i v (by rw [Array.getElem?_toList]; exact hv)
        refine puts ((Walks.list handled _ l ne items).toS) out xs len (by rw [← len]; exact few) is (items.size - 0) 0 _ [] (by omega) (Nat.zero_le _) (Nat.le_refl _) ⟨⟨_, Heap.get?_push_size _ rfl, rfl, rfl⟩, hl2.push _⟩ (set0_ok.moved fun o e => Heap.get?_push_of_some _ e) ?_
        rintro ⟨h', g', d', tk', os'⟩ mv S
        obtain rfl : g' = s.gens := mv.gens
        obtain rfl : d' = s.drawn := mv.drawn
        obtain rfl : os' = s.os := mv.os
        refine wpAny_pure ?_
        refine wpAny_pure ⟨rfl, h', tk', rfl, S, fun b o e => ?_⟩
        have hb : b < s.heap.objs.size := Heap.lt_size e
        refine mv.heap b o (fun m => ?_) (Heap.get?_push_of_some _ (Heap.get?_push_of_some _ e))
        rcases List.mem_cons.mp m with m | m
        · exact absurd m (Nat.ne_of_lt hb)
        · have q := List.mem_singleton.mp m
          rw [sz1] at q
          exact absurd q (Nat.ne_of_lt (Nat.lt_succ_of_lt hb))
      · cases r2 with
        | error e => exact hr2
        | ok fl2 =>
          cases fl2 with
          | ret r =>
            obtain ⟨rfl, h', tk, rfl, a1, a2⟩ := hr2
            repeat (any_goals (first | assumption | wp_step))
            exact h _ _ a1 a2
          | _ => exact hr2.elim
    | _ => exact hr.elim
end
end Pg
namespace Pg
open PySem PySem.Spec PyProof.Rows L2 PySem.Froz
section
variable {prog : Program} {w : World} {A : Around} {E : Value → Shared → Prop} {s : Shared}
/-- the values of a set of texts, in some order, are texts -/
theorem vals_strs : ∀ {vs : List Value} {ps : List (Str × Tok)}, vs.Perm (ps.map fun p => Value.str p.1 p.2) → StrsAre vs (vs.map strOf) ∧ (vs.map strOf).Perm (ps.map Prod.fst) := fun {vs ps} h => by
  refine ⟨strsAre_map vs fun v m => ?_, ?_⟩
  · obtain ⟨p, _, rfl⟩ := List.mem_map.mp (h.mem_iff.mp m)
    exact ⟨p.1, p.2, rfl⟩
  · have q := h.map strOf
    rw [List.map_map] at q
    exact q.trans (List.Perm.of_eq rfl)
theorem zip_fst {α β : Type} : ∀ (l : List α) (us : List β), us.length = l.length → (l.zip us).map Prod.fst = l
  | [], _, _ => rfl
  | x :: l, [], h => by simp at h
  | x :: l, u :: us, h => by rw [List.zip_cons_cons, List.map_cons, zip_fst l us (by simpa using h)]
/-- sorted(a), a set of texts -/
theorem sorted_txt {a : Addr} {l : List Str} {Q : Value → Shared → Prop} (R : SetS prog w s.heap a l) (hh : A.handled = none) (few : l.length < 4000)
    (h : ∀ z p (out : Array Value) (n : Nat) (ys : List Str), (∀ b o, s.heap.get? b = some o → z.heap.get? b = some o) → z.gens = s.gens → z.os = s.os → s.heap.objs.size ≤ p → z.heap.get? p = some (seqObj "list" out n) →
      StrsAre out.toList ys → ys.Perm l → sortedS ys = true → Q (.ref p) z) : wpAny (model prog w) A (call (.builtin "sorted") [.ref a]) Q E s := by
  obtain ⟨⟨es, ep, t⟩, at_, R⟩ := R
  obtain ⟨us, hu, pm⟩ := R.all
  have sz : es.size = l.length := R.ok.sz
  have scan : es.size < scanBound := by rw [sz]; exact Nat.lt_of_lt_of_le few (by decide)
  refine Calls.call_function_entry kind_sorted plain_sorted entry_sorted (args_sorted1 _) ?_
  unfold Builtin.«sorted»
  refine wpAny_bind (m := checkCount "sorted" 1 1 _) (wpAny_pure (wpAny_bind (collect_set (A := A.in1) hh ⟨_, at_, rfl, rfl⟩ R.ok.fit scan R.ris R.led fun z vs k1 hz g1 o1 pv => ?_)))
  have pv2 : vs.Perm ((l.zip us).map fun p => Value.str p.1 p.2) := by
    have q := pv.trans (pm.map (·.2))
    rw [List.map_map] at q
    exact q
  obtain ⟨st, ps⟩ := vals_strs pv2
  rw [zip_fst l us hu] at ps
  have vlen : vs.length = l.length := by
    have := ps.length_eq
    rwa [List.length_map] at this
  refine wpAny_bind (wpAny_newList ?_ (by rw [vlen, sizeLine_eq]; omega))
  have new : (z.heap.push (seqObj "list" vs.toArray 0)).get? z.heap.objs.size = some (seqObj "list" vs.toArray 0) := Heap.get?_push_size _ rfl
  refine wpAny_bind (wpAny_holding (wpAny_call_entry slot_list_sort ⟨_, new, rfl⟩ entry_list_sort (list_sort_treeKAny strKind_oneLt new st.keysOf (fun v1 v2 rest e => keyKind_strs (by rw [← e]; exact st)) (by rw [vlen, sizeLine_eq]; omega) fun st' hp hs => ?_) (args_list_sort _)))
  obtain ⟨ys, y1, y2, y3⟩ := sorted_out_str st hp hs
  obtain ⟨n, hn⟩ := sortedHeap_at (vs := vs) (out := (arrOf st').map (·.2)) new
  refine ⟨_, rfl, wpAny_pure ⟨_, rfl, h _ z.heap.objs.size _ n ys (fun b o e => ?_) g1 o1 hz hn y1 (y2.trans ps) y3⟩⟩
  have q := k1 b o e
  have lt := Heap.lt_size q
  show (sortedHeap (z.heap.push (seqObj "list" vs.toArray 0)) z.heap.objs.size vs _).get? b = some o
  rw [sortedHeap_old (Nat.ne_of_lt lt) (by rw [size_push']; exact Nat.lt_succ_of_lt lt)]
  exact Heap.get?_push_of_some _ q
end
end Pg
namespace Pg
open PySem PySem.Spec PyProof.Rows L2
/-! ### defs that are called where no text is being written of anything -/
structure FnG (P : Program) (w : World) (K : PySem.W.Frag) (mg : Str → Option Value) (base : Heap) (k : Nat) (f : Addr) (fd : FuncData) (ps : List Str) (sp : Sp) : Prop where
  ln : ∀ vs H Q E, sp vs H Q E → vs.length = ps.length
  go : ∀ (A : Around), A.guards = some [] → Room k A → ∀ (outer : List Env) (s : Shared) (H : Hp), Env0 P w K mg base A outer s H →
    ∀ (args : Args) (us : List Value) (vs : List V) (Q : VK) (E : XK), BindsTo s fd args (ps.zip us) → Vals vs us → sp vs H Q E →
    codeAny (model P w) A (.call (.ref f) args) (CR CX0 outer P w H s Q E) s
section
variable {P : Program} {w : World} {K : PySem.W.Frag} {mg : Str → Option Value} {base : Heap}
theorem FnG.of {k : Nat} {f : Addr} {fd : FuncData} {ps : List Str} {sp : Sp} (F : FnOk P w K mg base CX0 k f fd ps sp) : FnG P w K mg base k f fd ps sp :=
  ⟨F.len, fun A _ r outer s H e args us vs Q E b v h => F.run A outer s H args us vs Q E r e b v h⟩
theorem FnG.mono {j k : Nat} {f : Addr} {fd : FuncData} {ps : List Str} {sp : Sp} (F : FnG P w K mg base j f fd ps sp) (h : j ≤ k) : FnG P w K mg base k f fd ps sp :=
  ⟨F.ln, fun A g r => F.go A g (r.mono h)⟩
/-- a def by its body -/
theorem Df.g {x : Str} {st : Stmt} {f : Addr} {fd : FuncData} {N ps : List Str} {k : Nat} {sp : Sp} (D : Df K mg x st ps f fd) (S : FnScope N ps (defScope st)) (len : ∀ vs H Q E, sp vs H Q E → vs.length = ps.length)
    (hb : ∀ (cdv : Value) (A : Around) (outer : List Env) (s : Shared) (H : Hp) (vs : List V) (Q : VK) (E : XK), (A.deeper (envOfC x (defScope st) s.heap.objs.size f cdv)).guards = some [] →
      Room k (A.deeper (envOfC x (defScope st) s.heap.objs.size f cdv)) → sp vs H Q E →
      ∃ t, PSs (cxOf CX0 P w K mg base N x (defScope st) f cdv A outer s H E).nox (defBody st) t ∧ t { nx := fun _ H' => Q .non H', rt := Q } (start N vs) H) : FnG P w K mg base (k + 1) f fd ps sp := by
  obtain ⟨oc, od, kV, doc, pm, an, cdv, ct, osl, rfl, lk, hcd⟩ := D.fn.ex
  refine ⟨len, fun A g hr outer s H e0 args us vs Q E bt rv hsp => ?_⟩
  have hlen := len _ _ _ _ hsp
  have KX : K.In s.heap := e0.mod.kin.keeps fun b o e => (e0.bs b o e).1
  have lim : s.heap.NoLimit := e0.mod.nolimit.keeps fun b o e => (e0.bs b o e).1
  refine codeAny_call_function hr.depth (KX _ _ lk) rfl S.co S.gen rfl (PySem.W.codeRec_of KX hcd) (bt _ _ _ _ ?_)
  refine wpAny_newFunctionEnv_cells S.kind (fun y hy => ?_) fun env he s1 x1 => ?_
  · have hp : y.1 ∈ ps := (List.of_mem_zip (show (y.1, y.2) ∈ ps.zip us from hy)).1
    refine (S.par y.1 hp).imp id fun q => ⟨q, ?_⟩
    exact PySem.W.cellsFrom_some _ _ _ (.inl q)
  subst he
  refine ⟨lim.keeps x1.toInCall.keep, codeAny_func ?_⟩
  obtain ⟨t, ht, hq⟩ := hb cdv A outer s H vs Q E (by rw [← g]; rfl) (hr.deeper _) hsp
  refine wpAny_mono (ht.nox.run [] s1 (start N vs) H _ (inv_start S hr.hd e0 hlen rv x1) hq) (fun fl s' hs => ?_) fun e s' hs => hs
  cases fl with
  | ret u =>
    obtain ⟨v, σ', H', J, rv', q⟩ := hs
    exact ⟨v, H', J.os, J.bare, J.base, J.hok, rv', q⟩
  | next =>
    obtain ⟨σ', H', J, q⟩ := hs
    exact ⟨.non, H', J.os, J.bare, J.base, J.hok, rfl, q⟩
  | brk =>
    obtain ⟨_, _, _, q⟩ := hs
    exact q.elim
  | cont =>
    obtain ⟨_, _, _, q⟩ := hs
    exact q.elim
end
/-- a def of the text with such a promise -/
structure ClG (P : Program) (w : World) (K : PySem.W.Frag) (mg : Str → Option Value) (base : Heap) (k : Nat) (x : Str) (st : Stmt) (ps : List Str) (sp : Sp) : Prop where
  ex : ∃ f fd, Df K mg x st ps f fd ∧ FnG P w K mg base k f fd ps sp
section
variable {X : Cx} {j k : Nat} {st : Stmt} {f : Addr} {fd : FuncData} {ps : List Str} {sp : Sp} {x : Str} {p pos : Pos} {e : Expr} {es : List Expr} {t : TA}
theorem run_g {pins : List (Addr × Obj)} {σ : L2.St} {H : Hp} {s : Shared} {Q : VK} {us : List Value} {vs : List V} (F : FnG X.prog X.w X.K X.mg X.base k f fd ps sp) (hG : X.A.guards = some []) (hr : Room k X.A) (hb : Binds X.K fd ps [])
    (I : Inv X pins σ H s) (r : Vals vs us) (h : sp vs H Q E0) : wpAny (model X.prog X.w) X.A (call (.ref f) us) (EP X pins σ Q) X.xe s := by
  have hl : (us ++ []).length = ps.length := by rw [List.append_nil, ← r.length]; exact F.ln _ _ _ _ h
  have bt := hb s us I.kIn hl
  rw [List.append_nil] at bt
  refine wpAny_call (codeAny_mono (F.go X.A hG hr X.stack s H I.env0 ⟨us, []⟩ us vs Q E0 bt r h) fun r s' hq => ?_)
  cases r with
  | error e => exact (pass0 (X := X) pins σ H s e s' I hq)
  | ok fl =>
    cases fl with
    | ret u => exact I.after hq
    | next => exact hq.elim
    | brk => exact hq.elim
    | cont => exact hq.elim
theorem pe_clG (c : ClG X.prog X.w X.K X.mg X.base k x st ps sp) (hG : X.A.guards = some []) (hr : Room j X.A) (hk : k ≤ j) (ha : PA X (e :: es) t) (hg : Gl X x := by rfl) (hdb : (x == ("__debug__" : Str)) = false := by decide)
    (he : starEach (e :: es) X.env = (false, eval e X.env) :: starEach es X.env := by rfl) (hpl : (backTo pos (starEach es X.env)).any (·.1) = false := by rfl) :
    PE X (.Call (.Name x p) (e :: es) [] pos) (tCl sp t) := by
  obtain ⟨f, fd, D, F⟩ := c.ex
  refine ⟨fun pins s σ H Q I h => ?_⟩
  refine wpAny_Call_Name_kw (ld_glob I hg D.at_ ?_ hdb)
  refine PySem.W.callWith_K (h₀ := X.base) I.ok.mod.kin D.fn.kp (thn (ha.run pos pins s σ H _ I h) fun us s1 ⟨vs, H1, I1, r, q⟩ => ⟨I1.kIn, ?_⟩) he hpl
  exact run_g (F.mono hk) hG hr D.bd I1 r q
end
end Pg
namespace Pg
open PySem PySem.Spec PyProof.Rows L2
/-! ### the end of a law, from a promise that is kept where no text is being written -/
section
variable {P : Program} {w : World} {K : PySem.W.Frag} {mg mb : Str → Option Value} {h : Heap} {a : Addr} {ob : Obj} {xs : List V}
/-- what is known of the store at first: the script, where it is no object of the module -/
def H0 (K : PySem.W.Frag) (a : Addr) (ob : Obj) (xs : List V) : Hp := fun b => if b = a ∧ K.lookup a = none then some (.frz ob (.lst xs)) else none
theorem h0_cases (b : Addr) : H0 K a ob xs b = none ∨ (b = a ∧ K.lookup a = none ∧ H0 K a ob xs b = some (.frz ob (.lst xs))) := by
  by_cases c : b = a ∧ K.lookup a = none
  · exact .inr ⟨c.1, c.2, if_pos c⟩
  · exact .inl (if_neg c)
theorem h0_none {b : Addr} (n : b ≠ a) : H0 K a ob xs b = none := if_neg fun c => n c.1
theorem h0_base {b : Addr} {o : Obj} (e : h.get? b = some o) (n : H0 K a ob xs b = none) : (hidT h (H0 K a ob xs)).get? b = some o := hidT_get e n
theorem h0_ns {b : Addr} {m : Str → Option Value} {l : List Value} {n : Nat} (ha : h.get? a = some { cls := .type "list", data := .seq l.toArray n }) (q : h.Ns b m) : (hidT h (H0 K a ob xs)).Ns b m := by
  obtain ⟨o, es, ep, e, d, r⟩ := q
  refine ⟨o, es, ep, h0_base e (h0_none fun z => ?_), d, r⟩
  subst z
  rw [ha] at e
  cases e
  exact Data.noConfusion d
theorem law_g {k : Nat} {fa : Addr} {fd : FuncData} {x : Str} {sp : Sp} {s₁ : Shared} {vs : List Value} {ns : List Int}
    (KX : K.In s₁.heap) (hns : s₁.heap.Ns mainGlobals mg) (hb : s₁.heap.Ns builtinsNs mb) (hbb : ∀ x : Str, x ≠ "__name__" → mb x = bootBuiltins x) (hlim : s₁.heap.NoLimit) (hg : s₁.gens = #[])
    (ha : s₁.heap.get? a = some { cls := .type "list", data := .seq vs.toArray }) (hi : IntsAre vs ns) (hl : ns.length ≤ sizeLine) (hr : Room k callerA)
    (F : ∀ base : Heap, K.In base → base.Ns mainGlobals mg → FnG P w K mg base k fa fd [x] sp) (hbind : ∀ (s : Shared) (u : Value), BindsTo s fd ⟨[u], []⟩ [(x, u)])
    (hsp : ∀ H : Hp, L2.Only H → SqL K H a (ns.map V.int) → sp [.ref a] H (fun v _ => v = .bl true) fun _ _ _ => False) :
    codeAny (model P w) callerA (.call (.ref fa) ⟨[.ref a], []⟩) (fun r s' => r = .ok (.ret (.bool true)) ∧ OldK s₁.heap s'.heap ∧ s'.os = s₁.os ∧ AllBare s'.gens) s₁ := by
  have rv := vals_ints hi
  have hlen : (ns.map V.int).length ≤ sizeLine := by rw [List.length_map]; exact hl
  have hK : K.In (hidT s₁.heap (H0 K a { cls := .type "list", data := .seq vs.toArray } (ns.map V.int))) := fun b o e => h0_base (KX b o e) (by
    rcases h0_cases (K := K) (a := a) (ob := { cls := .type "list", data := .seq vs.toArray }) (xs := ns.map V.int) b with q | ⟨rfl, q, _⟩
    · exact q
    · rw [q] at e
      cases e)
  have hM : Mod K mg (hidT s₁.heap (H0 K a { cls := .type "list", data := .seq vs.toArray } (ns.map V.int))) := by
    obtain ⟨mc, l1, l2⟩ := hlim
    exact ⟨hK, h0_ns ha hns, ⟨mb, h0_ns ha hb, hbb⟩, ⟨mc, h0_ns ha l1, l2⟩⟩
  have hok : HOk P w (H0 K a { cls := .type "list", data := .seq vs.toArray } (ns.map V.int)) s₁.heap := fun b u z => by
    rcases h0_cases (K := K) (a := a) (ob := { cls := .type "list", data := .seq vs.toArray }) (xs := ns.map V.int) b with q | ⟨rfl, _, q⟩
    · rw [q] at z
      cases z
    · rw [q] at z
      cases z
      exact ⟨ha, hlen, vs, _, rv, ha⟩
  have e0 : Env0 P w K mg (hidT s₁.heap (H0 K a { cls := .type "list", data := .seq vs.toArray } (ns.map V.int))) callerA [] s₁ (H0 K a { cls := .type "list", data := .seq vs.toArray } (ns.map V.int)) :=
    ⟨rfl, hM, fun b o e => of_hidT e, Nat.le_of_eq (hidT_size _ _), trivial, fun b z => absurd (show b ∈ ([] : List Addr) from z) (by simp), hok, .of_eq hg⟩
  have hO : L2.Only (H0 K a { cls := .type "list", data := .seq vs.toArray } (ns.map V.int)) := fun b => by
    rcases h0_cases (K := K) (a := a) (ob := { cls := .type "list", data := .seq vs.toArray }) (xs := ns.map V.int) b with q | ⟨_, _, q⟩
    · exact .inl q
    · exact .inr ⟨_, _, q⟩
  have hS : SqL K (H0 K a { cls := .type "list", data := .seq vs.toArray } (ns.map V.int)) a (ns.map V.int) := by
    cases hk : K.lookup a with
    | none => exact .inl (.inr ⟨_, if_pos ⟨rfl, hk⟩⟩)
    | some o =>
      have e := KX a o hk
      rw [ha] at e
      cases e
      exact .inr ⟨_, vs.toArray, _, hk, rfl, rfl, rfl, by rw [List.size_toArray, hi.length]; exact hl, by simpa using rv⟩
  refine codeAny_mono ((F _ hK (h0_ns ha hns)).go callerA rfl hr [] s₁ _ e0 ⟨[.ref a], []⟩ [.ref a] [.ref a] _ _ (hbind s₁ (.ref a)) (.cons rfl .nil) (hsp _ hO hS)) fun r s' q => ?_
  cases r with
  | error e => exact q.elim
  | ok fl =>
    cases fl with
    | next => exact q.elim
    | brk => exact q.elim
    | cont => exact q.elim
    | ret u =>
      obtain ⟨v, H', os, bare, un, hok', r', q⟩ := q
      have q' : v = .bl true := q
      subst q'
      obtain rfl : u = Value.bool true := r'
      refine ⟨rfl, OldK.of_keep fun b o e => ?_, os, bare⟩
      rcases h0_cases (K := K) (a := a) (ob := { cls := .type "list", data := .seq vs.toArray }) (xs := ns.map V.int) b with z | ⟨_, _, z⟩
      · exact un.keep b o e z (fun z => absurd (show b ∈ ([] : List Addr) from z) (by simp)) (by simp)
      · obtain ⟨e1, _⟩ := hok b _ z
        obtain ⟨e2, _⟩ := hok' b _ (un.frzs b _ _ z)
        rw [e] at e1
        cases e1
        exact e2
end
/-- the goal that the end of a law leaves -/
theorem walk_g {l : PySem.W.OpenLaw} {n k : Nat} {q : Program} {loose : List Str} {XP : (Str → Option Value) → Heap → Prop} {YP : World → Heap → Prop} {d : DefRec} {K : Params → PySem.W.Frag} {sp : World → Sp} {x : Str}
    (hn : l.most = some n) (hn2 : n ≤ sizeLine) (hdf : d.params.defaults = []) (hr : Room k callerA) (hY : ∀ (w : World) (h : Heap), YP w h → (K w.params).In h)
    (F : ∀ (w : World) (mg : Str → Option Value) (fa : Addr) (h : Heap), (K w.params).In h → h.Ns mainGlobals mg → mg d.name = some (.ref fa) →
      ∃ fd : FuncData, (∀ (s : Shared) (u : Value), BindsTo s fd ⟨[u], []⟩ [(x, u)]) ∧ ∀ base : Heap, (K w.params).In base → base.Ns mainGlobals mg → FnG l.prog w (K w.params) mg base k fa fd [x] (sp w))
    (hsp : ∀ (w : World) (H : Hp) (a : Addr) (ns : List Int), ns.length ≤ n → L2.Only H → SqL (K w.params) H a (ns.map V.int) → sp w [.ref a] H (fun v _ => v = .bl true) fun _ _ _ => False) :
    PySem.W.WalkO q loose XP YP l.row.toRowW d [] (fun f vs => PySem.call f vs) :=
  Att.attach_call hn hdf fun w _ s₁ mg _ fa _ _ _ _ a _ ns G Y _ _ _ hmg hobj hints hlen hg => by
    obtain ⟨fd, hb, hF⟩ := F w mg fa _ (hY w _ Y) G.T.g hmg
    exact law_g (hY w _ Y) G.T.g G.T.b G.T.builtins G.T.nolimit hg hobj hints (Nat.le_trans hlen hn2) hr hF hb fun H hO hS => hsp w H a ns hlen hO hS
end Pg
namespace Pg
open PySem PySem.Spec PyProof.Rows L2
/-! ### repr of data -/
mutual
theorem dp_plain {K : PySem.W.Frag} {H : Hp} : ∀ (d : PyData) {v : V}, Dp K H v d → d.hasDict = false
  | .none, _, _ => by simp only [PyData.hasDict]
  | .bool _, _, _ => by simp only [PyData.hasDict]
  | .int _, _, _ => by simp only [PyData.hasDict]
  | .str _, _, _ => by simp only [PyData.hasDict]
  | .list ds, _, h => by
    cases h with
    | lst _ q =>
      simp only [PyData.hasDict]
      exact dps_plain ds q
  | .tuple ds, _, h => by
    cases h with
    | tup _ q =>
      simp only [PyData.hasDict]
      exact dps_plain ds q
  | .dict _, _, h => by cases h
theorem dps_plain {K : PySem.W.Frag} {H : Hp} : ∀ (ds : List PyData) {vs : List V}, DpAll K H vs ds → PyData.hasDictAll ds = false
  | [], _, _ => by simp only [PyData.hasDictAll]
  | d :: ds, _, h => by
    cases h with
    | cons a b => simp only [PyData.hasDictAll, dp_plain d a, dps_plain ds b, Bool.or_self]
end
def rRepr (K : PySem.W.Frag) : List V → Hp → VK → Prop := fun xs H Q => ∃ v d, xs = [v] ∧ Dp K H v d ∧ d.showable = true ∧ d.depth ≤ 100 ∧ d.shown.length ≤ sizeLine ∧ Q (.str d.shown) H
theorem call_repr {X : Cx} {j : Nat} (hG : X.A.guards = some []) (hr : Room j X.A) : CallR X (.builtin "repr") (rRepr X.K) := by
  intro pins s σ H xs us Q I r h
  obtain ⟨v, d, rfl, dp, sh, dd, sz, q⟩ := h
  obtain ⟨u, rfl, rv⟩ := vals1 r
  have hu : X.A.units + (d.depth + 1) < cLine := by have := hr.un; omega
  obtain ⟨as, rd⟩ := Dp.reads I d v u dp rv
  have nd : d.hasDict = true → sysModules ∉ as := PyData.noDict_hsm (dp_plain d dp)
  have deep : ∀ a, u = .ref a → wpAny (model X.prog X.w) X.A (call (.builtin "repr") [u]) (EP X pins σ Q) X.xe s := fun a e => by
    subst e
    exact repr_of_reads' rd sh nd hG hu (fun _ _ e => e) (fun h' t tk k => ⟨.str d.shown, H, I.kept k, ⟨t, rfl⟩, q⟩) sz
  cases rd with
  | none => exact PySem.P.repr_of_none ⟨.str _, H, I.tok _, ⟨_, rfl⟩, by simpa only [PyData.shown] using q⟩
  | bool b => exact PySem.P.repr_of_bool ⟨.str _, H, I.tok _, ⟨_, rfl⟩, by simpa only [PyData.shown] using q⟩
  | int i t => exact PySem.P.repr_of_int (by simpa [PyData.showable] using sh) ⟨.str _, H, I.tok _, ⟨_, rfl⟩, by simpa only [PyData.shown] using q⟩
  | str x t => exact PySem.P.repr_of_str ⟨.str _, H, I.tok _, ⟨_, rfl⟩, by simpa only [PyData.shown] using q⟩ (by simpa only [PyData.shown] using sz)
  | list _ _ _ _ => exact deep _ rfl
  | tuple _ _ _ _ => exact deep _ rfl
  | dict _ _ _ _ _ => exact deep _ rfl
-- a bound for the signs of data whose texts are short: 4 more for every part, 122 for a text
mutual
def dW : PyData → Nat
  | .none => 4
  | .bool _ => 5
  | .int _ => 30
  | .str _ => 122
  | .list ds => dWs ds + 4
  | .tuple ds => dWs ds + 4
  | .dict _ => 0
def dWs : List PyData → Nat
  | [] => 0
  | d :: ds => dW d + 2 + dWs ds
end
-- no ints, texts of 12 letters at most
mutual
inductive Neat : PyData → Prop
  | non : Neat .none
  | bl (b : Bool) : Neat (.bool b)
  | str {x : Str} (h : x.length ≤ 12) (c : ∀ n ∈ x.cps.toList, n < 16 ^ 8) : Neat (.str x)
  | lst {ds : List PyData} : Neats ds → Neat (.list ds)
  | tup {ds : List PyData} : Neats ds → Neat (.tuple ds)
inductive Neats : List PyData → Prop
  | nil : Neats []
  | cons {d : PyData} {ds : List PyData} : Neat d → Neats ds → Neats (d :: ds)
end
mutual
theorem neat_sh : ∀ (d : PyData), Neat d → d.showable = true
  | .none, _ => by simp only [PyData.showable]
  | .bool _, _ => by simp only [PyData.showable]
  | .str _, _ => by simp only [PyData.showable]
  | .int _, h => by cases h
  | .list ds, .lst q => by
    simp only [PyData.showable]
    exact neats_sh ds q
  | .tuple ds, .tup q => by
    simp only [PyData.showable]
    exact neats_sh ds q
  | .dict _, h => by cases h
theorem neats_sh : ∀ (ds : List PyData), Neats ds → PyData.showableAll ds = true
  | [], _ => by simp only [PyData.showableAll]
  | d :: ds, .cons a b => by simp only [PyData.showableAll, neat_sh d a, neats_sh ds b, Bool.and_self]
end
theorem textFrom_le : ∀ (ts : List Str) (k : Nat) (acc : Str), (textFrom k acc ts).length ≤ acc.length + (ts.map fun t => t.length + 2).sum
  | [], k, acc => by
    show acc.length ≤ _
    simp
  | t :: ts, k, acc => by
    have ih := textFrom_le ts (k + 1) (acc ++ (if k > 0 then ", " else "" : String) ++ t)
    have e : (acc ++ (if k > 0 then ", " else "" : String) ++ t).length ≤ acc.length + 2 + t.length := by
      rw [strLen_append, strLen_append]
      by_cases c : k > 0
      · rw [if_pos c]
        have : (Str.ofString ", ").length = 2 := rfl
        omega
      · rw [if_neg c]
        have : (Str.ofString "").length = 0 := rfl
        omega
    rw [List.map_cons, List.sum_cons]
    show (textFrom (k + 1) (acc ++ (if k > 0 then ", " else "" : String) ++ t) ts).length ≤ _
    omega
theorem piled_sum : ∀ ts : List Str, piled ts = (ts.map fun t => t.length + 2).sum
  | [] => rfl
  | t :: ts => by simp [piled, piled_sum ts]
theorem tupleText_le (ts : List Str) : (tupleText ts).length ≤ (ts.map fun t => t.length + 2).sum + 4 := by
  have e1 : (Str.ofString "(").length = 1 := rfl
  have e2 : (Str.ofString (if ts.length == 1 then ",)" else ")")).length ≤ 2 := by split <;> decide
  have e3 : (Str.join (Str.ofString ", ") ts).length ≤ (ts.map fun t => t.length + 2).sum := by
    cases ts with
    | nil => exact Nat.zero_le _
    | cons t ts =>
      have q := join_length_add (t :: ts) (by simp)
      rw [piled_sum] at q
      omega
  unfold tupleText
  rw [strLen_append, strLen_append]
  omega
theorem listText_le (ts : List Str) : (listText ts).length ≤ (ts.map fun t => t.length + 2).sum + 4 := by
  have e1 : (Str.ofString "[").length = 1 := rfl
  have e2 : (Str.ofString "]").length = 1 := rfl
  have q := textFrom_le ts 0 (Str.ofString "[")
  show (textFrom 0 "[" ts ++ "]").length ≤ _
  rw [strLen_append]
  omega
mutual
theorem neat_le : ∀ (d : PyData), Neat d → d.shown.length ≤ dW d
  | .none, _ => by
    simp only [PyData.shown, dW]
    decide
  | .bool b, _ => by
    cases b <;> simp only [PyData.shown, dW] <;> decide
  | .str x, .str h c => by
    simp only [PyData.shown, dW]
    have := StrLaws.reprText_len x c
    omega
  | .int _, h => by cases h
  | .list ds, .lst q => by
    simp only [PyData.shown, dW]
    have a := listText_le (PyData.shownAll ds)
    have b := neats_le ds q
    omega
  | .tuple ds, .tup q => by
    simp only [PyData.shown, dW]
    have a := tupleText_le (PyData.shownAll ds)
    have b := neats_le ds q
    omega
  | .dict _, h => by cases h
theorem neats_le : ∀ (ds : List PyData), Neats ds → ((PyData.shownAll ds).map fun t => t.length + 2).sum ≤ dWs ds
  | [], _ => by
    simp only [PyData.shownAll, dWs]
    decide
  | d :: ds, .cons a b => by
    have p := neat_le d a
    have q := neats_le ds b
    simp only [PyData.shownAll, dWs, List.map_cons, List.sum_cons]
    omega
end
/-- repr of data with short texts and no ints -/
def rNeat (K : PySem.W.Frag) : List V → Hp → VK → Prop := fun xs H Q => ∃ v d, xs = [v] ∧ Dp K H v d ∧ Neat d ∧ d.depth ≤ 100 ∧ dW d ≤ 1000000 ∧ Q (.str d.shown) H
theorem call_repr_neat {X : Cx} {j : Nat} (hG : X.A.guards = some []) (hr : Room j X.A) : CallR X (.builtin "repr") (rNeat X.K) := fun pins s σ H xs us Q I r h => by
  obtain ⟨v, d, e, dp, n, dd, sz, q⟩ := h
  exact call_repr hG hr pins s σ H xs us Q I r ⟨v, d, e, dp, neat_sh d n, dd, Nat.le_trans (neat_le d n) (Nat.le_trans sz (by decide)), q⟩
end Pg
namespace Pg
open PySem PySem.Spec PyProof.Rows L2
/-! ### sorted(set(xs)), texts -/
theorem once_nodup : ∀ (xs acc : List Str), acc.Nodup → (onceL acc xs).Nodup
  | [], _, h => h
  | x :: xs, acc, h => by
    show (onceL (if x ∈ acc then acc else x :: acc) xs).Nodup
    refine once_nodup xs _ ?_
    by_cases c : x ∈ acc
    · rw [if_pos c]
      exact h
    · rw [if_neg c]
      exact List.nodup_cons.mpr ⟨c, h⟩
theorem txt_lt_of {a b : List Nat} (n : ¬ b < a) (d : a ≠ b) : a < b := by
  by_cases h : a < b
  · exact h
  · exact absurd (List.le_antisymm (List.not_lt.mp n) (List.not_lt.mp h)) d
theorem rising_pw : ∀ (zs : List (List Nat)) (p : List Nat), (p :: zs).Nodup → risingS (tx p) (zs.map tx) = true → (p :: zs).Pairwise (· < ·)
  | [], p, _, _ => List.pairwise_singleton _ _
  | z :: zs, p, nd, h => by
    have h' : (!ltCps z p && risingS (tx z) (zs.map tx)) = true := by simpa [risingS] using h
    rw [ltCps_eq] at h'
    obtain ⟨h1, h2⟩ := Bool.and_eq_true_iff.mp h'
    obtain ⟨n1, n2⟩ := List.nodup_cons.mp nd
    have ih := rising_pw zs z n2 h2
    have pz : p < z := txt_lt_of (by simpa using h1) fun e => n1 (by rw [e]; exact List.mem_cons_self)
    refine List.pairwise_cons.mpr ⟨fun y m => ?_, ih⟩
    rcases List.mem_cons.mp m with rfl | m
    · exact pz
    · exact List.lt_trans pz ((List.pairwise_cons.mp ih).1 y m)
theorem sorted_pw {ls : List (List Nat)} {ys : List Str} (pm : ys.Perm (onceL [] (ls.map tx))) (so : sortedS ys = true) : ∃ zs : List (List Nat), ys = zs.map tx ∧ zs.Pairwise (· < ·) ∧ (∀ l, l ∈ zs ↔ l ∈ ls) ∧ zs.length ≤ ls.length := by
  have e : ys = (ys.map fun s => s.cps.toList).map tx := by
    rw [List.map_map]
    conv => lhs; rw [← List.map_id ys]
    rfl
  have nd : ys.Nodup := pm.nodup_iff.mpr (once_nodup _ _ List.nodup_nil)
  have mem : ∀ s, s ∈ ys ↔ s ∈ ls.map tx := fun s => by
    rw [pm.mem_iff, once_mem]
    simp
  refine ⟨ys.map fun s => s.cps.toList, e, ?_, fun l => ?_, ?_⟩
  · have nd2 : (ys.map fun s => s.cps.toList).Nodup := by
      rw [e] at nd
      exact List.Pairwise.of_map tx (fun a b h e => h (by rw [e])) nd
    revert nd2
    rw [e] at so
    generalize (ys.map fun s => s.cps.toList) = zs at so
    intro nd2
    cases zs with
    | nil => exact List.Pairwise.nil
    | cons z zs => exact rising_pw zs z nd2 so
  · constructor
    · intro m
      obtain ⟨s, m1, rfl⟩ := List.mem_map.mp m
      obtain ⟨l, m2, rfl⟩ := List.mem_map.mp ((mem s).mp m1)
      simpa using m2
    · intro m
      exact List.mem_map.mpr ⟨tx l, (mem _).mpr (List.mem_map.mpr ⟨l, m, rfl⟩), by simp⟩
  · rw [List.length_map, pm.length_eq]
    have := once_len (ls.map tx) []
    simpa using this
/-- sorted(set(xs)): xs texts, under 64 of them; strictly ascending -/
def tSS (K : PySem.W.Frag) (te : TE) : TE := fun σ H Q => te σ H fun v H1 => ∃ (a : Addr) (ls : List (List Nat)), v = .ref a ∧ SqL K H1 a (ls.map Tx) ∧ ls.length < 4000 ∧
  ∀ (zs : List (List Nat)) (p : Addr), zs.Pairwise (· < ·) → (∀ l, l ∈ zs ↔ l ∈ ls) → zs.length ≤ ls.length → H1 p = none → Q (.ref p) (upd H1 p (.lst (zs.map Tx)))
theorem pe_sortset {X : Cx} {e : Expr} {te : TE} {p p2 pos pos2 : Pos} (hh : X.A.handled = none) (g1 : Gl X "sorted") (m1 : X.mg "sorted" = none) (g2 : Gl X "set") (m2 : X.mg "set" = none) (he : PE X e te)
    (hs : starEach [e] X.env = (false, eval e X.env) :: starEach [] X.env := by rfl)
    (hs2 : starEach [Expr.Call (.Name "set" p2) [e] [] pos2] X.env = (false, eval (Expr.Call (.Name "set" p2) [e] [] pos2) X.env) :: starEach [] X.env := by rfl) :
    PE X (.Call (.Name "sorted" p) [.Call (.Name "set" p2) [e] [] pos2] [] pos) (tSS X.K te) := by
  refine ⟨fun pins s σ H Q I h => ?_⟩
  refine wpAny_Call_Name_kw (ld_blt I g1 m1 (by rfl) ?_ (by decide) (by decide))
  refine PyProof.Rows.callWith_builtin1 ?_ hs2 (by rfl)
  rw [hs2]
  show wpAny _ _ (spliced ((false, eval (Expr.Call (.Name "set" p2) [e] [] pos2) X.env) :: backTo pos (starEach [] X.env))) _ _ s
  refine Calls.spliced_cons ?_
  refine wpAny_Call_Name_kw (ld_blt I g2 m2 (by rfl) ?_ (by decide) (by decide))
  refine PyProof.Rows.callWith_type1 ?_ hs (by rfl)
  rw [hs]
  show wpAny _ _ (spliced ((false, eval e X.env) :: backTo pos2 (starEach [] X.env))) _ _ s
  refine Calls.spliced_cons (thn (he.run pins s σ H _ I h) fun u s1 ⟨v, H1, I1, r1, q1⟩ => Calls.spliced_nil ?_)
  obtain ⟨a, ls, rfl, hl, few, q⟩ := q1
  obtain rfl : u = .ref a := r1
  obtain ⟨its, rv, pl, _⟩ := I1.list hl
  have st : StrsAre its.toArray.toList (ls.map tx) := by
    have : ls.map Tx = (ls.map tx).map V.str := by rw [List.map_map]; rfl
    rw [this] at rv
    exact rv.strs
  refine call_set_txt hh pl.isList st (by rw [List.length_map]; exact Nat.lt_of_lt_of_le (Nat.succ_lt_succ few) (by decide)) fun h' tk S k => ?_
  refine Calls.spliced_nil ?_
  have few2 : (onceL [] (ls.map tx)).length < 4000 := by
    have := once_len (ls.map tx) []
    rw [List.length_map] at this
    simp at this
    omega
  refine sorted_txt (s := { s1 with heap := h', toks := tk }) S hh few2 fun z p out n ys k2 hg ho hp hat hst pm so => ?_
  obtain ⟨zs, rfl, pw, mem, len⟩ := sorted_pw pm so
  have k3 : ∀ b u, s1.heap.get? b = some u → z.heap.get? b = some u := fun b u e => k2 b u (k b u e)
  have sz : s1.heap.objs.size ≤ p := by
    obtain ⟨D, at_, _⟩ := S
    exact Nat.le_trans (Nat.le_of_lt (Heap.lt_size at_)) hp
  have fr := I1.hok.fresh sz
  refine ⟨.ref p, upd H1 p (.lst (zs.map Tx)), ?_, rfl, q zs p pw mem len fr⟩
  have ok : ObjOk X.prog X.w (upd H1 p (.lst (zs.map Tx))) z.heap p (.lst (zs.map Tx)) :=
    ⟨by rw [List.length_map]; exact Nat.le_trans len (Nat.le_of_lt (Nat.lt_of_lt_of_le few (by decide))), out.toList, n, by
      have := vals_of_strs hst
      rw [List.map_map] at this
      exact this, hat⟩
  exact I1.call' (ch := []) ho (Un.laid k3 sz fr) (I1.hok.laid k3 sz ok) (by rw [hg]; exact I1.bare) (fun b z => absurd z (by simp))
end Pg
namespace Pg
open PySem PySem.Spec PyProof.Rows L2
/-! ### comprehensions that give values -/
theorem sql_up {K : PySem.W.Frag} {H H' : Hp} {a : Addr} {xs : List V} (s : Stp [] H H') (h : SqL K H a xs) : SqL K H' a xs := by
  rcases h with (h | ⟨o, h⟩) | h
  · exact .inl (.inl (s.kp _ _ (fun m => nomatch m) h))
  · exact .inl (.inr ⟨o, s.kp _ _ (fun m => nomatch m) h⟩)
  · exact .inr h
theorem ix_listK {X : Cx} {K : PySem.W.Frag} (hK : X.K = K) : IxR X (rIxL K) := by
  subst hK
  exact ix_list
theorem tn {σ : L2.St} {H : Hp} {Q : List V → Hp → Prop} (h : Q [] H) : tNil σ H Q := h
theorem RpL.snoc {K : PySem.W.Frag} {H : Hp} {vs : List V} {ds : List Dt} {i : Nat} {v : V} {d : Dt} (r : RpL K H vs (ds.take i)) (e : ds[i]? = some d) (h : Rp K H v d) : RpL K H (vs ++ [v]) (ds.take (i + 1)) := by
  rw [List.take_add_one, e]
  exact r.app (.cons h .nil)
theorem rpl_strs {K : PySem.W.Frag} {H : Hp} : ∀ {ls : List (List Nat)} {vs : List V}, RpL K H vs (ls.map Dt.str) → vs = ls.map Tx
  | [], _, .nil => rfl
  | l :: ls, _, .cons h r => by
    cases h
    rw [List.map_cons, rpl_strs r]
theorem rpl_bls {K : PySem.W.Frag} {H : Hp} : ∀ {bs : List Bool} {vs : List V}, RpL K H vs (bs.map Dt.bl) → vs = bs.map V.bl
  | [], _, .nil => rfl
  | b :: bs, _, .cons h r => by
    cases h
    rw [List.map_cons, rpl_bls r]
section
variable {K : PySem.W.Frag} {a : Addr} {xs : List V} {ds : List Dt} {g : TG} {te : TE} {vs : List Nat} {σ : L2.St} {H1 : Hp} {D : Addr} {Qd : Hp → Prop}
theorem lc_mapL (nD : H1 D = none) (hs : SqL K H1 a xs) (hl : ds.length = xs.length) (hz : xs.length ≤ 90000)
    (step : ∀ (i : Nat) x d H, xs[i]? = some x → ds[i]? = some d → Stp [] H1 H → ∀ Q : VK, (∀ y H', Stp [] H H' → Rp K H' y d → Q y H') → g x (wipe σ vs) H fun σ2 H2 => wipe σ2 vs = wipe σ vs ∧ te σ2 H2 Q)
    (hd : ∀ ws H, Stp [] H1 H → H D = some (.lst ws) → RpL K H ws ds → Qd H) :
    ∃ W : Nat → Nat → Hp → Prop, (∃ m, W 0 m (upd H1 D (.lst []))) ∧ ∀ i m H, W i m H →
      ((Itl K a).stop i H ∧ Qd H) ∨ ((Itl K a).go i H ∧ ∃ Nx : Hp → Prop, (∀ H', Nx H' → ∃ m', m' < m ∧ W (i + 1) m' H') ∧ ∀ x H', (Itl K a).yld i H x H' → g x (wipe σ vs) H' fun σ2 H2 => wipe σ2 vs = wipe σ vs ∧ tYes σ2 H2 fun b H3 =>
        if b = true then te σ2 H3 fun y H4 => ∃ acc, H4 D = some (.lst acc) ∧ acc.length < sizeLine ∧ Nx (upd H4 D (.lst (acc ++ [y]))) else Nx H3) := by
  refine lc_list (a := a) (xs := xs) (fun i H => ∃ ws, H D = some (.lst ws) ∧ RpL K H ws (ds.take i) ∧ Stp [] H1 H) ⟨[], upd_same, .nil, Stp.new nD _⟩ (fun i H _ ⟨_, _, _, S⟩ => sql_up S hs) ?_ ?_
  · rintro i x H hi ⟨ws, hL, rv, S⟩
    have il : i < ds.length := by rw [hl]; exact (List.getElem?_eq_some_iff.mp hi).1
    refine step i x ds[i] H hi (List.getElem?_eq_getElem il) S _ fun y H' S' ry => ?_
    refine ⟨ws, S'.kp _ _ (fun m => nomatch m) hL, ?_, ws ++ [y], upd_same, ?_, (S.trans S').mut nD⟩
    · rw [rv.len, List.length_take]
      exact Nat.lt_of_le_of_lt (show min i ds.length ≤ 90000 by omega) (by decide)
    · have s4 : Stp [D] H' (upd H' D (.lst (ws ++ [y]))) := Stp.put (by simp)
      have hL' := S'.kp _ _ (fun m => nomatch m) hL
      exact RpL.snoc ((rv.stp S' Lsts.nil).stp s4 (.one hL')) (List.getElem?_eq_getElem il) (ry.stp s4 (.one hL'))
  · rintro H ⟨ws, hL, rv, S⟩
    rw [← hl, List.take_length] at rv
    exact hd ws H S hL rv
theorem lc_mapT (nD : H1 D = none) (hs : SqT K H1 a xs) (hl : ds.length = xs.length) (hz : xs.length ≤ 90000)
    (step : ∀ (i : Nat) x d H, xs[i]? = some x → ds[i]? = some d → Stp [] H1 H → ∀ Q : VK, (∀ y H', Stp [] H H' → Rp K H' y d → Q y H') → g x (wipe σ vs) H fun σ2 H2 => wipe σ2 vs = wipe σ vs ∧ te σ2 H2 Q)
    (hd : ∀ ws H, Stp [] H1 H → H D = some (.lst ws) → RpL K H ws ds → Qd H) :
    ∃ W : Nat → Nat → Hp → Prop, (∃ m, W 0 m (upd H1 D (.lst []))) ∧ ∀ i m H, W i m H →
      ((Itt K a).stop i H ∧ Qd H) ∨ ((Itt K a).go i H ∧ ∃ Nx : Hp → Prop, (∀ H', Nx H' → ∃ m', m' < m ∧ W (i + 1) m' H') ∧ ∀ x H', (Itt K a).yld i H x H' → g x (wipe σ vs) H' fun σ2 H2 => wipe σ2 vs = wipe σ vs ∧ tYes σ2 H2 fun b H3 =>
        if b = true then te σ2 H3 fun y H4 => ∃ acc, H4 D = some (.lst acc) ∧ acc.length < sizeLine ∧ Nx (upd H4 D (.lst (acc ++ [y]))) else Nx H3) := by
  refine lc_tup (a := a) (xs := xs) (fun i H => ∃ ws, H D = some (.lst ws) ∧ RpL K H ws (ds.take i) ∧ Stp [] H1 H) ⟨[], upd_same, .nil, Stp.new nD _⟩ (fun i H _ ⟨_, _, _, S⟩ => sqt_stp S Lsts.nil hs) ?_ ?_
  · rintro i x H hi ⟨ws, hL, rv, S⟩
    have il : i < ds.length := by rw [hl]; exact (List.getElem?_eq_some_iff.mp hi).1
    refine step i x ds[i] H hi (List.getElem?_eq_getElem il) S _ fun y H' S' ry => ?_
    refine ⟨ws, S'.kp _ _ (fun m => nomatch m) hL, ?_, ws ++ [y], upd_same, ?_, (S.trans S').mut nD⟩
    · rw [rv.len, List.length_take]
      exact Nat.lt_of_le_of_lt (show min i ds.length ≤ 90000 by omega) (by decide)
    · have s4 : Stp [D] H' (upd H' D (.lst (ws ++ [y]))) := Stp.put (by simp)
      have hL' := S'.kp _ _ (fun m => nomatch m) hL
      exact RpL.snoc ((rv.stp S' Lsts.nil).stp s4 (.one hL')) (List.getElem?_eq_getElem il) (ry.stp s4 (.one hL'))
  · rintro H ⟨ws, hL, rv, S⟩
    rw [← hl, List.take_length] at rv
    exact hd ws H S hL rv
theorem lc_mapR {n : Nat} (nD : H1 D = none) (hl : ds.length = n) (hz : n ≤ 90000)
    (step : ∀ (i : Nat) d H, ds[i]? = some d → Stp [] H1 H → ∀ Q : VK, (∀ y H', Stp [] H H' → Rp K H' y d → Q y H') → g (.int ((0 : Int) + (i : Int))) (wipe σ vs) H fun σ2 H2 => wipe σ2 vs = wipe σ vs ∧ te σ2 H2 Q)
    (hd : ∀ ws H, Stp [] H1 H → H D = some (.lst ws) → RpL K H ws ds → Qd H) :
    ∃ W : Nat → Nat → Hp → Prop, (∃ m, W 0 m (upd H1 D (.lst []))) ∧ ∀ i m H, W i m H →
      ((Itr 0 n).stop i H ∧ Qd H) ∨ ((Itr 0 n).go i H ∧ ∃ Nx : Hp → Prop, (∀ H', Nx H' → ∃ m', m' < m ∧ W (i + 1) m' H') ∧ ∀ x H', (Itr 0 n).yld i H x H' → g x (wipe σ vs) H' fun σ2 H2 => wipe σ2 vs = wipe σ vs ∧ tYes σ2 H2 fun b H3 =>
        if b = true then te σ2 H3 fun y H4 => ∃ acc, H4 D = some (.lst acc) ∧ acc.length < sizeLine ∧ Nx (upd H4 D (.lst (acc ++ [y]))) else Nx H3) := by
  refine lc_range (lo := 0) (n := n) (fun i H => ∃ ws, H D = some (.lst ws) ∧ RpL K H ws (ds.take i) ∧ Stp [] H1 H) ⟨[], upd_same, .nil, Stp.new nD _⟩ ?_ ?_
  · rintro i H hi ⟨ws, hL, rv, S⟩
    have il : i < ds.length := by rw [hl]; exact hi
    refine step i ds[i] H (List.getElem?_eq_getElem il) S _ fun y H' S' ry => ?_
    refine ⟨ws, S'.kp _ _ (fun m => nomatch m) hL, ?_, ws ++ [y], upd_same, ?_, (S.trans S').mut nD⟩
    · rw [rv.len, List.length_take]
      exact Nat.lt_of_le_of_lt (show min i ds.length ≤ 90000 by omega) (by decide)
    · have s4 : Stp [D] H' (upd H' D (.lst (ws ++ [y]))) := Stp.put (by simp)
      have hL' := S'.kp _ _ (fun m => nomatch m) hL
      exact RpL.snoc ((rv.stp S' Lsts.nil).stp s4 (.one hL')) (List.getElem?_eq_getElem il) (ry.stp s4 (.one hL'))
  · rintro H ⟨ws, hL, rv, S⟩
    rw [← hl, List.take_length] at rv
    exact hd ws H S hL rv
end
end Pg
namespace Pg
open PySem PySem.Spec PyProof.Rows L2
/-- a new object is changed -/
theorem Stp.mutO {S : List Addr} {H H' : Hp} {p : Addr} {o : HO} (a : Stp S H H') (h : H p = none) : Stp S H (upd H' p o) :=
  ⟨fun x u n q => by
    rw [upd_ne (ne_of_none q h)]
    exact a.kp x u n q, fun x xs q => by
    rw [upd_ne (ne_of_none q h)]
    exact a.ls x xs q⟩
/-- sorted(xs), texts, any number of them -/
def rSortedSA (K : PySem.W.Frag) : List V → Hp → VK → Prop := fun vs H Q => ∃ (a : Addr) (ls : List (List Nat)), vs = [V.ref a] ∧ SqL K H a (ls.map Tx) ∧
  ∀ (zs : List (List Nat)) (p : Addr), zs.Perm ls → zs.Pairwise (· ≤ ·) → H p = none → Q (.ref p) (upd H p (.lst (zs.map Tx)))
theorem rising_le : ∀ (zs : List (List Nat)) (p : List Nat), risingS (tx p) (zs.map tx) = true → (p :: zs).Pairwise (· ≤ ·)
  | [], p, _ => List.pairwise_singleton _ _
  | z :: zs, p, h => by
    have h' : (!ltCps z p && risingS (tx z) (zs.map tx)) = true := by simpa [risingS] using h
    rw [ltCps_eq] at h'
    obtain ⟨h1, h2⟩ := Bool.and_eq_true_iff.mp h'
    have ih := rising_le zs z h2
    have pz : p ≤ z := List.not_lt.mp (by simpa using h1)
    refine List.pairwise_cons.mpr ⟨fun y m => ?_, ih⟩
    rcases List.mem_cons.mp m with rfl | m
    · exact pz
    · exact List.le_trans pz ((List.pairwise_cons.mp ih).1 y m)
theorem cr_sortedSA {X : Cx} : CallR X (.builtin "sorted") (rSortedSA X.K) := by
  intro pins s σ H vs us Q I r h
  obtain ⟨a, ls, rfl, hs, q⟩ := h
  obtain ⟨its, rv, hl, hz⟩ := I.list hs
  rw [Vals.ref1 r]
  have st : StrsAre its (ls.map tx) := by
    have : ls.map Tx = (ls.map tx).map V.str := by rw [List.map_map]; rfl
    rw [this] at rv
    exact rv.strs
  refine sorted_strsAny hl.isList st (by rw [← rv.length]; exact hz) fun out ys h1 h2 h3 => ?_
  have e : ys = (ys.map fun s => s.cps.toList).map tx := by
    rw [List.map_map]
    conv => lhs; rw [← List.map_id ys]
    rfl
  have pm : (ys.map fun s => s.cps.toList).Perm ls := by
    have := h2.map fun s : Str => s.cps.toList
    rw [List.map_map] at this
    refine this.trans (List.Perm.of_eq ?_)
    conv => rhs; rw [← List.map_id ls]
    refine List.map_congr_left fun l _ => ?_
    simp
  have so : (ys.map fun s => s.cps.toList).Pairwise (· ≤ ·) := by
    rw [e] at h3
    generalize (ys.map fun s => s.cps.toList) = zs at h3
    cases zs with
    | nil => exact List.Pairwise.nil
    | cons z zs => exact rising_le zs z h3
  obtain ⟨ep, he'⟩ := PyProof.Rows.sortedAll_at s.heap its out
  rw [e] at h1
  have hv := vals_of_strs h1
  rw [List.map_map] at hv
  have hv : Vals ((ys.map fun s => s.cps.toList).map Tx) out.toList := hv
  have hlen : ((ys.map fun s => s.cps.toList).map Tx).length ≤ sizeLine := by
    rw [List.length_map, pm.length_eq]
    rw [List.length_map] at hz
    exact hz
  exact ⟨.ref _, upd H (s.heap.objs.size + 1) (.lst ((ys.map fun s => s.cps.toList).map Tx)), I.laid (t' := s.toks) (fun _ _ => PyProof.Rows.sortedAll_old) (Nat.le_succ _) ⟨hlen, out.toList, ep, hv, he'⟩, rfl, q _ _ pm so (I.hok.fresh (Nat.le_succ _))⟩
end Pg
namespace Pg
open PySem PySem.Spec PyProof.Rows L2
theorem RpL.rev {K : PySem.W.Frag} {H : Hp} : ∀ {vs : List V} {ds : List Dt}, RpL K H vs ds → RpL K H vs.reverse ds.reverse
  | _, [], .nil => .nil
  | _, _ :: _, .cons h r => by
    rw [List.reverse_cons, List.reverse_cons]
    exact RpL.app (RpL.rev r) (.cons h .nil)
theorem RpL.erase {K : PySem.W.Frag} {H : Hp} {α : Type} {f : α → Dt} : ∀ {vs : List V} {ps : List α} {k : Nat}, RpL K H vs (ps.map f) → RpL K H (vs.eraseIdx k) ((ps.eraseIdx k).map f)
  | _, [], _, .nil => .nil
  | _, _ :: _, 0, .cons _ r => r
  | _, _ :: _, k + 1, .cons h r => .cons h (RpL.erase (k := k) r)
theorem seqIx {n : Nat} {d : Int} (h0 : 0 ≤ d) (h1 : d < (n : Int)) : seqIndex? d n = some d.toNat := (ixN_seq (by unfold ixN; rw [if_pos h0, if_pos h1])).1
/-! ### t[::-1] -/
section
variable {prog : Program} {w : World} {A : Around} {E : Value → Shared → Prop} {s : Shared}
open HT
theorem sliceApplied_rev {sl : Addr} {vl vu vs : Value} {n : Nat} {Q : Int × Int × Nat → Shared → Prop} (hs : s.heap.IsSliceOf sl vl vu vs) (pl : IsPart vl none) (pu : IsPart vu none) (ps : IsPart vs (some (-1)))
    (h : Q ((n : Int) - 1, -1, n) s) : wpAny (model prog w) A (Builtin.Slice.sliceApplied (.ref sl) (pure (n : Int))) Q E s := by
  obtain ⟨os, hos, hcs, hds⟩ := id hs
  unfold Builtin.Slice.sliceApplied Builtin.Slice.sliceFields
  refine wpAny_bind (wpAny_bind (wpAny_field hos hds (x := vl) rfl (wpAny_bind (wpAny_field hos hds (x := vu) rfl (wpAny_bind (wpAny_field hos hds (x := vs) rfl (wpAny_pure ?_)))))))
  refine wpAny_bind (slicePart_ ps ?_)
  show wpAny _ _ (if ((-1 : Int) == 0) = true then _ else _) _ _ s
  rw [if_neg (by decide)]
  refine wpAny_bind (slicePart_ pl (wpAny_bind (slicePart_ pu (wpAny_bind (wpAny_pure ?_)))))
  show wpAny _ _ (pure ((n : Int) - 1, (-1 : Int), Builtin.Slice.slicePlaces ((n : Int) - 1) (-1) (-1))) _ _ s
  have e : Builtin.Slice.slicePlaces ((n : Int) - 1) (-1) (-1) = n := by
    unfold Builtin.Slice.slicePlaces
    rw [if_neg (by decide)]
    by_cases c : (n : Int) - 1 > -1
    · rw [if_pos c, show (- -1 : Int) = 1 by decide, Int.ediv_one]
      omega
    · rw [if_neg c]
      omega
  rw [e]
  exact wpAny_pure h
theorem pick_rev (xs : Array Value) : ((List.range xs.size).filterMap fun (k : Nat) => xs[((xs.size : Int) - 1 + (k : Int) * (-1)).toNat]?).toArray = xs.toList.reverse.toArray := by
  have e : (fun (k : Nat) => xs[((xs.size : Int) - 1 + (k : Int) * (-1)).toNat]?) = (fun k => xs[xs.size - 1 - k]?) := by
    funext k
    have : ((xs.size : Int) - 1 + (k : Int) * (-1)).toNat = xs.size - 1 - k := by omega
    rw [this]
  rw [e]
  have e2 : (fun k => xs[xs.size - 1 - k]?) = (fun k => xs[k]?) ∘ fun k => xs.size - 1 - k := rfl
  rw [e2, ← List.filterMap_map, PySem.W.krv_range, List.filterMap_reverse, PySem.W.krv_all]
theorem getItem_tuple_rev {t sl : Addr} {items : Array Value} {vl vu vs : Value} {Q : Value → Shared → Prop} (ht : IsTup s.heap t items) (hs : s.heap.IsSliceOf sl vl vu vs) (pl : IsPart vl none) (pu : IsPart vu none) (ps : IsPart vs (some (-1)))
    (h : Q (.ref s.heap.objs.size) { s with heap := s.heap.push { cls := .type "tuple", data := .seq items.toList.reverse.toArray } })
    (hsz : items.size ≤ sizeLine) : wpAny (model prog w) A (getItem (.ref t) (.ref sl)) Q E s := by
  have htake : sizeOk (.seq items.toList.reverse.toArray) := by
    show items.toList.reverse.toArray.size ≤ sizeLine
    rw [List.size_toArray, List.length_reverse, Array.length_toList]
    exact hsz
  obtain ⟨os, hos, hcs, hds⟩ := id hs
  have hTs : s.TypeIs (.ref sl) "slice" := ⟨os, hos, hcs⟩
  unfold getItem
  try with_reducible refine wpAny_holding ?_
  first | refine wpAny_bind (wpAny_pure ?_) | skip
  refine wpAny_bind (wpAny_sequenceKey ht.typeIs (by decide) ?_)
  refine wpAny_bind (wpAny_callSpecial?_slot (name := Str.ofString "__getitem__") ht.typeIs PyProof.Rows.slot_tuple_getitem
    (wpAny_call_entry PyProof.Rows.slot_tuple_getitem ht.typeIs entry_tuple_getitem ?_ (args_tuple_getitem _ _)))
  show wpAny _ _ (Builtin.Tuple.tupleItemsOf (.ref t) >>= _) _ _ s
  refine wpAny_bind (tupleItemsOf_ ht ?_)
  refine wpAny_bind (wpAny_typeOf hTs ?_)
  rw [if_pos (by decide)]
  refine wpAny_bind (sliceApplied_rev hs pl pu ps ?_)
  have hno : ¬ ((((items.size : Int) - 1) == 0 && (-1 : Int) == 1 && items.size == items.size) = true) := by
    intro q
    rw [Bool.and_eq_true, Bool.and_eq_true] at q
    exact absurd q.1.2 (by decide)
  show wpAny _ _ (if (((items.size : Int) - 1) == 0 && (-1 : Int) == 1 && items.size == items.size) = true then _ else _) _ _ s
  rw [if_neg hno, pick_rev]
  first
    | exact wpAny_bind (m := Builtin.Tuple.tupleExact _) (wpAny_newObj_type (wpAny_pure ⟨_, rfl, wpAny_pure h⟩) htake)
    | exact wpAny_bind (m := Builtin.Tuple.tupleExact _) (wpAny_newObj_type (wpAny_bind (wpAny_pure (wpAny_pure ⟨_, rfl, wpAny_pure h⟩))) htake)
    | exact wpAny_bind (wpAny_bind (m := Builtin.Tuple.tupleExact _) (wpAny_newObj_type (wpAny_pure (wpAny_pure ⟨_, rfl, wpAny_pure h⟩)) htake))
    | exact wpAny_bind (wpAny_bind (m := Builtin.Tuple.tupleExact _) (wpAny_newObj_type (wpAny_pure ⟨_, rfl, wpAny_pure h⟩) htake))
end
section
variable {X : Cx}
def tRevT (K : PySem.W.Frag) (te : TE) : TE := fun σ H Q => te σ H fun x H1 => ∃ a xs, x = .ref a ∧ SqT K H1 a xs ∧ ∀ p, H1 p = none → Q (.ref p) (upd H1 p (.tup xs.reverse))
theorem pe_revT {e : Expr} {te : TE} {k : Nat} {p1 p2 p3 pos : Pos} (he : PE X e te) : PE X (.Subscript e (.Slice none none (some (.UnaryOp .USub (.Constant (.int 1) k p1) p2)) p3) pos) (tRevT X.K te) := by
  refine ⟨fun pins s σ H Q I h => ?_⟩
  refine Subscript_ (thn (he.run pins s σ H _ I h) fun v s1 ⟨x, H1, I1, r1, q1⟩ => ?_)
  obtain ⟨a, xs, ex, hx, q⟩ := q1
  subst ex
  cases r1
  have hst : PO X (some (.UnaryOp .USub (.Constant (.int 1) k p1) p2)) (tPart (tUn (rU fun i => .int (-i)) (tC (.int 1)))) := po_some (pe_un un_neg pe_int)
  refine wpAny_Slice (thn (po_none.run pins s1 σ H1 (fun o H2 => o = none ∧ H2 = H1) I1 ⟨rfl, rfl⟩) fun vl s2 ⟨l, H2, I2, pl, el, e2⟩ => ?_)
  subst el e2
  refine thn (po_none.run pins s2 σ H2 (fun o H3 => o = none ∧ H3 = H2) I2 ⟨rfl, rfl⟩) fun vu s3 ⟨u, H3, I3, pu, eu, e3⟩ => ?_
  subst eu e3
  refine thn (hst.run pins s3 σ H3 (fun o H4 => o = some (-1) ∧ H4 = H3) I3 ⟨1, rfl, -1, rfl, rfl, rfl⟩) fun vs s4 ⟨o, H4, I4, ps, eo, e4⟩ => ?_
  subst eo e4
  have I5 : Inv X pins σ H4 { s4 with heap := s4.heap.push { cls := .type "slice", data := .fields #[vl, vu, vs] } } := I4.kept (t' := s4.toks) fun b ob q => Heap.get?_push_of_some _ q
  obtain ⟨its, r, ht, hz⟩ := I5.tuple hx
  have hlen := r.length
  show wpAny (model X.prog X.w) X.A (subscriptTail e (.Slice none none (some (.UnaryOp .USub (.Constant (.int 1) k p1) p2)) p3) (.ref a) (.ref s4.heap.objs.size)) (EP X pins σ Q) X.xe { s4 with heap := s4.heap.push { cls := .type "slice", data := .fields #[vl, vu, vs] } }
  refine tail_any (ops := [.ref a, .ref s4.heap.objs.size]) ht.typeIs (PyProof.Rows.slot_tuple_getitem.lookup) ?_ (by with_unfolding_all rfl)
  refine getItem_tuple_rev ht (Heap.IsSliceOf.new _ vl vu vs) pl pu ps ?_ (by rw [List.size_toArray]; omega)
  refine ⟨.ref _, _, I5.laid (t' := s4.toks) (o := .tup xs.reverse) (fun b ob q => Heap.get?_push_of_some _ q) (Nat.le_refl _) ?_, rfl, q _ (I5.hok.fresh (Nat.le_refl _))⟩
  exact ⟨by rw [List.length_reverse]; exact hz, _, r.reverse, IsTup.new _ _⟩
end
end Pg
namespace Pg
open PySem PySem.Spec PyProof.Rows L2
theorem pe_clG0 {X : Cx} {j k : Nat} {st : Stmt} {ps : List Str} {sp : Sp} {x : Str} {p pos : Pos} (c : ClG X.prog X.w X.K X.mg X.base k x st ps sp) (hG : X.A.guards = some []) (hr : Room j X.A) (hk : k ≤ j) (hg : Gl X x := by rfl) (hdb : (x == ("__debug__" : Str)) = false := by decide) :
    PE X (.Call (.Name x p) [] [] pos) (tCl sp tNil) := by
  obtain ⟨f, fd, D, F⟩ := c.ex
  refine ⟨fun pins s σ H Q I h => ?_⟩
  refine wpAny_Call_Name_kw (ld_glob I hg D.at_ ?_ hdb)
  exact PySem.W.callWith_K0 I.kIn D.fn.kp (run_g (us := []) (F.mono hk) hG hr D.bd I .nil h)
end Pg
namespace Kq
open PySem PySem.Spec PyProof.Rows L2 Pg
def topS (i : Nat) : Stmt := PySem.Challenge.pw_pageskips_k09_whole_sets_of_texts.main.body.getD i (.Pass ⟨0, 0, 0, 0⟩)
structure Nm (mg : Str → Option Value) : Prop where
  n_int : mg "int" = none
  n_len : mg "len" = none
  n_max : mg "max" = none
  n_range : mg "range" = none
  n_type : mg "type" = none
  n_tuple : mg "tuple" = none
  n_all : mg "all" = none
  n_any : mg "any" = none
  n_zip : mg "zip" = none
  n_str : mg "str" = none
  n_sorted : mg "sorted" = none
  n_set : mg "set" = none
  n_repr : mg "repr" = none
  n_list : mg "list" = none
section
variable {P : Program} {w : World} {K : PySem.W.Frag} {mg : Str → Option Value} {base : Heap}
abbrev s__law_bag : Stmt := topS 20
abbrev N__law_bag : List Str := ["cell"]
theorem sc__law_bag : FnScope ["cell"] ["cell"] (defScope s__law_bag) := ⟨rfl, rfl, rfl, by decide +kernel, rfl, by decide +kernel, by decide +kernel⟩

abbrev s__law_draw : Stmt := topS 21
abbrev N__law_draw : List Str := ["bag", "upto", "digit", "turn", "mixed"]
theorem sc__law_draw : FnScope ["bag", "upto", "digit", "turn", "mixed"] ["bag", "upto"] (defScope s__law_draw) := ⟨rfl, rfl, rfl, by decide +kernel, rfl, by decide +kernel, by decide +kernel⟩

/-! ### the bag, the draws -/
def spBag : Sp := fun vs H Q _ => ∃ c : Int, vs = [.int c] ∧ ∀ b H', H b = none → Stp [] H H' → Bag H' b 0 → Q (.ref b) H'
theorem cl__law_bag {f : Addr} {fd : FuncData} (D : Df K mg "_law_bag" s__law_bag ["cell"] f fd) (T : Nm mg) : Cl P w K mg base 1 "_law_bag" s__law_bag ["cell"] spBag := by
  refine D.cl sc__law_bag (fun vs H Q E h => ?_) (fun cdv A outer s H vs Q E hr h => ?_)
  · obtain ⟨c, rfl, _⟩ := h
    rfl
  · obtain ⟨c, rfl, k⟩ := h
    refine ⟨_, (pss_one (ps_ret (pe_lst (pa_cons (pe_callB (call_max2 rfl) (by rfl) T.n_max (by decide +kernel) (pa_cons pe_int (pa_cons (pe_op op_sub (pe_callTy call_int1 (by rfl) T.n_int (by decide +kernel) (pa_cons (pv 0) pa_nil)) (pe_op op_pow pe_int pe_int)) pa_nil))) (pa_cons (pe_op op_mod (pe_callTy call_int1 (by rfl) T.n_int (by decide +kernel) (pa_cons (pv 0) pa_nil)) pe_int) (pa_cons pe_int pa_nil)))))), ?_⟩
    refine ⟨_, rfl, .inl ⟨c, rfl, _, _, rfl, rfl, ⟨by decide, by decide, by decide⟩, _, _, rfl, rfl, _, _, rfl, ?_⟩⟩
    refine ⟨_, rfl, .inl ⟨c, rfl, _, _, rfl, rfl, (by show (0 : Int) < 999999999989; decide), (by show 3 ≤ sizeLine; decide), fun b nb => ?_⟩⟩
    refine k b _ nb (Stp.new nb _) ⟨_, _, _, upd_same, ?_⟩
    have m1 : 0 ≤ c % 999999999989 := Int.emod_nonneg _ (by decide)
    have m2 : c % 999999999989 < 999999999989 := Int.emod_lt_of_pos _ (by decide)
    refine ⟨?_, m1, by omega, by omega, by omega⟩
    split <;> omega
def spDraw : Sp := fun vs H Q _ => ∃ (b : Addr) (up : Int) (n : Nat), vs = [.ref b, .int up] ∧ Bag H b n ∧ n < 2 ^ 30 ∧ 0 < up ∧ up < 2 ^ 30 ∧
  ∀ d H', 0 ≤ d → d < up → Only b H H' → Bag H' b (n + 1) → Q (.int d) H'
theorem cl__law_draw {f : Addr} {fd : FuncData} (D : Df K mg "_law_draw" s__law_draw ["bag", "upto"] f fd) (T : Nm mg) : Cl P w K mg base 1 "_law_draw" s__law_draw ["bag", "upto"] spDraw := by
  refine D.cl sc__law_draw (fun vs H Q E h => ?_) (fun cdv A outer s H vs Q E hr h => ?_)
  · obtain ⟨b, up, n, rfl, _⟩ := h
    rfl
  · obtain ⟨b, up, n, rfl, ⟨x, y, z, hb, x0, y0, y1, z0, z1⟩, hn, u0, u1, k⟩ := h
    refine ⟨_, (pss_cons (ps_if (pt_cmpR op_gt (pe_ix ix_list (pv 0) pe_int (fun _ _ => rfl)) pe_int (by first | exact nomark _ | rfl)) (pss_cons (ps_set (i := 2) sc__law_draw.nd rfl (by first | exact Or.inl rfl | exact Or.inr rfl) (pe_op op_mod (pe_callTy call_int1 (by rfl) T.n_int (by decide +kernel) (pa_cons (pe_ix ix_list (pv 0) pe_int (fun _ _ => rfl)) pa_nil)) (pv 1)))
      (pss_cons (ps_asg (pe_op op_fdivW (pe_ix ix_list (pv 0) pe_int (fun _ _ => rfl)) (pv 1)) (pg_sub (pv 0) pe_int set_list))
      (pss_one (ps_ret (pv 2))))) pss_nil)
      (pss_cons (ps_set (i := 3) sc__law_draw.nd rfl (by first | exact Or.inl rfl | exact Or.inr rfl) (pe_op op_add (pe_ix ix_list (pv 0) pe_int (fun _ _ => rfl)) pe_int))
      (pss_cons (ps_asg (pv 3) (pg_sub (pv 0) pe_int set_list))
      (pss_cons (ps_set (i := 4) sc__law_draw.nd rfl (by first | exact Or.inl rfl | exact Or.inr rfl) (pe_op op_add (pe_op op_mulW (pe_op op_add (pe_ix ix_list (pv 0) pe_int (fun _ _ => rfl)) pe_int) (pe_op op_add (pe_op op_add (pe_op op_mulW (pv 3) (pv 3)) (pe_op op_mulW pe_int (pv 3))) pe_int)) (pe_op op_mulW pe_int (pv 3))))
      (pss_cons (ps_set (i := 4) sc__law_draw.nd rfl (by first | exact Or.inl rfl | exact Or.inr rfl) (pe_op op_fdivW (pe_op op_mod (pe_callTy call_int1 (by rfl) T.n_int (by decide +kernel) (pa_cons (pe_op op_add (pe_op op_add (pe_op op_mulW (pv 4) (pv 4)) (pe_op op_mulW pe_int (pv 4))) (pv 3)) pa_nil)) pe_int) pe_int))
      (pss_one (ps_ret (pe_op op_mod (pe_op op_fdivW (pe_op op_mod (pe_callTy call_int1 (by rfl) T.n_int (by decide +kernel) (pa_cons (pe_op op_add (pe_op op_add (pe_op op_mulW (pv 4) (pv 4)) (pe_op op_mulW pe_int (pv 4))) (pv 3)) pa_nil)) pe_int) pe_int) (pv 1))))))))), ?_⟩
    refine ⟨_, rfl, b, _, 0, .int x, rfl, rfl, SqL.of hb, rfl, _, _, rfl, rfl, _, rfl, ite2 (fun hx => ?_) (fun hx => ?_)⟩
    · refine ⟨_, rfl, b, _, 0, .int x, rfl, rfl, SqL.of hb, rfl, .inl ⟨x, rfl, _, rfl, _, _, rfl, rfl, u0, ?_⟩⟩
      refine ⟨_, rfl, b, _, 0, .int x, rfl, rfl, SqL.of hb, rfl, _, rfl, _, _, rfl, rfl, cdiv 30 u0 u1 (by decide) (by decide), ?_⟩
      refine ⟨_, rfl, b, _, 0, 0, rfl, rfl, hb, rfl, ?_⟩
      refine ⟨_, rfl, k _ _ (Int.emod_nonneg _ (by omega)) (Int.emod_lt_of_pos _ u0) ⟨_, rfl⟩ ⟨_, _, _, upd_same, ?_⟩⟩
      exact ⟨Int.ediv_nonneg x0 (by omega), y0, y1, z0, by omega⟩
    · refine ⟨_, rfl, b, _, 2, .int z, rfl, rfl, SqL.of hb, rfl, _, _, rfl, rfl, ?_⟩
      obtain ⟨t, et⟩ : ∃ t, t = z + 1 := ⟨_, rfl⟩
      dsimp only
      rw [← et]
      have t0 : 0 ≤ t := by omega
      have t1 : t < 2 ^ 31 := by omega
      refine ⟨_, rfl, _, rfl, b, _, 2, 2, rfl, rfl, hb, rfl, ?_⟩
      have a1 := mul_lt (a := 31) (b := 31) t0 t1 t0 t1
      have a2 := mul_lt (i := 1009) (a := 10) (b := 31) (by decide) (by decide) t0 t1
      have a3 := mul_lt (i := y + 5) (j := t * t + 1009 * t + 61) (a := 41) (b := 63) (by omega) (by omega) (by omega) (by omega)
      have a4 := mul_lt (i := 9176) (a := 14) (b := 31) (by decide) (by decide) t0 t1
      refine ⟨_, rfl, b, _, 1, .int y, rfl, rfl, SqL.of upd_same, rfl, _, _, rfl, rfl,
        _, rfl, _, rfl, _, _, rfl, rfl, cmul 31 31 t0 t1 t0 t1 (by decide) (by decide) (by decide),
        _, rfl, _, _, rfl, rfl, cmul 10 31 (by decide) (by decide) t0 t1 (by decide) (by decide) (by decide), _, _, rfl, rfl, _, _, rfl, rfl,
        _, _, rfl, rfl, cmul 41 63 (by omega) (by omega) (by omega) (by omega) (by decide) (by decide) (by decide),
        _, rfl, _, _, rfl, rfl, cmul 14 31 (by decide) (by decide) t0 t1 (by decide) (by decide) (by decide), _, _, rfl, rfl, ?_⟩
      obtain ⟨m, em⟩ : ∃ m, m = (y + 5) * (t * t + 1009 * t + 61) + 9176 * t := ⟨_, rfl⟩
      dsimp only
      rw [← em]
      have m0 : 0 ≤ m := by omega
      have m1 : m < 2 ^ 105 := by omega
      refine ⟨_, rfl, _, rfl, _, _, rfl, rfl, cmul 105 105 m0 m1 m0 m1 (by decide) (by decide) (by decide),
        _, rfl, _, _, rfl, rfl, cmul 20 105 (by decide) (by decide) m0 m1 (by decide) (by decide) (by decide), _, _, rfl, rfl,
        _, rfl, _, _, rfl, rfl, .inl ⟨_, rfl, _, _, rfl, rfl, (by show (0 : Int) < 1000000000039; decide), _, _, rfl, rfl, cdiv 8 (by decide) (by decide) (by decide) (by decide), ?_⟩⟩
      obtain ⟨v, ev⟩ : ∃ v, v = (m * m + 524287 * m + t) % 1000000000039 / 131 := ⟨_, rfl⟩
      dsimp only
      rw [← ev]
      have w0 : 0 ≤ (m * m + 524287 * m + t) % 1000000000039 := Int.emod_nonneg _ (by decide)
      have w1 : (m * m + 524287 * m + t) % 1000000000039 < 1000000000039 := Int.emod_lt_of_pos _ (by decide)
      have v0 : 0 ≤ v := by omega
      have v1 : v < 2 ^ 40 := by omega
      refine ⟨_, rfl, _, rfl, _, _, rfl, rfl, cmul 40 40 v0 v1 v0 v1 (by decide) (by decide) (by decide),
        _, rfl, _, _, rfl, rfl, cmul 13 40 (by decide) (by decide) v0 v1 (by decide) (by decide) (by decide), _, _, rfl, rfl,
        _, rfl, _, _, rfl, rfl, .inl ⟨_, rfl, _, _, rfl, rfl, (by show (0 : Int) < 2147483587; decide), _, _, rfl, rfl, cdiv 5 (by decide) (by decide) (by decide) (by decide), _, rfl, _, _, rfl, rfl, u0, ?_⟩⟩
      exact k _ _ (Int.emod_nonneg _ (by omega)) (Int.emod_lt_of_pos _ u0) ⟨_, rfl⟩ ⟨_, _, _, upd_same, x0, y0, y1, by omega, by omega⟩
abbrev s__law_text : Stmt := topS 22
abbrev N__law_text : List Str := ["bag", "size", "k"]
theorem sc__law_text : FnScope ["bag", "size", "k"] ["bag"] (defScope s__law_text) := ⟨rfl, rfl, rfl, by decide +kernel, rfl, by decide +kernel, by decide +kernel⟩

/-! ### drawn texts -/
def spText : Sp := fun vs H Q _ => ∃ (b : Addr) (n : Nat), vs = [.ref b] ∧ Bag H b n ∧ n + 20 < 2 ^ 30 ∧ ∀ l H', Abc l → l.length ≤ 12 → Stp [b] H H' → Bag H' b (n + 14) → Q (Tx l) H'
theorem cl__law_text {f : Addr} {fd : FuncData} (D : Df K mg "_law_text" s__law_text ["bag"] f fd) (T : Nm mg) (c__law_draw : Cl P w K mg base 1 "_law_draw" s__law_draw ["bag", "upto"] spDraw) : Cl P w K mg base 2 "_law_text" s__law_text ["bag"] spText := by
  refine D.cl sc__law_text (fun vs H Q E h => ?_) (fun cdv A outer s H vs Q E hr h => ?_)
  · obtain ⟨b, n, rfl, _⟩ := h
    rfl
  · obtain ⟨b, n, rfl, B, hn, k⟩ := h
    refine ⟨_, (pss_cons (ps_set (i := 1) sc__law_text.nd rfl (by first | exact Or.inl rfl | exact Or.inr rfl) (pe_cl c__law_draw hr (by omega) (pa_cons (pv 0) (pa_cons (pe_ix ix_list (pe_lst (pa_cons pe_int (pa_cons pe_int (pa_cons pe_int (pa_cons pe_int pa_nil))))) (pe_cl c__law_draw hr (by omega) (pa_cons (pv 0) (pa_cons pe_int pa_nil))) (fun _ _ => rfl)) pa_nil))))
      (pss_one (ps_ret (pe_join pe_str (pe_lc (own := [("k", 2)]) rfl sc__law_text.nd (pi_range1 (by rfl) T.n_range (pa_cons (pv 1) pa_nil)) (blkOk_by (own := [("k", 2)]) (N := N__law_text) (sc := defScope s__law_text) (by decide +kernel)) (fun _ _ _ _ _ => (pg_name (i := 2) sc__law_text.nd rfl (by first | exact Or.inl rfl | exact Or.inr rfl))) (fun _ _ _ _ _ => pts_nil) (fun _ _ _ _ _ => (pe_ix ix_str pe_str (pe_cl c__law_draw hr (by omega) (pa_cons (pv 0) (pa_cons pe_int pa_nil))) (fun _ _ => rfl)))))))), ?_⟩
    refine ⟨_, rfl, (by show 4 ≤ sizeLine; decide), fun l nl => ?_⟩
    have S1 : Stp [b] H (upd H l (.lst [.int 3, .int 4, .int 6, .int 13])) := Stp.new nl _
    refine ⟨_, rfl, b, 4, n, rfl, B.upd (B.ne nl), by omega, by decide, by decide, fun d H2 d0 d1 o1 B1 => ?_⟩
    have S2 : Stp [b] H H2 := S1.trans (o1.stp (List.mem_singleton.mpr rfl))
    have hl : H2 l = some (.lst [.int 3, .int 4, .int 6, .int 13]) := o1.at upd_same (B.ne nl).symm
    obtain ⟨u, mu, eu⟩ := pick_int (ns := [3, 4, 6, 13]) d0 d1
    have u0 : 0 < u ∧ u ≤ 13 := by
      simp at mu
      omega
    refine ⟨l, _, d, .int u, rfl, rfl, SqL.of hl, eu, b, u, n + 1, rfl, B1, by omega, u0.1, by omega, fun z H3 z0 z1 o2 B2 => ?_⟩
    have S3 : Stp [b] H H3 := S2.trans (o2.stp (List.mem_singleton.mpr rfl))
    refine ⟨⟨_, rfl⟩, _, rfl, z, rfl, by omega, by omega, fun L nL => ?_⟩
    refine lc_range (lo := 0) (n := z.toNat) (fun i H4 => ∃ cs : List Nat, Abc cs ∧ cs.length = i ∧ H4 L = some (.lst (cs.map fun c => Tx [c])) ∧ Stp [b] H3 H4 ∧ Bag H4 b (n + 2 + i))
      ⟨[], Abc.nil, rfl, upd_same, Stp.new nL _, B2.upd (B2.ne nL)⟩ ?_ ?_
    · rintro i H4 hi ⟨cs, ha, hcl, hL, S4, B4⟩
      refine ⟨rfl, _, rfl, b, 3, _, rfl, B4, by omega, by decide, by decide, fun d H5 d0 d1 o3 B5 => ?_⟩
      obtain ⟨c, mc, ec⟩ := pick (xs := [97, 98, 99]) d0 d1
      have nLb : L ≠ b := (B2.ne nL).symm
      have hL5 : H5 L = some (.lst (cs.map fun c => Tx [c])) := o3.at hL nLb
      have S5 : Stp [b] H4 H5 := o3.stp (List.mem_singleton.mpr rfl)
      have hc : c = 97 ∨ c = 98 ∨ c = 99 := by
        simp at mc
        exact mc
      refine ⟨("abc" : Str), d, c, rfl, rfl, (by rw [abc_lit]; exact szt (by decide)), (by rw [abc_lit]; exact ec), cs.map fun c => Tx [c], hL5, ?_, ?_⟩
      · rw [List.length_map, hcl]
        exact Nat.lt_of_lt_of_le (show i < 100000 by omega) (by decide)
      · refine ⟨cs ++ [c], ha.app (Abc.one hc), by simp [hcl], ?_, ?_, ?_⟩
        · rw [List.map_append]
          exact upd_same
        · exact (S4.trans S5).mut nL
        · exact B5.upd nLb.symm
    · rintro H4 ⟨cs, ha, hcl, hL, S4, B4⟩
      refine ⟨_, L, cs.map (fun c => tx [c]), rfl, rfl, .inl (SqL.of (by rw [List.map_map]; exact hL)), ?_, ?_⟩
      · rw [List.map_map, nil_lit]
        have e : ∀ l : List Nat, (l.map ((fun x : Str => x.length) ∘ fun c => tx [c])).sum = l.length := by
          intro l
          induction l with
          | nil => rfl
          | cons x l ih =>
            rw [List.map_cons, List.sum_cons, ih, List.length_cons]
            show (tx [x]).length + l.length = l.length + 1
            rw [tx_len]
            simp
            omega
        rw [e, List.length_map, tx_len]
        simp
        omega
      · rw [nil_lit, join_abc]
        exact k _ _ ha (by omega) (S3.trans S4) (B4.mono (by omega))
abbrev s__law_near : Stmt := topS 23
abbrev N__law_near : List Str := ["bag", "word", "way", "sign"]
theorem sc__law_near : FnScope ["bag", "word", "way", "sign"] ["bag", "word"] (defScope s__law_near) := ⟨rfl, rfl, rfl, by decide +kernel, rfl, by decide +kernel, by decide +kernel⟩

abbrev s__law_some : Stmt := topS 25
abbrev N__law_some : List Str := ["bag", "pool"]
theorem sc__law_some : FnScope ["bag", "pool"] ["bag", "pool"] (defScope s__law_some) := ⟨rfl, rfl, rfl, by decide +kernel, rfl, by decide +kernel, by decide +kernel⟩

theorem a_lit : ("a" : Str) = tx [97] := by decide +kernel
theorem atx {l m : List Nat} (h : Abc l) (e : l = m) : Abc m := e ▸ h
def spNear : Sp := fun vs H Q _ => ∃ (b : Addr) (n : Nat) (l : List Nat), vs = [.ref b, Tx l] ∧ Bag H b n ∧ n + 10 < 2 ^ 30 ∧ Abc l ∧ l.length ≤ 12 ∧ ∀ m H', Abc m → m.length ≤ 12 → Stp [b] H H' → Bag H' b (n + 3) → Q (Tx m) H'
theorem cl__law_near {f : Addr} {fd : FuncData} (D : Df K mg "_law_near" s__law_near ["bag", "word"] f fd) (T : Nm mg) (c__law_draw : Cl P w K mg base 1 "_law_draw" s__law_draw ["bag", "upto"] spDraw) : Cl P w K mg base 2 "_law_near" s__law_near ["bag", "word"] spNear := by
  refine D.cl sc__law_near (fun vs H Q E h => ?_) (fun cdv A outer s H vs Q E hr h => ?_)
  · obtain ⟨b, n, l, rfl, _⟩ := h
    rfl
  · obtain ⟨b, n, l, rfl, B, hn, ha, hl, k⟩ := h
    refine ⟨_, (pss_cons (ps_par (i := 2) (j := 3) rfl sc__law_near.nd rfl rfl (by decide) rfl rfl (pa_cons (pe_cl c__law_draw hr (by omega) (pa_cons (pv 0) (pa_cons pe_int pa_nil))) (pa_cons (pe_ix ix_str pe_str (pe_cl c__law_draw hr (by omega) (pa_cons (pv 0) (pa_cons pe_int pa_nil))) (fun _ _ => rfl)) pa_nil)) (by rfl))
      (pss_cons (ps_if (pt_cmpR op_lt (pv 2) pe_int (by first | exact nomark _ | rfl)) (pss_one (ps_ret (pv 1))) pss_nil)
      (pss_cons (ps_if (pt_cmpR op_lt (pv 2) pe_int (by first | exact nomark _ | rfl)) (pss_one (ps_ret (pe_slice sl_str (pe_op op_add_str (pe_op op_add_str (pv 1) (pe_op Pg.op_mul_str pe_str (pe_op op_sub (pv 2) pe_int))) (pv 3)) po_none (po_some pe_int)))) pss_nil)
      (pss_cons (ps_if (pt_cmpR op_eq (pv 2) pe_int (by first | exact nomark _ | rfl)) (pss_one (ps_ret (pe_slice sl_str (pe_op op_add_str (pv 1) (pe_op Pg.op_mul_str (pv 3) pe_int)) po_none (po_some pe_int)))) pss_nil)
      (pss_cons (ps_if (pt_cmpR op_eq (pv 2) pe_int (by first | exact nomark _ | rfl)) (pss_one (ps_ret (pe_op op_add_str (pe_slice sl_str (pv 1) po_none (po_some (pe_un un_neg pe_int))) (pv 3)))) pss_nil)
      (pss_cons (ps_if (pt_cmpR op_eq (pv 2) pe_int (by first | exact nomark _ | rfl)) (pss_one (ps_ret (pe_slice sl_str (pv 1) po_none (po_some (pe_un un_neg pe_int))))) pss_nil)
      (pss_one (ps_ret (pe_slice sl_str (pv 1) po_none (po_some (pe_cl c__law_draw hr (by omega) (pa_cons (pv 0) (pa_cons (pe_op op_add (pe_callB call_len_str (by rfl) T.n_len (by decide +kernel) (pa_cons (pv 1) pa_nil)) pe_int) pa_nil))))))))))))), ?_⟩
    refine ⟨_, rfl, b, 8, n, rfl, B, by omega, by decide, by decide, fun way H1 w0 w1 o1 B1 => ?_⟩
    refine ⟨_, rfl, b, 3, n + 1, rfl, B1, by omega, by decide, by decide, fun d H2 d0 d1 o2 B2 => ?_⟩
    have S2 : Stp [b] H H2 := (o1.stp (List.mem_singleton.mpr rfl)).trans (o2.stp (List.mem_singleton.mpr rfl))
    obtain ⟨c, mc, ec⟩ := pick (xs := [97, 98, 99]) d0 d1
    have hc : c = 97 ∨ c = 98 ∨ c = 99 := by
      simp at mc
      exact mc
    refine ⟨("abc" : Str), d, c, rfl, rfl, (by rw [abc_lit]; exact szt (by decide)), (by rw [abc_lit]; exact ec), _, _, rfl, ?_⟩
    refine ⟨_, rfl, _, _, rfl, rfl, _, rfl, ite2 (fun h1 => ?_) (fun h1 => ?_)⟩
    · exact ⟨_, rfl, k _ _ ha hl S2 (B2.mono (by omega))⟩
    have h1 : ¬ way < 2 := fun q => h1 (decide_eq_true q)
    refine ⟨_, rfl, _, _, rfl, rfl, _, rfl, ite2 (fun h2 => ?_) (fun h2 => ?_)⟩
    · have h2 : way < 4 := of_decide_eq_true h2
      refine ⟨_, rfl, _, rfl, _, _, rfl, rfl, tx [97], way - 2, congrArg V.str a_lit, rfl, mulOk 97 (by omega) (by omega), ?_⟩
      refine ⟨tx l, tx (List.replicate (way - 2).toNat 97), rfl, congrArg V.str (tx_mul _ _), (by rw [tx_len, tx_len, List.length_replicate]; exact sz (by omega)), ?_⟩
      refine ⟨_, rfl, tx (l ++ List.replicate (way - 2).toNat 97), tx [c], congrArg V.str (tx_app _ _), rfl, (by rw [tx_len, tx_len, List.length_append, List.length_replicate, List.length_singleton]; exact sz (by omega)), 12, rfl, ?_⟩
      refine ⟨tx (l ++ List.replicate (way - 2).toNat 97 ++ [c]), congrArg V.str (tx_app _ _), szt (by simp; omega), ?_⟩
      show Q _ _
      rw [show cutS _ none (some 12) = _ from tx_upto _ 12]
      exact k _ _ (((ha.app (Abc.rep _ (.inl rfl))).app (Abc.one hc)).take 12) (by rw [List.length_take]; omega) S2 (B2.mono (by omega))
    have h2 : ¬ way < 4 := fun q => h2 (decide_eq_true q)
    refine ⟨_, rfl, rfl, _, rfl, ite2 (fun h3 => ?_) (fun h3 => ?_)⟩
    · refine ⟨_, rfl, _, rfl, tx [c], 12, rfl, rfl, mulOk c (by decide) (by decide), ?_⟩
      refine ⟨tx l, tx (List.replicate (12 : Int).toNat c), rfl, congrArg V.str (tx_mul _ _), (by rw [tx_len, tx_len, List.length_replicate]; exact sz (by simp; omega)), 12, rfl, ?_⟩
      refine ⟨tx (l ++ List.replicate (12 : Int).toNat c), congrArg V.str (tx_app _ _), szt (by simp; omega), ?_⟩
      show Q _ _
      rw [show cutS _ none (some 12) = _ from tx_upto _ 12]
      exact k _ _ ((ha.app (Abc.rep _ hc)).take 12) (by rw [List.length_take]; omega) S2 (B2.mono (by omega))
    refine ⟨_, rfl, rfl, _, rfl, ite2 (fun h4 => ?_) (fun h4 => ?_)⟩
    · refine ⟨_, rfl, 1, rfl, -1, rfl, tx l, rfl, szt (by omega), _, rfl, tx l.dropLast, tx [c], congrArg V.str (tx_init l), rfl, (by rw [tx_len, tx_len, List.length_dropLast, List.length_singleton]; exact sz (by omega)), ?_⟩
      show Q _ _
      rw [tx_app]
      exact k _ _ (ha.init.app (Abc.one hc)) (by rw [List.length_append, List.length_dropLast, List.length_singleton]; omega) S2 (B2.mono (by omega))
    refine ⟨_, rfl, rfl, _, rfl, ite2 (fun h5 => ?_) (fun h5 => ?_)⟩
    · refine ⟨_, rfl, 1, rfl, -1, rfl, tx l, rfl, szt (by omega), ?_⟩
      show Q _ _
      rw [show cutS _ none (some (-1)) = _ from tx_init l]
      exact k _ _ ha.init (by rw [List.length_dropLast]; omega) S2 (B2.mono (by omega))
    · refine ⟨_, rfl, _, rfl, _, rfl, tx l, rfl, szt (by omega), _, _, rfl, rfl, b, _, n + 2, rfl, B2, by omega, ?_, ?_, fun d H3 d0 d1 o3 B3 => ?_⟩
      · have := tx_len l
        omega
      · have := tx_len l
        omega
      obtain ⟨e, rfl⟩ := Int.eq_ofNat_of_zero_le d0
      refine ⟨_, rfl, tx l, rfl, szt (by omega), ?_⟩
      show Q _ _
      rw [show cutS _ none (some (e : Int)) = _ from tx_upto l e]
      exact k _ _ (ha.take _) (by rw [List.length_take]; omega) (S2.trans (o3.stp (List.mem_singleton.mpr rfl))) B3
/-- a pool: some texts -/
def Pool (H : Hp) (p : Addr) (ls : List (List Nat)) : Prop := H p = some (.lst (ls.map Tx)) ∧ ∀ l ∈ ls, Abc l ∧ l.length ≤ 12
def spSome : Sp := fun vs H Q _ => ∃ (b p : Addr) (n : Nat) (ls : List (List Nat)), vs = [.ref b, .ref p] ∧ Bag H b n ∧ n + 40 < 2 ^ 30 ∧ Pool H p ls ∧ ls.length < 2 ^ 20 ∧ b ≠ p ∧ ∀ m H', Abc m → m.length ≤ 12 → Stp [b] H H' → Bag H' b (n + 20) → Q (Tx m) H'
theorem cl__law_some {f : Addr} {fd : FuncData} (D : Df K mg "_law_some" s__law_some ["bag", "pool"] f fd) (T : Nm mg) (c__law_draw : Cl P w K mg base 1 "_law_draw" s__law_draw ["bag", "upto"] spDraw)
    (c__law_near : Cl P w K mg base 2 "_law_near" s__law_near ["bag", "word"] spNear) (c__law_text : Cl P w K mg base 2 "_law_text" s__law_text ["bag"] spText) : Cl P w K mg base 3 "_law_some" s__law_some ["bag", "pool"] spSome := by
  refine D.cl sc__law_some (fun vs H Q E h => ?_) (fun cdv A outer s H vs Q E hr h => ?_)
  · obtain ⟨b, p, n, ls, rfl, _⟩ := h
    rfl
  · obtain ⟨b, p, n, ls, rfl, B, hn, ⟨hp, ha⟩, hls, ne, k⟩ := h
    refine ⟨_, (pss_cons (ps_if (PW.pt (pw_and (pt_cmpR (op_neD hr.units) (pv 1) (pe_lst pa_nil) (by first | exact nomark _ | rfl)) (pw_and1 (pt_cmpR op_gt (pe_cl c__law_draw hr (by omega) (pa_cons (pv 0) (pa_cons pe_int pa_nil))) pe_int (by first | exact nomark _ | rfl))))) (pss_one (ps_ret (pe_cl c__law_near hr (by omega) (pa_cons (pv 0) (pa_cons (pe_ix ix_list (pv 1) (pe_cl c__law_draw hr (by omega) (pa_cons (pv 0) (pa_cons (pe_callB call_len_seq (by rfl) T.n_len (by decide +kernel) (pa_cons (pv 1) pa_nil)) pa_nil))) (fun _ _ => rfl)) pa_nil))))) pss_nil)
      (pss_one (ps_ret (pe_cl c__law_text hr (by omega) (pa_cons (pv 0) pa_nil))))), ?_⟩
    have npb : p ∉ [b] := fun m => ne (List.mem_singleton.mp m).symm
    have fin : ∀ H1 m, Stp [b] H H1 → Bag H1 b m → m ≤ n + 2 → tRet (tCl spText (tCons (tVar 0) tNil)) { nx := fun _ H' => Q .non H', rt := Q } (start N__law_some [.ref b, .ref p]) H1 := fun H1 m S1 B1 hm => by
      refine ⟨_, rfl, b, m, rfl, B1, by omega, fun l H2 hl hll S2 B2 => ?_⟩
      exact k l H2 hl hll (S1.trans S2) (B2.mono (by omega))
    refine ⟨_, rfl, Nat.zero_le _, fun q hq => ?_⟩
    have S0 : Stp [b] H (upd H q (.lst [])) := Stp.new hq _
    have B0 := B.upd (o := .lst []) (B.ne hq)
    refine ne_nil_strs (SqL.of (S0.kp _ _ npb hp)) (fun l m => (ha l m).1) upd_same ?_
    cases ls with
    | nil => exact ⟨false, rfl, fin _ n S0 B0 (by omega)⟩
    | cons l0 ls =>
    refine ⟨true, rfl, ?_⟩
    refine ⟨_, rfl, b, 3, n, rfl, B0, by omega, by decide, by decide, fun d H1 d0 d1 o1 B1 => ?_⟩
    have S1 : Stp [b] H H1 := S0.trans (o1.stp (List.mem_singleton.mpr rfl))
    refine ⟨_, _, rfl, rfl, _, rfl, ite2 (fun h1 => ?_) (fun h1 => ?_)⟩
    · refine ⟨_, rfl, _, rfl, _, rfl, _, rfl, p, _, rfl, .inl (SqL.of (S1.kp _ _ npb hp)), b, _, n + 1, rfl, B1, by omega, ?_, ?_, fun e H2 e0 e1 o2 B2 => ?_⟩
      · rw [List.length_map, List.length_cons]
        omega
      · rw [List.length_map]
        omega
      have S2 : Stp [b] H H2 := S1.trans (o2.stp (List.mem_singleton.mpr rfl))
      obtain ⟨v, mv, ev⟩ := pick e0 e1
      obtain ⟨m, mm, rfl⟩ := List.mem_map.mp mv
      refine ⟨p, _, e, Tx m, rfl, rfl, SqL.of (S2.kp _ _ npb hp), ev, b, n + 2, m, rfl, B2, by omega, (ha m mm).1, (ha m mm).2, fun m' H3 a3 l3 S3 B3 => ?_⟩
      exact k m' H3 a3 l3 (S2.trans S3) (B3.mono (by omega))
    · exact fin H1 (n + 1) S1 B1 (by omega)
abbrev s_is_text : Stmt := topS 5
abbrev N_is_text : List Str := ["value"]
theorem sc_is_text : FnScope ["value"] ["value"] (defScope s_is_text) := ⟨rfl, rfl, rfl, by decide +kernel, rfl, by decide +kernel, by decide +kernel⟩

/-! ### is_text -/
def IsTx (d : Dt) : Prop := ∃ l, d = .str l ∧ Abc l
def spIsText (K : PySem.W.Frag) : Sp := fun vs H Q _ => ∃ v d, vs = [v] ∧ Rp K H v d ∧ ∀ b : Bool, (b = true ↔ IsTx d) → Q (.bl b) H
theorem cl_is_text {f : Addr} {fd : FuncData} (D : Df K mg "is_text" s_is_text ["value"] f fd) (T : Nm mg) : Cl P w K mg base 1 "is_text" s_is_text ["value"] (spIsText K) := by
  refine D.cl sc_is_text (fun vs H Q E h => ?_) (fun cdv A outer s H vs Q E hr h => ?_)
  · obtain ⟨v, d, rfl, _⟩ := h
    rfl
  · obtain ⟨v, d, rfl, r, k⟩ := h
    refine ⟨_, (pss_one (ps_ret (pe_and (pe_tyIs (T := "str") Mono.var (pv 0) T.n_type T.n_str (by decide +kernel)) (pe_one (pe_cmpR op_eq (pe_bm PySem.F.plainAttrs_str PySem.F.slot_str_strip PySem.F.type_str_strip mt_stripChars (pv 0) (pa_cons pe_str pa_nil)) pe_str (by first | exact nomark _ | rfl)))))), ?_⟩
    have no : (∀ l, d ≠ .str l) → Q (.bl false) H := fun n => k false ⟨fun e => (nomatch e), fun ⟨l, e, _⟩ => absurd e (n l)⟩
    refine ⟨_, rfl, d, r, _, rfl, ?_⟩
    cases r with
    | str l hl =>
      refine ⟨_, rfl, rfl, tx l, ("abc" : Str), rfl, rfl, szt hl, rfl, ?_⟩
      refine k _ ?_
      rw [abc_lit, nil_lit]
      constructor
      · intro h
        exact ⟨l, rfl, (strip_abc l).mp (V.str.inj (of_decide_eq_true h))⟩
      · rintro ⟨l', e, ha⟩
        cases e
        exact decide_eq_true (congrArg V.str ((strip_abc l).mpr ha))
    | _ => exact no (fun l e => nomatch e)
/-! ### spans: what they are -/
abbrev Txt := List Nat
abbrev Pr := Txt × Option Txt
theorem le_of_nlt {a b : Txt} (h : ¬ b < a) : a ≤ b := List.not_lt.mp h
theorem nlt_of_le {a b : Txt} (h : a ≤ b) : ¬ b < a := List.not_lt.mpr h
theorem lt_le {a b c : Txt} (h : a < b) (g : b ≤ c) : a < c := by
  by_cases q : a < c
  · exact q
  · exact absurd (List.lt_of_le_of_lt (le_of_nlt q) h) (nlt_of_le g)
theorem le_lt {a b c : Txt} (h : a ≤ b) (g : b < c) : a < c := List.lt_of_le_of_lt h g
theorem lt_le' {a b : Txt} (h : a < b) : a ≤ b := List.le_of_lt h
theorem nil_le (a : Txt) : ([] : Txt) ≤ a := le_of_nlt (by intro h; cases h)
def Short (l : Txt) : Prop := Abc l ∧ l.length ≤ 12
def PrOk (p : Pr) : Prop := Short p.1 ∧ ∀ e, p.2 = some e → Short e ∧ p.1 < e
def PrS (p : Pr) : Prop := Short p.1 ∧ ∀ e, p.2 = some e → Short e
theorem PrOk.s {p : Pr} (h : PrOk p) : PrS p := ⟨h.1, fun e q => (h.2 e q).1⟩
def Gap (p q : Pr) : Prop := ∃ e, p.2 = some e ∧ e < q.1
structure SpOk (ps : List Pr) : Prop where
  ok : ∀ p ∈ ps, PrOk p
  gap : ps.Pairwise Gap
theorem SpOk.nil : SpOk [] := ⟨fun _ m => (nomatch m), .nil⟩
theorem SpOk.tail {p : Pr} {ps : List Pr} (h : SpOk (p :: ps)) : SpOk ps := ⟨fun q m => h.ok q (List.mem_cons_of_mem _ m), (List.pairwise_cons.mp h.gap).2⟩
/-- a text stands in a range, in a span -/
def inP (w : Txt) (p : Pr) : Bool := decide (p.1 ≤ w) && (match p.2 with | none => true | some e => decide (w < e))
def inS (ps : List Pr) (w : Txt) : Bool := ps.any (inP w)
theorem inP_low {w : Txt} {p : Pr} (h : w < p.1) : inP w p = false := by
  unfold inP
  rw [decide_eq_false (fun q => nlt_of_le q h)]
  rfl
theorem inS_low {ps : List Pr} {w : Txt} (h : ∀ p ∈ ps, w < p.1) : inS ps w = false := by
  unfold inS
  rw [List.any_eq_false]
  intro p m
  rw [inP_low (h p m)]
  simp
theorem firsts {p : Pr} {ps : List Pr} {w : Txt} (h : SpOk (p :: ps)) (g : w ≤ p.1) : ∀ q ∈ ps, w < q.1 := fun q m => by
  obtain ⟨e, e1, e2⟩ := (List.pairwise_cons.mp h.gap).1 q m
  exact le_lt g (List.lt_trans ((h.ok p List.mem_cons_self).2 e e1).2 e2)
/-- what follows an end -/
def past (e : Option Txt) (g : Txt → List Pr) : List Pr := match e with | none => [] | some e => g e
/-- the gaps behind a start -/
def opps : Txt → List Pr → List Pr
  | a, [] => [(a, none)]
  | a, (f, e) :: ps => (if a < f then [(a, some f)] else []) ++ past e fun e => opps e ps
theorem opps_ok : ∀ (ps : List Pr) (a : Txt), SpOk ps → Short a → (∀ p ∈ ps, a ≤ p.1) → SpOk (opps a ps) ∧ ∀ p ∈ opps a ps, a ≤ p.1
  | [], a, _, sa, _ => ⟨⟨fun p m => by
      rw [List.mem_singleton.mp m]
      exact ⟨sa, fun e q => by cases q⟩, List.pairwise_singleton _ _⟩, fun p m => by
      rw [List.mem_singleton.mp m]
      exact le_of_nlt (List.lt_irrefl _)⟩
  | (f, e) :: ps, a, h, sa, g => by
    have gf : a ≤ f := g (f, e) List.mem_cons_self
    have pf := h.ok (f, e) List.mem_cons_self
    have rest : SpOk (past e fun e => opps e ps) ∧ ∀ p ∈ (past e fun e => opps e ps), f < p.1 := by
      cases e with
      | none => exact ⟨.nil, fun _ m => nomatch m⟩
      | some e =>
        obtain ⟨s1, s2⟩ := pf.2 e rfl
        obtain ⟨r1, r2⟩ := opps_ok ps e h.tail s1 fun q m => by
          obtain ⟨e', q1, q2⟩ := (List.pairwise_cons.mp h.gap).1 q m
          cases q1
          exact lt_le' q2
        exact ⟨r1, fun p m => lt_le s2 (r2 p m)⟩
    unfold opps
    obtain ⟨r1, r2⟩ := rest
    by_cases c : a < f
    · rw [if_pos c]
      refine ⟨⟨fun p m => ?_, List.pairwise_cons.mpr ⟨fun q m => ⟨f, rfl, r2 q m⟩, r1.gap⟩⟩, fun p m => ?_⟩
      · rcases List.mem_cons.mp m with rfl | m
        · exact ⟨sa, fun e q => by cases q; exact ⟨pf.1, c⟩⟩
        · exact r1.ok p m
      · rcases List.mem_cons.mp m with rfl | m
        · exact le_of_nlt (List.lt_irrefl _)
        · exact lt_le' (le_lt gf (r2 p m))
    · rw [if_neg c]
      exact ⟨r1, fun p m => lt_le' (le_lt gf (r2 p m))⟩
theorem opps_in : ∀ (ps : List Pr) (a w : Txt), SpOk ps → Short a → (∀ p ∈ ps, a ≤ p.1) → a ≤ w → inS (opps a ps) w = !inS ps w
  | [], a, w, _, _, _, h => by simp [opps, inS, inP, h]
  | (f, e) :: ps, a, w, h, sa, g, hw => by
    have pf := h.ok (f, e) List.mem_cons_self
    by_cases c : w < f
    · have af : a < f := le_lt hw c
      rw [inS_low (ps := (f, e) :: ps) fun p m => by
        rcases List.mem_cons.mp m with rfl | m
        · exact c
        · exact firsts h (lt_le' c) p m]
      unfold opps inS
      rw [if_pos af, List.any_append]
      simp [inP, hw, c]
    · have fw : f ≤ w := le_of_nlt c
      have e1 : inS (opps a ((f, e) :: ps)) w = inS (past e fun e => opps e ps) w := by
        rw [show opps a ((f, e) :: ps) = (if a < f then [(a, some f)] else []) ++ past e fun e => opps e ps from rfl]
        unfold inS
        rw [List.any_append]
        by_cases q : a < f
        · rw [if_pos q]
          simp [inP, c]
        · rw [if_neg q]
          simp
      rw [e1]
      cases e with
      | none =>
        show false = _
        simp [inS, inP, fw]
      | some e =>
        obtain ⟨s1, s2⟩ := pf.2 e rfl
        have ge : ∀ q ∈ ps, e ≤ q.1 := fun q m => by
          obtain ⟨e', q1, q2⟩ := (List.pairwise_cons.mp h.gap).1 q m
          cases q1
          exact lt_le' q2
        by_cases d : w < e
        · have lo : inS (opps e ps) w = false := inS_low fun p m => lt_le d ((opps_ok ps e h.tail s1 ge).2 p m)
          show inS (opps e ps) w = _
          rw [lo]
          simp [inS, inP, fw, d]
        · show inS (opps e ps) w = _
          rw [opps_in ps e w h.tail s1 ge (le_of_nlt d)]
          simp [inS, inP, fw, d]
theorem opps_len : ∀ (ps : List Pr) (a : Txt), (opps a ps).length ≤ ps.length + 1
  | [], _ => Nat.le_refl _
  | (f, e) :: ps, a => by
    unfold opps
    rw [List.length_append]
    have h1 : (if a < f then [(a, some f)] else [] : List Pr).length ≤ 1 := by split <;> simp
    cases e with
    | none =>
      show _ + 0 ≤ _
      rw [List.length_cons]
      omega
    | some e =>
      have := opps_len ps e
      show _ + (opps e ps).length ≤ _
      rw [List.length_cons]
      omega
theorem le_dec (a b : Txt) : decide (a ≤ b) = !decide (b < a) := by
  by_cases h : b < a
  · rw [decide_eq_true h, decide_eq_false (nlt_of_le · h)]
    rfl
  · rw [decide_eq_false h, decide_eq_true (le_of_nlt h)]
    rfl
/-! ### one normal span for each set of texts -/
theorem le_self (a : Txt) : a ≤ a := le_of_nlt (List.lt_irrefl _)
theorem inP_iff {w : Txt} {p : Pr} : inP w p = true ↔ p.1 ≤ w ∧ ∀ e, p.2 = some e → w < e := by
  obtain ⟨f, e⟩ := p
  unfold inP
  cases e with
  | none => simp
  | some e => simp
theorem inS_cons {p : Pr} {ps : List Pr} {w : Txt} : inS (p :: ps) w = (inP w p || inS ps w) := List.any_cons
theorem inS_app {ps qs : List Pr} {w : Txt} : inS (ps ++ qs) w = (inS ps w || inS qs w) := List.any_append
theorem inS_mem {ps : List Pr} {w : Txt} : inS ps w = true ↔ ∃ p ∈ ps, inP w p = true := by
  unfold inS
  rw [List.any_eq_true]
theorem end_out {p : Pr} {ps : List Pr} (h : SpOk (p :: ps)) {e : Txt} (he : p.2 = some e) : inS (p :: ps) e = false := by
  rw [inS_cons, inS_low (ps := ps) fun q m => by
    obtain ⟨e', e1, e2⟩ := (List.pairwise_cons.mp h.gap).1 q m
    rw [he] at e1
    cases e1
    exact e2]
  rw [Bool.or_false, Bool.eq_false_iff]
  intro c
  exact List.lt_irrefl _ ((inP_iff.mp c).2 e he)
theorem span_uniq : ∀ (as bs : List Pr), SpOk as → SpOk bs → (∀ w, inS as w = inS bs w) → as = bs
  | [], [], _, _, _ => rfl
  | [], q :: qs, _, hb, h => by
    have a := h q.1
    rw [inS_cons, inP_iff.mpr ⟨le_self _, fun e he => ((hb.ok q List.mem_cons_self).2 e he).2⟩] at a
    cases a
  | p :: ps, [], ha, _, h => by
    have a := h p.1
    rw [inS_cons, inP_iff.mpr ⟨le_self _, fun e he => ((ha.ok p List.mem_cons_self).2 e he).2⟩] at a
    cases a
  | p :: ps, q :: qs, ha, hb, h => by
    have pin : inS (p :: ps) p.1 = true := by rw [inS_cons, inP_iff.mpr ⟨le_self _, fun e he => ((ha.ok p List.mem_cons_self).2 e he).2⟩]; rfl
    have qin : inS (q :: qs) q.1 = true := by rw [inS_cons, inP_iff.mpr ⟨le_self _, fun e he => ((hb.ok q List.mem_cons_self).2 e he).2⟩]; rfl
    have low : ∀ {p : Pr} {ps : List Pr} {w : Txt}, SpOk (p :: ps) → w < p.1 → inS (p :: ps) w = false := fun {p ps w} hp l => inS_low fun r m => by
      rcases List.mem_cons.mp m with rfl | m
      · exact l
      · exact firsts hp (lt_le' l) r m
    have f1 : p.1 = q.1 := by
      refine List.le_antisymm (le_of_nlt fun l => ?_) (le_of_nlt fun l => ?_)
      · rw [h, ] at *
        have := low ha l
        rw [h, qin] at this
        cases this
      · have := low hb l
        rw [← h, pin] at this
        cases this
    have f2 : p.2 = q.2 := by
      cases hp : p.2 with
      | none =>
        cases hq : q.2 with
        | none => rfl
        | some d =>
          have a := end_out hb hq
          rw [← h, inS_cons, inP_iff.mpr ⟨by rw [f1]; exact lt_le' ((hb.ok q List.mem_cons_self).2 d hq).2, fun e he => by rw [hp] at he; cases he⟩] at a
          cases a
      | some e =>
        cases hq : q.2 with
        | none =>
          have a := end_out ha hp
          rw [h, inS_cons, inP_iff.mpr ⟨by rw [← f1]; exact lt_le' ((ha.ok p List.mem_cons_self).2 e hp).2, fun d hd => by rw [hq] at hd; cases hd⟩] at a
          cases a
        | some d =>
          congr 1
          refine List.le_antisymm (le_of_nlt fun l => ?_) (le_of_nlt fun l => ?_)
          · have a := end_out hb hq
            rw [← h, inS_cons, inP_iff.mpr ⟨by rw [f1]; exact lt_le' ((hb.ok q List.mem_cons_self).2 d hq).2, fun e' he => by rw [hp] at he; cases he; exact l⟩] at a
            cases a
          · have a := end_out ha hp
            rw [h, inS_cons, inP_iff.mpr ⟨by rw [← f1]; exact lt_le' ((ha.ok p List.mem_cons_self).2 e hp).2, fun d' hd => by rw [hq] at hd; cases hd; exact l⟩] at a
            cases a
    have pq : p = q := Prod.ext f1 f2
    subst pq
    congr 1
    refine span_uniq ps qs ha.tail hb.tail fun w => ?_
    cases hp : p.2 with
    | none =>
      have no : ∀ {ps : List Pr}, SpOk (p :: ps) → ps = [] := fun {ps} hh => by
        cases ps with
        | nil => rfl
        | cons r rs =>
          obtain ⟨e, e1, _⟩ := (List.pairwise_cons.mp hh.gap).1 r List.mem_cons_self
          rw [hp] at e1
          cases e1
      rw [no ha, no hb]
    | some e =>
      have lo : ∀ {ps : List Pr}, SpOk (p :: ps) → w ≤ e → inS ps w = false := fun {ps} hh l => inS_low fun r m => by
        obtain ⟨e', e1, e2⟩ := (List.pairwise_cons.mp hh.gap).1 r m
        rw [hp] at e1
        cases e1
        exact le_lt l e2
      by_cases c : e < w
      · have no : inP w p = false := Bool.eq_false_iff.mpr fun q => List.lt_irrefl _ (List.lt_trans c ((inP_iff.mp q).2 e hp))
        have a := h w
        rw [inS_cons, inS_cons, no] at a
        exact a
      · rw [lo ha (le_of_nlt c), lo hb (le_of_nlt c)]
/-- each range of the normal span begins where one of the ranges does -/
theorem first_of {ds ps : List Pr} (hd : SpOk ds) (h : ∀ w, inS ds w = inS ps w) {d : Pr} (m : d ∈ ds) : ∃ p ∈ ps, p.1 = d.1 := by
  have din : inP d.1 d = true := inP_iff.mpr ⟨le_self _, fun e he => ((hd.ok d m).2 e he).2⟩
  obtain ⟨p, mp, hp⟩ := inS_mem.mp ((h d.1).symm.trans (inS_mem.mpr ⟨d, m, din⟩))
  obtain ⟨p1, p2⟩ := inP_iff.mp hp
  refine ⟨p, mp, List.le_antisymm p1 (le_of_nlt fun lt => ?_)⟩
  have pin : inP p.1 p = true := inP_iff.mpr ⟨le_self _, fun e he => List.lt_trans lt (p2 e he)⟩
  obtain ⟨d', m', hd'⟩ := inS_mem.mp ((h p.1).trans (inS_mem.mpr ⟨p, mp, pin⟩))
  obtain ⟨q1, q2⟩ := inP_iff.mp hd'
  have lt' : d'.1 < d.1 := le_lt q1 lt
  obtain ⟨e, e1, e2⟩ : Gap d' d := by
    obtain ⟨i, hi, ei⟩ := List.mem_iff_getElem.mp m'
    obtain ⟨j, hj, ej⟩ := List.mem_iff_getElem.mp m
    rcases Nat.lt_trichotomy i j with c | c | c
    · have := List.pairwise_iff_getElem.mp hd.gap i j hi hj c
      rwa [ei, ej] at this
    · subst c
      rw [ei] at ej
      subst ej
      exact absurd lt' (List.lt_irrefl _)
    · have := List.pairwise_iff_getElem.mp hd.gap j i hj hi c
      rw [ei, ej] at this
      obtain ⟨e, e1, e2⟩ := this
      exact absurd (List.lt_trans (List.lt_trans ((hd.ok d m).2 e e1).2 e2) lt') (List.lt_irrefl _)
  have ein : inP e p = true := inP_iff.mpr ⟨lt_le' (q2 e e1), fun e' he => List.lt_trans e2 (p2 e' he)⟩
  obtain ⟨c, mc, hc⟩ := inS_mem.mp ((h e).trans (inS_mem.mpr ⟨p, mp, ein⟩))
  obtain ⟨c1, c2⟩ := inP_iff.mp hc
  obtain ⟨i, hi, ei⟩ := List.mem_iff_getElem.mp m'
  obtain ⟨j, hj, ej⟩ := List.mem_iff_getElem.mp mc
  rcases Nat.lt_trichotomy i j with q | q | q
  · have := List.pairwise_iff_getElem.mp hd.gap i j hi hj q
    rw [ei, ej] at this
    obtain ⟨e', f1, f2⟩ := this
    rw [e1] at f1
    cases f1
    exact nlt_of_le c1 f2
  · subst q
    rw [ei] at ej
    subst ej
    exact List.lt_irrefl _ (c2 e e1)
  · have := List.pairwise_iff_getElem.mp hd.gap j i hj hi q
    rw [ei, ej] at this
    obtain ⟨e', f1, f2⟩ := this
    exact List.lt_irrefl _ (List.lt_trans (c2 e' f1) (List.lt_trans f2 (lt_le ((hd.ok d' m').2 e e1).2 (le_self e))))
theorem asc_len : ∀ (xs L : List Txt), xs.Pairwise (· < ·) → (∀ x ∈ xs, x ∈ L) → xs.length ≤ L.length
  | [], _, _, _ => Nat.zero_le _
  | x :: xs, L, pw, h => by
    obtain ⟨p1, p2⟩ := List.pairwise_cons.mp pw
    have mx := h x List.mem_cons_self
    have ih := asc_len xs (L.erase x) p2 fun y m => (List.mem_erase_of_ne fun e => List.lt_irrefl _ (e ▸ p1 y m)).mpr (h y (List.mem_cons_of_mem _ m))
    rw [List.length_erase_of_mem mx] at ih
    have := List.length_pos_of_mem mx
    rw [List.length_cons]
    omega
theorem SpOk.asc {ps : List Pr} (h : SpOk ps) : (ps.map Prod.fst).Pairwise (· < ·) := by
  rw [List.pairwise_map]
  exact h.gap.imp_of_mem fun {p q} mp _ ⟨e, e1, e2⟩ => List.lt_trans ((h.ok p mp).2 e e1).2 e2
theorem norm_len {ds ps : List Pr} (hd : SpOk ds) (h : ∀ w, inS ds w = inS ps w) : ds.length ≤ ps.length := by
  have := asc_len (ds.map Prod.fst) (ps.map Prod.fst) hd.asc fun x m => by
    obtain ⟨d, md, rfl⟩ := List.mem_map.mp m
    obtain ⟨p, mp, e⟩ := first_of hd h md
    exact List.mem_map.mpr ⟨p, mp, e⟩
  rwa [List.length_map, List.length_map] at this
theorem short_nil0 : Short [] := ⟨Abc.nil, Nat.zero_le _⟩
theorem opps_opps {ps : List Pr} (h : SpOk ps) : opps [] (opps [] ps) = ps := by
  have o := opps_ok ps [] h short_nil0 fun p _ => nil_le _
  have oo := opps_ok (opps [] ps) [] o.1 short_nil0 fun p _ => nil_le _
  refine span_uniq _ _ oo.1 h fun w => ?_
  rw [opps_in _ _ _ o.1 short_nil0 (fun p _ => nil_le _) (nil_le _), opps_in _ _ _ h short_nil0 (fun p _ => nil_le _) (nil_le _), Bool.not_not]
abbrev s_is_range : Stmt := topS 6
abbrev N_is_range : List Str := ["value"]
theorem sc_is_range : FnScope ["value"] ["value"] (defScope s_is_range) := ⟨rfl, rfl, rfl, by decide +kernel, rfl, by decide +kernel, by decide +kernel⟩

abbrev s_reaches : Stmt := topS 8
abbrev N_reaches : List Str := ["end", "first"]
theorem sc_reaches : FnScope ["end", "first"] ["end", "first"] (defScope s_reaches) := ⟨rfl, rfl, rfl, by decide +kernel, rfl, by decide +kernel, by decide +kernel⟩

/-! ### ranges as values -/
theorem pg_tupK {X : Cx} {K : PySem.W.Frag} {pos : Pos} {es : List Expr} {k : Nat} {t : TGs} {n : Nat} (hK : X.K = K) (hc : X.calm = true) (h : PGs X es t) (hn : (assignEach es X.env).length = n) (hst : (assignEach es X.env).findIdx? (·.1) = none) : PG X (.Tuple es k pos) (gTup K n t) := by
  subst hK
  exact pg_tup hc h hn hst
theorem ix_tupK {X : Cx} {K : PySem.W.Frag} (hK : X.K = K) : IxR X (rIxT K) := by
  subst hK
  exact ix_tup

def oD : Option Txt → Dt
  | none => .non
  | some l => .str l
def oV : Option Txt → V
  | none => .non
  | some l => Tx l
def prD (p : Pr) : Dt := .tup [.str p.1, oD p.2]
theorem rp_pr {K : PySem.W.Frag} {H : Hp} {v : V} {p : Pr} (r : Rp K H v (prD p)) : ∃ a, v = .ref a ∧ SqT K H a [Tx p.1, oV p.2] := by
  obtain ⟨f, e⟩ := p
  cases r with
  | tup h _ rl =>
    refine ⟨_, rfl, ?_⟩
    cases rl with
    | cons r1 rl =>
      cases rl with
      | cons r2 rl =>
        cases rl
        cases r1
        cases e with
        | none =>
          cases r2
          exact h
        | some e =>
          cases r2
          exact h
theorem pr_rp {K : PySem.W.Frag} {H : Hp} {a : Addr} {p : Pr} (h : SqT K H a [Tx p.1, oV p.2]) (hf : p.1.length ≤ 12) (he : ∀ e, p.2 = some e → e.length ≤ 12) : Rp K H (.ref a) (prD p) := by
  obtain ⟨f, e⟩ := p
  refine .tup h (by simp) (.cons (.str f (by have : f.length ≤ 12 := hf; omega)) (.cons ?_ .nil))
  cases e with
  | none => exact .non
  | some e => exact .str e (by have := he e rfl; omega)
def spIsRange (K : PySem.W.Frag) : Sp := fun vs H Q _ => ∃ (a : Addr) (p : Pr), vs = [.ref a] ∧ SqT K H a [Tx p.1, oV p.2] ∧ PrOk p ∧ Q (.bl true) H
theorem cl_is_range {f : Addr} {fd : FuncData} (D : Df K mg "is_range" s_is_range ["value"] f fd) (T : Nm mg) (c_is_text : Cl P w K mg base 1 "is_text" s_is_text ["value"] (spIsText K)) : Cl P w K mg base 2 "is_range" s_is_range ["value"] (spIsRange K) := by
  refine D.cl sc_is_range (fun vs H Q E h => ?_) (fun cdv A outer s H vs Q E hr h => ?_)
  · obtain ⟨a, p, rfl, _⟩ := h
    rfl
  · obtain ⟨a, ⟨g, e⟩, rfl, hs, ⟨⟨ag, lg⟩, he⟩, k⟩ := h
    refine ⟨_, (pss_cons (ps_if (PW.pt (pw_or (pt_tyNot (T := "tuple") Mono.var (pv 0) T.n_type T.n_tuple (by decide +kernel)) (pw_or (pt_cmpR op_ne (pe_callB call_len_seq (by rfl) T.n_len (by decide +kernel) (pa_cons (pv 0) pa_nil)) pe_int (by first | exact nomark _ | rfl)) (pw_or1 (pt_not (pt_val (pe_cl c_is_text hr (by omega) (pa_cons (pe_ix ix_tup (pv 0) pe_int (fun _ _ => rfl)) pa_nil)))))))) (pss_one (ps_ret pe_bl)) pss_nil)
      (pss_one (ps_ret (pe_or (pe_cmpR op_isN (pe_ix ix_tup (pv 0) pe_int (fun _ _ => rfl)) pe_non (by first | exact nomark _ | rfl)) (pe_one (pe_and (pe_cl c_is_text hr (by omega) (pa_cons (pe_ix ix_tup (pv 0) pe_int (fun _ _ => rfl)) pa_nil)) (pe_one (pe_cmpR op_lt_str (pe_ix ix_tup (pv 0) pe_int (fun _ _ => rfl)) (pe_ix ix_tup (pv 0) pe_int (fun _ _ => rfl)) (by first | exact nomark _ | rfl))))))))), ?_⟩
    have lg : g.length ≤ 12 := lg
    have isT : ∀ (l : Txt) (b : Bool), Abc l → (b = true ↔ IsTx (.str l)) → b = true := fun l b al hb => hb.mpr ⟨l, rfl, al⟩
    refine ⟨_, rfl, .tup [.str g, oD e], pr_rp (p := (g, e)) hs lg (fun e' q => (he e' q).1.2), ?_⟩
    refine ite2 (fun h => absurd h (by simp [Dt.ty])) (fun _ => ?_)
    refine ⟨_, rfl, a, _, rfl, .inr hs, rfl, _, rfl, ite2 (fun h => (by simp at h)) (fun _ => ?_)⟩
    refine ⟨_, rfl, a, _, 0, Tx g, rfl, rfl, hs, at0, Tx g, .str g, rfl, .str g (by omega), fun b hb => ?_⟩
    obtain rfl := isT g b ag hb
    refine ⟨_, rfl, ?_⟩
    refine ⟨_, rfl, a, _, 1, oV e, rfl, rfl, hs, at1, rfl, ?_⟩
    cases e with
    | none => exact ⟨_, rfl, k⟩
    | some e =>
      obtain ⟨⟨ae, le⟩, lt⟩ := he e rfl
      refine ⟨_, rfl, _, rfl, a, _, 1, Tx e, rfl, rfl, hs, at1, Tx e, .str e, rfl, .str e (by omega), fun b hb => ?_⟩
      obtain rfl := isT e b ae hb
      refine ⟨_, rfl, _, rfl, a, _, 0, Tx g, rfl, rfl, hs, at0, _, rfl, a, _, 1, Tx e, rfl, rfl, hs, at1, tx g, tx e, rfl, rfl, ?_⟩
      rw [decide_eq_true (show (tx g).cps.toList < (tx e).cps.toList from lt)]
      exact k
def spReaches : Sp := fun vs H Q _ => ∃ (e f : Txt), vs = [Tx e, Tx f] ∧ e.length ≤ 12 ∧ f.length ≤ 12 ∧ e < f ∧ Q (.bl false) H
theorem cl_reaches {f : Addr} {fd : FuncData} (D : Df K mg "reaches" s_reaches ["end", "first"] f fd) (T : Nm mg) : Cl P w K mg base 1 "reaches" s_reaches ["end", "first"] spReaches := by
  refine D.cl sc_reaches (fun vs H Q E h => ?_) (fun cdv A outer s H vs Q E hr h => ?_)
  · obtain ⟨e, f, rfl, _⟩ := h
    rfl
  · obtain ⟨e, f, rfl, le, lf, lt, k⟩ := h
    refine ⟨_, (pss_one (ps_ret (pe_or (pe_cmpR op_isN (pv 0) pe_non (by first | exact nomark _ | rfl)) (pe_one (pe_cmpR op_ge_str (pv 0) (pv 1) (by first | exact nomark _ | rfl)))))), ?_⟩
    refine ⟨_, rfl, rfl, ?_⟩
    refine ⟨_, rfl, _, rfl, _, rfl, tx e, tx f, rfl, rfl, ?_⟩
    rw [decide_eq_true (show (tx e).cps.toList < (tx f).cps.toList from lt)]
    exact k
/-! ### spans as values -/
structure Spn (K : PySem.W.Frag) (H : Hp) (a : Addr) (ps : List Pr) : Prop where
  ex : ∃ vs, SqT K H a vs ∧ RpL K H vs (ps.map prD)
  ok : SpOk ps
  few : ps.length ≤ 3000
theorem Spn.stp {K : PySem.W.Frag} {H H' : Hp} {S : List Addr} {a : Addr} {ps : List Pr} (h : Spn K H a ps) (s : Stp S H H') (l : Lsts H S) : Spn K H' a ps := by
  obtain ⟨vs, h1, h2⟩ := h.ex
  exact ⟨⟨vs, sqt_stp s l h1, h2.stp s l⟩, h.ok, h.few⟩
theorem prs_get {K : PySem.W.Frag} {H : Hp} {vs : List V} {ps : List Pr} {i : Nat} {v : V} (r : RpL K H vs (ps.map prD)) (h : vs[i]? = some v) : ∃ p, ps[i]? = some p ∧ ∃ a, v = .ref a ∧ SqT K H a [Tx p.1, oV p.2] := by
  obtain ⟨d, e, rd⟩ := r.get h
  rw [List.getElem?_map] at e
  cases q : ps[i]? with
  | none =>
    rw [q] at e
    cases e
  | some p =>
    rw [q] at e
    cases e
    exact ⟨p, rfl, rp_pr rd⟩
theorem short_nil : Short [] := ⟨Abc.nil, Nat.zero_le _⟩
theorem prs_one {K : PySem.W.Frag} {H : Hp} {vs : List V} {ds : List Pr} {v : V} {p : Pr} (r : RpL K H vs (ds.map prD)) (h : Rp K H v (prD p)) : RpL K H (vs ++ [v]) ((ds ++ [p]).map prD) := by
  rw [List.map_append]
  exact r.app (.cons h .nil)
abbrev s_is_span : Stmt := topS 7
abbrev N_is_span : List Str := ["value", "part", "ahead"]
theorem sc_is_span : FnScope ["value", "part", "ahead"] ["value"] (defScope s_is_span) := ⟨rfl, rfl, rfl, by decide +kernel, rfl, by decide +kernel, by decide +kernel⟩

abbrev s_check_span : Stmt := topS 10
abbrev N_check_span : List Str := ["span"]
theorem sc_check_span : FnScope ["span"] ["span"] (defScope s_check_span) := ⟨rfl, rfl, rfl, by decide +kernel, rfl, by decide +kernel, by decide +kernel⟩

theorem lc_zipT {K : PySem.W.Frag} {a b : Addr} {xs ys : List V} {g : TG} {tt : TT} {te : TE} {vs : List Nat} {σ : L2.St} {H1 : Hp} {D : Addr} {Qd : Hp → Prop} (Pv : Nat → Hp → Prop) (h0 : Pv 0 (upd H1 D (.lst []))) (hl : ∀ i H, Pv i H → SqT K H a xs ∧ SqT K H b ys) (le : ys.length ≤ xs.length)
    (hs : ∀ i x y T H, xs[i]? = some x → ys[i]? = some y → Pv i H → H T = none → g (.ref T) (wipe σ vs) (upd H T (.tup [x, y])) fun σ2 H2 => wipe σ2 vs = wipe σ vs ∧ tt σ2 H2 fun b H3 =>
      if b = true then te σ2 H3 fun y H4 => ∃ acc, H4 D = some (.lst acc) ∧ acc.length < sizeLine ∧ Pv (i + 1) (upd H4 D (.lst (acc ++ [y]))) else Pv (i + 1) H3) (hd : ∀ H, Pv ys.length H → Qd H) :
    ∃ W : Nat → Nat → Hp → Prop, (∃ m, W 0 m (upd H1 D (.lst []))) ∧ ∀ i m H, W i m H →
      ((RZ.ItzT K a b).stop i H ∧ Qd H) ∨ ((RZ.ItzT K a b).go i H ∧ ∃ Nx : Hp → Prop, (∀ H', Nx H' → ∃ m', m' < m ∧ W (i + 1) m' H') ∧ ∀ x H', (RZ.ItzT K a b).yld i H x H' → g x (wipe σ vs) H' fun σ2 H2 => wipe σ2 vs = wipe σ vs ∧ tt σ2 H2 fun b H3 =>
        if b = true then te σ2 H3 fun y H4 => ∃ acc, H4 D = some (.lst acc) ∧ acc.length < sizeLine ∧ Nx (upd H4 D (.lst (acc ++ [y]))) else Nx H3) := by
  refine ⟨fun i m H => m = ys.length - i ∧ i ≤ ys.length ∧ Pv i H, ⟨ys.length, by simp, Nat.zero_le _, h0⟩, ?_⟩
  rintro i m H ⟨rfl, hi, p⟩
  obtain ⟨qa, qb⟩ := hl i H p
  by_cases hlt : i < ys.length
  · refine .inr ⟨⟨xs, ys, xs[i], ys[i], qa, qb, by simp, by simp⟩, Pv (i + 1), fun H' p' => ⟨ys.length - (i + 1), by omega, rfl, hlt, p'⟩, fun v H' yy => ?_⟩
    obtain ⟨T, x, y, rfl, nT, rfl, hx, hy⟩ := yy
    exact hs i x y T H (hx xs qa) (hy ys qb) p nT
  · have e : i = ys.length := by omega
    subst e
    exact .inl ⟨⟨xs, ys, qa, qb, .inr (Nat.le_refl _)⟩, hd H p⟩
def spIsSpan (K : PySem.W.Frag) : Sp := fun vs H Q _ => ∃ (a : Addr) (ps : List Pr), vs = [.ref a] ∧ Spn K H a ps ∧ ∀ H', Stp [] H H' → Q (.bl true) H'
theorem all_true {bs : List Bool} (h : ∀ b ∈ bs, b = true) : bs.all id = true := by
  rw [List.all_eq_true]
  exact h
theorem cl_is_span {f : Addr} {fd : FuncData} (D : Df K mg "is_span" s_is_span ["value"] f fd) (T : Nm mg) (c_is_range : Cl P w K mg base 2 "is_range" s_is_range ["value"] (spIsRange K)) (c_reaches : Cl P w K mg base 1 "reaches" s_reaches ["end", "first"] spReaches) :
    Cl P w K mg base 3 "is_span" s_is_span ["value"] (spIsSpan K) := by
  refine D.cl sc_is_span (fun vs H Q E h => ?_) (fun cdv A outer s H vs Q E hr h => ?_)
  · obtain ⟨a, ps, rfl, _⟩ := h
    rfl
  · obtain ⟨a, ps, rfl, ⟨⟨xs, hs, rl⟩, ok, few⟩, k⟩ := h
    have lx : xs.length = ps.length := by rw [rl.len, List.length_map]
    refine ⟨_, (pss_cons (ps_if (PW.pt (pw_or (pt_tyNot (T := "tuple") Mono.var (pv 0) T.n_type T.n_tuple (by decide +kernel)) (pw_or1 (pt_not (pt_val (pe_callB (cr_all rfl) (by rfl) T.n_all (by decide +kernel) (pa_cons (pe_lc (own := [("part", 1)]) rfl sc_is_span.nd (pi_tup (pv 0)) (blkOk_by (own := [("part", 1)]) (N := N_is_span) (sc := defScope s_is_span) (by decide +kernel)) (fun _ _ _ _ _ => (pg_name (i := 1) sc_is_span.nd rfl (by first | exact Or.inl rfl | exact Or.inr rfl))) (fun _ _ _ _ _ => pts_nil) (fun _ _ _ _ _ => (pe_cl c_is_range hr (by omega) (pa_cons (pv 1) pa_nil)))) pa_nil))))))) (pss_one (ps_ret pe_bl)) pss_nil)
      (pss_one (ps_ret (pe_callB (cr_all rfl) (by rfl) T.n_all (by decide +kernel) (pa_cons (pe_lc (own := [("ahead", 2), ("part", 1)]) rfl sc_is_span.nd (RZ.pi_zipA (by rfl) T.n_zip (pa_cons (pv 0) (pa_cons (pe_slice sl_tupA (pv 0) (po_some pe_int) po_none) pa_nil))) (blkOk_by (own := [("ahead", 2), ("part", 1)]) (N := N_is_span) (sc := defScope s_is_span) (by decide +kernel)) (fun _ _ _ _ _ => (pg_tupK (n := 2) rfl rfl (pgs_cons (pg_name (i := 2) sc_is_span.nd rfl (by first | exact Or.inl rfl | exact Or.inr rfl)) (pgs_cons (pg_name (i := 1) sc_is_span.nd rfl (by first | exact Or.inl rfl | exact Or.inr rfl)) pgs_nil (by rfl)) (by rfl)) (by rfl) (by rfl))) (fun _ _ _ _ _ => pts_nil) (fun _ _ _ _ _ => (pe_not (pe_cl c_reaches hr (by omega) (pa_cons (pe_ix (ix_tupK rfl) (pv 2) pe_int (fun _ _ => rfl)) (pa_cons (pe_ix (ix_tupK rfl) (pv 1) pe_int (fun _ _ => rfl)) pa_nil)))))) pa_nil))))), ?_⟩
    refine ⟨_, rfl, .tup (ps.map prD), .tup hs (by omega) rl, ?_⟩
    refine ite2 (fun h => absurd h (by simp [Dt.ty])) (fun _ => ?_)
    refine ⟨_, rfl, a, rfl, ⟨_, hs⟩, fun L nL => ?_⟩
    refine lc_tup (a := a) (xs := xs) (fun i H2 => ∃ bs : List Bool, bs.length = i ∧ H2 L = some (.lst (bs.map V.bl)) ∧ Stp [] H H2 ∧ ∀ b ∈ bs, b = true)
      ⟨[], rfl, upd_same, Stp.new nL _, fun b m => nomatch m⟩ (fun i H2 _ ⟨bs, _, _, S, _⟩ => sqt_stp S Lsts.nil hs) ?_ ?_
    · rintro i x H2 hi ⟨bs, hl, hL, S, hb⟩
      obtain ⟨p, hp, t, rfl, ht⟩ := prs_get rl hi
      refine ⟨rfl, _, rfl, t, p, rfl, sqt_stp S Lsts.nil ht, ok.ok p (List.mem_of_getElem? hp), bs.map V.bl, hL, ?_, bs ++ [true], by simp [hl], ?_, S.mut nL, fun b m => ?_⟩
      · have h1 := (List.getElem?_eq_some_iff.mp hi).1
        rw [List.length_map, hl]
        exact Nat.lt_of_lt_of_le (show i < 100000 by omega) (by decide)
      · rw [List.map_append]
        exact upd_same
      · rcases List.mem_append.mp m with m | m
        · exact hb b m
        · exact List.mem_singleton.mp m
    · rintro H2 ⟨bs, hl, hL, S, hb⟩
      refine ⟨L, bs, rfl, SqL.of hL, ?_⟩
      rw [all_true hb]
      refine ⟨_, rfl, _, rfl, _, rfl, 1, rfl, ?_⟩
      dsimp only
      refine nopart (slA_use (sqt_stp S Lsts.nil hs) fun p H3 S3 hp => ?_)
      have SS := S.trans S3
      have e1 : cutV xs (some (1 : Int)) none = xs.drop 1 := cut_from 1
      rw [e1] at hp
      refine ⟨a, p, xs, _, rfl, .inr ⟨sqt_stp SS Lsts.nil hs, hp, fun L2 nL2 => ?_⟩⟩
      refine lc_zipT (a := a) (b := p) (xs := xs) (ys := xs.drop 1) (fun i H4 => ∃ bs : List Bool, bs.length = i ∧ H4 L2 = some (.lst (bs.map V.bl)) ∧ Stp [] H3 H4 ∧ ∀ b ∈ bs, b = true)
        ⟨[], rfl, upd_same, Stp.new nL2 _, fun b m => nomatch m⟩ (fun i H4 ⟨bs, _, _, S4, _⟩ => ⟨sqt_stp (SS.trans S4) Lsts.nil hs, sqt_stp S4 Lsts.nil hp⟩) (by rw [List.length_drop]; omega) ?_ ?_
      · rintro i x y t H4 hx hy ⟨bs, hl, hL, S4, hb⟩ nt
        rw [List.getElem?_drop, Nat.add_comm] at hy
        obtain ⟨q1, hq1, t1, rfl, ht1⟩ := prs_get rl hx
        obtain ⟨q2, hq2, t2, rfl, ht2⟩ := prs_get rl hy
        obtain ⟨e, ee, lt⟩ : Gap q1 q2 := by
          obtain ⟨i1, g1⟩ := List.getElem?_eq_some_iff.mp hq1
          obtain ⟨i2, g2⟩ := List.getElem?_eq_some_iff.mp hq2
          have := List.pairwise_iff_getElem.mp ok.gap i (i + 1) i1 i2 (by omega)
          rwa [g1, g2] at this
        have S5 : Stp [] H (upd H4 t (.tup [.ref t1, .ref t2])) := SS.trans (S4.new' nt)
        have o1 := ok.ok q1 (List.mem_of_getElem? hq1)
        have o2 := ok.ok q2 (List.mem_of_getElem? hq2)
        have oe : oV q1.2 = Tx e := by rw [ee]; rfl
        refine ⟨t, _, rfl, SqT.of upd_same, rfl, _, _, rfl, _, _, rfl, rfl, ?_⟩
        have h1 : SqT K (upd H4 t (.tup [.ref t1, .ref t2])) t1 [Tx q1.1, Tx e] := by
          rw [← oe]
          exact sqt_stp S5 Lsts.nil ht1
        have nL2t : L2 ≠ t := ne_of_none hL nt
        have hL5 : (upd H4 t (.tup [.ref t1, .ref t2])) L2 = some (.lst (bs.map V.bl)) := by
          rw [upd_ne nL2t]
          exact hL
        refine ⟨rfl, _, rfl, t1, _, 1, Tx e, rfl, rfl, h1, at1, _, rfl, t2, _, 0, Tx q2.1, rfl, rfl, sqt_stp S5 Lsts.nil ht2, at0, e, q2.1, rfl, (o1.2 e ee).1.2, o2.1.2, lt, _, rfl, bs.map V.bl, hL5, ?_, bs ++ [true], by simp [hl], ?_, (S4.new' nt).mut nL2, fun b m => ?_⟩
        · have h1 := (List.getElem?_eq_some_iff.mp hx).1
          rw [List.length_map, hl]
          exact Nat.lt_of_lt_of_le (show i < 100000 by omega) (by decide)
        · rw [List.map_append]
          exact upd_same
        · rcases List.mem_append.mp m with m | m
          · exact hb b m
          · exact List.mem_singleton.mp m
      · rintro H4 ⟨bs, hl, hL, S4, hb⟩
        refine ⟨L2, bs, rfl, SqL.of hL, ?_⟩
        rw [all_true hb]
        exact k _ (SS.trans S4)

def spCkSpan (K : PySem.W.Frag) : Sp := fun vs H Q _ => ∃ (a : Addr) (ps : List Pr), vs = [.ref a] ∧ Spn K H a ps ∧ ∀ H', Stp [] H H' → Q .non H'
theorem cl_check_span {f : Addr} {fd : FuncData} (D : Df K mg "check_span" s_check_span ["span"] f fd) (T : Nm mg) (c_is_span : Cl P w K mg base 3 "is_span" s_is_span ["value"] (spIsSpan K)) : Cl P w K mg base 4 "check_span" s_check_span ["span"] (spCkSpan K) := by
  refine D.cl sc_check_span (fun vs H Q E h => ?_) (fun cdv A outer s H vs Q E hr h => ?_)
  · obtain ⟨a, ps, rfl, _⟩ := h
    rfl
  · obtain ⟨a, ps, rfl, S, k⟩ := h
    refine ⟨_, (pss_one (ps_if (pt_not (pt_val (pe_cl c_is_span hr (by omega) (pa_cons (pv 0) pa_nil)))) (pss_one ps_never) pss_nil)), ?_⟩
    exact ⟨_, rfl, a, ps, rfl, S, fun H' S' => ⟨_, rfl, k H' S'⟩⟩
abbrev s_check_text : Stmt := topS 9
abbrev N_check_text : List Str := ["text"]
theorem sc_check_text : FnScope ["text"] ["text"] (defScope s_check_text) := ⟨rfl, rfl, rfl, by decide +kernel, rfl, by decide +kernel, by decide +kernel⟩

def spCkText : Sp := fun vs H Q _ => ∃ l : Txt, vs = [Tx l] ∧ Short l ∧ Q .non H
theorem cl_check_text {f : Addr} {fd : FuncData} (D : Df K mg "check_text" s_check_text ["text"] f fd) (T : Nm mg) (c_is_text : Cl P w K mg base 1 "is_text" s_is_text ["value"] (spIsText K)) : Cl P w K mg base 2 "check_text" s_check_text ["text"] spCkText := by
  refine D.cl sc_check_text (fun vs H Q E h => ?_) (fun cdv A outer s H vs Q E hr h => ?_)
  · obtain ⟨l, rfl, _⟩ := h
    rfl
  · obtain ⟨l, rfl, ⟨al, ll⟩, k⟩ := h
    refine ⟨_, (pss_one (ps_if (pt_not (pt_val (pe_cl c_is_text hr (by omega) (pa_cons (pv 0) pa_nil)))) (pss_one ps_never) pss_nil)), ?_⟩
    refine ⟨_, rfl, Tx l, .str l, rfl, .str l (by omega), fun b hb => ?_⟩
    obtain rfl : b = true := hb.mpr ⟨l, rfl, al⟩
    exact ⟨_, rfl, k⟩
abbrev s_has : Stmt := topS 15
abbrev N_has : List Str := ["span", "text", "first", "end"]
theorem sc_has : FnScope ["span", "text", "first", "end"] ["span", "text"] (defScope s_has) := ⟨rfl, rfl, rfl, by decide +kernel, rfl, by decide +kernel, by decide +kernel⟩

def swap2 {α : Type} : List α → List α
  | [a, b] => [b, a]
  | _ => []
theorem kb_has_text_span {K : PySem.W.Frag} (f : Addr) (fd : FuncData) (F : Fun K "has" "has" s_has f fd) : KBinds K fd ["span", "text"] ["text", "span"] (fun us ws => match us with | [] => swap2 ws | _ :: _ => []) (fun vs zs => match vs with | [] => swap2 zs | _ :: _ => []) :=
  kb_of (g := swap2) (gV := swap2) F (by simp) (fun kV doc pm an cdv ct ws hl => by
    rcases ws with _ | ⟨a, _ | ⟨b, _ | ⟨c, t⟩⟩⟩
    · cases hl
    · cases hl
    · rfl
    · cases hl) fun {zs ws} r => by
    cases r with
    | nil => exact .nil
    | cons r1 r =>
      cases r with
      | nil => exact .nil
      | cons r2 r =>
        cases r with
        | nil => exact .cons r2 (.cons r1 .nil)
        | cons _ _ => exact .nil
theorem bl_and {a b : Bool} : (if a = true then b else false) = (a && b) := by cases a <;> rfl
def spHas (K : PySem.W.Frag) : Sp := fun vs H Q _ => ∃ (a : Addr) (ps : List Pr) (w : Txt), vs = [.ref a, Tx w] ∧ Spn K H a ps ∧ Short w ∧ ∀ H', Stp [] H H' → Q (.bl (inS ps w)) H'
theorem cl_has {f : Addr} {fd : FuncData} (D : Df K mg "has" s_has ["span", "text"] f fd) (T : Nm mg) (c_check_span : Cl P w K mg base 4 "check_span" s_check_span ["span"] (spCkSpan K)) (c_check_text : Cl P w K mg base 2 "check_text" s_check_text ["text"] spCkText) :
    Cl P w K mg base 5 "has" s_has ["span", "text"] (spHas K) := by
  refine D.cl sc_has (fun vs H Q E h => ?_) (fun cdv A outer s H vs Q E hr h => ?_)
  · obtain ⟨a, ps, l, rfl, _⟩ := h
    rfl
  · obtain ⟨a, ps, l, rfl, sp, sl, k⟩ := h
    refine ⟨_, (pss_cons (ps_expr (pe_cl c_check_span hr (by omega) (pa_cons (pv 0) pa_nil)))
      (pss_cons (ps_expr (pe_cl c_check_text hr (by omega) (pa_cons (pv 1) pa_nil)))
      (pss_one (ps_ret (pe_callB (cr_any rfl) (by rfl) T.n_any (by decide +kernel) (pa_cons (pe_lc (own := [("first", 2), ("end", 3)]) rfl sc_has.nd (pi_tup (pv 0)) (blkOk_by (own := [("first", 2), ("end", 3)]) (N := N_has) (sc := defScope s_has) (by decide +kernel)) (fun _ _ _ _ _ => (pg_tupK (n := 2) rfl rfl (pgs_cons (pg_name (i := 2) sc_has.nd rfl (by first | exact Or.inl rfl | exact Or.inr rfl)) (pgs_cons (pg_name (i := 3) sc_has.nd rfl (by first | exact Or.inl rfl | exact Or.inr rfl)) pgs_nil (by rfl)) (by rfl)) (by rfl) (by rfl))) (fun _ _ _ _ _ => pts_nil) (fun _ _ _ _ _ => (pe_and (pe_cmpR op_le_str (pv 2) (pv 1) (by first | exact nomark _ | rfl)) (pe_one (pe_or (pe_cmpR op_isN (pv 3) pe_non (by first | exact nomark _ | rfl)) (pe_one (pe_cmpR op_lt_str (pv 1) (pv 3) (by first | exact nomark _ | rfl)))))))) pa_nil)))))), ?_⟩
    refine ⟨_, rfl, a, ps, rfl, sp, fun H1 S1 => ?_⟩
    refine ⟨_, rfl, l, rfl, sl, ?_⟩
    obtain ⟨⟨xs, hs, rl⟩, ok, few⟩ := sp.stp S1 Lsts.nil
    have lx : xs.length = ps.length := by rw [rl.len, List.length_map]
    refine ⟨_, rfl, a, rfl, ⟨_, hs⟩, fun L nL => ?_⟩
    refine lc_tup (a := a) (xs := xs) (fun i H2 => H2 L = some (.lst ((ps.take i).map fun p => V.bl (inP l p))) ∧ Stp [] H1 H2)
      ⟨upd_same, Stp.new nL _⟩ (fun i H2 _ ⟨_, S⟩ => sqt_stp S Lsts.nil hs) ?_ ?_
    · rintro i x H2 hi ⟨hL, S⟩
      obtain ⟨p, hp, t, rfl, ht⟩ := prs_get rl hi
      obtain ⟨g, e⟩ := p
      have len : ((ps.take i).map fun p => V.bl (inP l p)).length < sizeLine := by
        rw [List.length_map, List.length_take]
        exact Nat.lt_of_le_of_lt (Nat.min_le_right _ _) (Nat.lt_of_le_of_lt few (by decide))
      have fin : ∀ b : Bool, b = inP l (g, e) → ∃ acc, H2 L = some (.lst acc) ∧ acc.length < sizeLine ∧ (upd H2 L (.lst (acc ++ [.bl b]))) L = some (.lst ((ps.take (i + 1)).map fun p => V.bl (inP l p))) ∧ Stp [] H1 (upd H2 L (.lst (acc ++ [.bl b]))) := fun b hb => by
        refine ⟨_, hL, len, ?_, S.mut nL⟩
        rw [upd_same, List.take_add_one, hp, List.map_append, hb]
        rfl
      refine ⟨t, _, rfl, sqt_stp S Lsts.nil ht, rfl, _, _, rfl, _, _, rfl, rfl, ?_⟩
      refine ⟨rfl, _, rfl, _, rfl, tx g, tx l, rfl, rfl, ?_⟩
      refine ⟨_, rfl, ?_⟩
      refine ite2 (fun h => ?_) (fun h => ?_)
      · have c : ¬ l < g := fun q => by
          rw [decide_eq_true (show (tx l).cps.toList < (tx g).cps.toList from q)] at h
          exact absurd h (by simp)
        have c1 : decide (g ≤ l) = true := by rw [le_dec, decide_eq_false c]; rfl
        cases e with
        | none => exact ⟨_, rfl, rfl, _, rfl, fin true (by unfold inP; rw [c1]; rfl)⟩
        | some e => exact ⟨_, rfl, rfl, _, rfl, _, rfl, _, rfl, tx l, tx e, rfl, rfl, fin _ (by unfold inP; rw [c1]; rfl)⟩
      · have c : l < g := by
          by_cases q : l < g
          · exact q
          · refine absurd ?_ h
            rw [decide_eq_false (show ¬ (tx l).cps.toList < (tx g).cps.toList from q)]
            rfl
        exact fin false (by unfold inP; rw [le_dec, decide_eq_true c]; rfl)
    · rintro H2 ⟨hL, S⟩
      rw [lx, List.take_length] at hL
      have e1 : ps.map (fun p => V.bl (inP l p)) = (ps.map (inP l)).map V.bl := by rw [List.map_map]; rfl
      rw [e1] at hL
      refine ⟨L, _, rfl, SqL.of hL, ?_⟩
      have e2 : (ps.map (inP l)).any id = inS ps l := by
        unfold inS
        rw [List.any_map]
        rfl
      rw [e2]
      exact k _ (S1.trans S)
abbrev s_opposite : Stmt := topS 16
abbrev N_opposite : List Str := ["span", "gaps", "start", "first", "end"]
theorem sc_opposite : FnScope ["span", "gaps", "start", "first", "end"] ["span"] (defScope s_opposite) := ⟨rfl, rfl, rfl, by decide +kernel, rfl, by decide +kernel, by decide +kernel⟩

/-- the end of the range before -/
def endAt (ps : List Pr) : Nat → Option Txt
  | 0 => some []
  | i + 1 => (ps[i]?).bind Prod.snd
theorem end_at {ps : List Pr} (h : SpOk ps) {i : Nat} {p : Pr} (hp : ps[i]? = some p) : ∃ st, endAt ps i = some st ∧ Short st ∧ st ≤ p.1 := by
  cases i with
  | zero => exact ⟨[], rfl, short_nil, nil_le _⟩
  | succ i =>
    obtain ⟨i2, g2⟩ := List.getElem?_eq_some_iff.mp hp
    have i1 : i < ps.length := by omega
    have g := List.pairwise_iff_getElem.mp h.gap i (i + 1) i1 i2 (by omega)
    rw [g2] at g
    obtain ⟨e, e1, e2⟩ := g
    refine ⟨e, ?_, ((h.ok _ (List.getElem_mem i1)).2 e e1).1, lt_le' e2⟩
    show (ps[i]?).bind Prod.snd = _
    rw [List.getElem?_eq_getElem i1]
    exact e1
theorem end_fin {ps : List Pr} (h : SpOk ps) {st : Txt} (e : endAt ps ps.length = some st) : Short st := by
  cases hl : ps.length with
  | zero =>
    rw [hl] at e
    cases e
    exact short_nil
  | succ n =>
    rw [hl] at e
    have i1 : n < ps.length := by omega
    have e' : (ps[n]?).bind Prod.snd = some st := e
    rw [List.getElem?_eq_getElem i1] at e'
    exact ((h.ok _ (List.getElem_mem i1)).2 st e').1
def todo (ps : List Pr) (i : Nat) : List Pr := past (endAt ps i) fun st => opps st (ps.drop i)
theorem todo_step {ps : List Pr} {i : Nat} {p : Pr} {st : Txt} (hp : ps[i]? = some p) (e : endAt ps i = some st) : todo ps i = (if st < p.1 then [(st, some p.1)] else []) ++ todo ps (i + 1) := by
  obtain ⟨i2, g2⟩ := List.getElem?_eq_some_iff.mp hp
  unfold todo
  rw [e, List.drop_eq_getElem_cons i2, g2]
  have e2 : endAt ps (i + 1) = p.2 := by
    show (ps[i]?).bind Prod.snd = _
    rw [hp]
    rfl
  rw [e2]
  rfl
theorem todo_end {ps : List Pr} : todo ps ps.length = past (endAt ps ps.length) fun st => [(st, none)] := by
  unfold todo
  rw [List.drop_length]
  rfl
theorem todo_all {ps : List Pr} : todo ps 0 = opps [] ps := rfl
theorem at2 {α : Type} {xs : List α} {y : α} : (xs ++ [y]) = xs ++ [y] := rfl
def spOpp (K : PySem.W.Frag) : Sp := fun vs H Q _ => ∃ (a : Addr) (ps : List Pr), vs = [.ref a] ∧ Spn K H a ps ∧ ps.length ≤ 2900 ∧ ∀ b H', Stp [] H H' → Spn K H' b (opps [] ps) → Q (.ref b) H'
theorem cl_opposite {f : Addr} {fd : FuncData} (D : Df K mg "opposite" s_opposite ["span"] f fd) (T : Nm mg) (c_check_span : Cl P w K mg base 4 "check_span" s_check_span ["span"] (spCkSpan K)) :
    Cl P w K mg base 5 "opposite" s_opposite ["span"] (spOpp K) := by
  refine D.cl sc_opposite (fun vs H Q E h => ?_) (fun cdv A outer s H vs Q E hr h => ?_)
  · obtain ⟨a, ps, rfl, _⟩ := h
    rfl
  · obtain ⟨a, ps, rfl, sp, few9, k⟩ := h
    refine ⟨_, (pss_cons (ps_expr (pe_cl c_check_span hr (by omega) (pa_cons (pv 0) pa_nil)))
      (pss_cons (ps_set (i := 1) sc_opposite.nd rfl (by first | exact Or.inl rfl | exact Or.inr rfl) (pe_lst pa_nil))
      (pss_cons (ps_set (i := 2) sc_opposite.nd rfl (by first | exact Or.inl rfl | exact Or.inr rfl) pe_str)
      (pss_cons (ps_for PassesOwn.never rfl (pi_tup (pv 0)) (pg_tup rfl (pgs_cons (pg_name (i := 3) sc_opposite.nd rfl (by first | exact Or.inl rfl | exact Or.inr rfl)) (pgs_cons (pg_name (i := 4) sc_opposite.nd rfl (by first | exact Or.inl rfl | exact Or.inr rfl)) pgs_nil (by rfl)) (by rfl)) (by rfl) (by rfl)) (pss_cons (ps_if (pt_cmpR op_lt_str (pv 2) (pv 3) (by first | exact nomark _ | rfl)) (pss_one (ps_expr (pe_bm PySem.F.plainAttrs_list PySem.F.slot_list_append PySem.F.type_list_append mt_append (pv 1) (pa_cons (pe_tup (pa_cons (pv 2) (pa_cons (pv 3) pa_nil))) pa_nil)))) pss_nil)
      (pss_one (ps_set (i := 2) sc_opposite.nd rfl (by first | exact Or.inl rfl | exact Or.inr rfl) (pv 4)))))
      (pss_cons (ps_if (pt_cmpR op_notN (pv 2) pe_non (by first | exact nomark _ | rfl)) (pss_one (ps_expr (pe_bm PySem.F.plainAttrs_list PySem.F.slot_list_append PySem.F.type_list_append mt_append (pv 1) (pa_cons (pe_tup (pa_cons (pv 2) (pa_cons pe_non pa_nil))) pa_nil)))) pss_nil)
      (pss_one (ps_ret (pe_callTy call_tuple_of (by rfl) T.n_tuple (by decide +kernel) (pa_cons (pv 1) pa_nil))))))))), ?_⟩
    refine ⟨_, rfl, a, ps, rfl, sp, fun H1 S1 => ?_⟩
    refine ⟨Nat.zero_le _, fun G nG => ?_⟩
    obtain ⟨⟨xs, hs, rl⟩, ok, few⟩ := sp.stp S1 Lsts.nil
    have lx : xs.length = ps.length := by rw [rl.len, List.length_map]
    have S0 : Stp [] H1 (upd H1 G (.lst [])) := Stp.new nG _
    have ol := opps_len ps []
    refine ⟨_, rfl, a, rfl, ⟨_, sqt_stp S0 Lsts.nil hs⟩, for_tup (a := a) (xs := xs) (fun i σ H2 => ∃ (done : List Pr) (vs : List V) (x3 x4 : Option V), σ = [some (.ref a), some (.ref G), some (oV (endAt ps i)), x3, x4] ∧ H2 G = some (.lst vs) ∧ RpL K H2 vs (done.map prD) ∧ done ++ todo ps i = opps [] ps ∧ Stp [] H1 H2)
      ⟨[], [], _, _, rfl, upd_same, .nil, rfl, S0⟩ (fun i σ H2 _ ⟨_, _, _, _, _, _, _, _, S⟩ => sqt_stp S Lsts.nil hs) ?_ ?_⟩
    · rintro i x σ H2 hi ⟨done, vs, x3, x4, rfl, hG, rd, all, S⟩
      obtain ⟨p, hp, t, rfl, ht⟩ := prs_get rl hi
      obtain ⟨g, e⟩ := p
      obtain ⟨st, est, sst, le⟩ := end_at ok hp
      have o1 := ok.ok _ (List.mem_of_getElem? hp)
      rw [est]
      have lv : vs.length < sizeLine := by
        have := congrArg List.length all
        rw [List.length_append] at this
        rw [rd.len, List.length_map]
        exact Nat.lt_of_le_of_lt (show done.length ≤ 3000 by omega) (by decide)
      have en : endAt ps (i + 1) = e := by
        show (ps[i]?).bind Prod.snd = _
        rw [hp]
        rfl
      refine ⟨t, _, rfl, sqt_stp S Lsts.nil ht, rfl, _, _, rfl, _, _, rfl, rfl, ?_⟩
      refine ⟨_, rfl, _, rfl, tx st, tx g, rfl, rfl, ?_⟩
      dsimp only
      have len2 : (2 : Nat) ≤ sizeLine := by decide
      have pg : Lsts H2 [G] := .one hG
      refine ⟨_, rfl, ite2 (fun h => ?_) (fun h => ?_)⟩
      · have lt : st < g := of_decide_eq_true h
        refine ⟨_, rfl, .inl ⟨rfl, _, SqL.of hG⟩, _, rfl, _, rfl, len2, fun t2 nt2 => ?_⟩
        have nG2 : G ≠ t2 := ne_of_none hG nt2
        have hG3 : (upd H2 t2 (.tup [Tx st, Tx g])) G = some (.lst vs) := by
          rw [upd_ne nG2]
          exact hG
        refine ⟨G, _, _, rfl, rfl, hG3, lv, ?_⟩
        refine ⟨_, rfl, done ++ [(st, some g)], vs ++ [.ref t2], _, _, by rw [en]; rfl, upd_same, ?_, ?_, (S.new' nt2).mut nG⟩
        · have s3 : Stp [] H2 (upd H2 t2 (.tup [Tx st, Tx g])) := Stp.new nt2 _
          have s4 : Stp [G] (upd H2 t2 (.tup [Tx st, Tx g])) (upd (upd H2 t2 (.tup [Tx st, Tx g])) G (.lst (vs ++ [.ref t2]))) := Stp.put (by simp)
          refine prs_one ((rd.stp s3 Lsts.nil).stp s4 (.one hG3)) (pr_rp (p := (st, some g)) (SqT.of ?_) sst.2 fun e q => by cases q; exact o1.1.2)
          rw [upd_ne nG2.symm]
          exact upd_same
        · rw [← all, todo_step hp est, if_pos lt, List.append_assoc]
      · have nlt : ¬ st < g := fun q => h (decide_eq_true q)
        refine ⟨_, rfl, done, vs, _, _, by rw [en]; rfl, hG, rd, ?_, S⟩
        rw [← all, todo_step hp est, if_neg nlt]
        rfl
    · rintro σ H2 ⟨done, vs, x3, x4, rfl, hG, rd, all, S⟩
      rw [lx] at all ⊢
      rw [todo_end] at all
      have len2 : (2 : Nat) ≤ sizeLine := by decide
      have ord := opps_ok ps [] ok short_nil fun p _ => nil_le _
      refine ⟨_, rfl, rfl, _, rfl, ?_⟩
      have lv : vs.length ≤ 3000 := by
        have := congrArg List.length all
        rw [List.length_append] at this
        rw [rd.len, List.length_map]
        omega
      cases en : endAt ps ps.length with
      | none =>
        rw [en] at all
        have all' : done = opps [] ps := by simpa [past] using all
        refine ite2 (fun h => absurd h (by simp [oV])) (fun _ => ?_)
        refine ⟨_, rfl, G, _, rfl, .inl ⟨SqL.of hG, fun b nb => ?_⟩⟩
        refine k b _ (S1.trans (S.new' nb)) ⟨⟨vs, SqT.of upd_same, ?_⟩, ord.1, by omega⟩
        rw [← all']
        exact rd.stp (Stp.new nb _) Lsts.nil
      | some st =>
        rw [en] at all
        have all' : done ++ [(st, none)] = opps [] ps := all
        have sst := end_fin ok en
        refine ite2 (fun _ => ?_) (fun h => absurd (show _ = true from rfl) h)
        refine ⟨_, rfl, .inl ⟨rfl, _, SqL.of hG⟩, _, rfl, len2, fun t2 nt2 => ?_⟩
        have nG2 : G ≠ t2 := ne_of_none hG nt2
        have hG3 : (upd H2 t2 (.tup [Tx st, .non])) G = some (.lst vs) := by
          rw [upd_ne nG2]
          exact hG
        refine ⟨G, _, _, rfl, rfl, hG3, Nat.lt_of_le_of_lt lv (by decide), ?_⟩
        refine ⟨_, rfl, G, _, rfl, .inl ⟨SqL.of upd_same, fun b nb => ?_⟩⟩
        have s3 : Stp [] H2 (upd H2 t2 (.tup [Tx st, .non])) := Stp.new nt2 _
        have s4 : Stp [G] (upd H2 t2 (.tup [Tx st, .non])) (upd (upd H2 t2 (.tup [Tx st, .non])) G (.lst (vs ++ [.ref t2]))) := Stp.put (by simp)
        refine k b _ (S1.trans (((S.new' nt2).mut nG).new' nb)) ⟨⟨_, SqT.of upd_same, ?_⟩, ord.1, by omega⟩
        rw [← all']
        refine RpL.stp (Stp.new nb _) Lsts.nil (prs_one ((rd.stp s3 Lsts.nil).stp s4 (.one hG3)) (pr_rp (p := (st, none)) (SqT.of ?_) sst.2 fun e q => by cases q))
        rw [upd_ne nG2.symm]
        exact upd_same
abbrev s__law_in : Stmt := topS 27
abbrev N__law_in : List Str := ["pairs", "word", "pair"]
theorem sc__law_in : FnScope ["pairs", "word", "pair"] ["pairs", "word"] (defScope s__law_in) := ⟨rfl, rfl, rfl, by decide +kernel, rfl, by decide +kernel, by decide +kernel⟩

/-! ### _law_in -/
theorem pr_dp {K : PySem.W.Frag} {H : Hp} {v : V} {p : Pr} (r : Rp K H v (prD p)) : Dp K H v (.tuple [.str (tx p.1), match p.2 with | none => .none | some e => .str (tx e)]) := by
  obtain ⟨a, rfl, h⟩ := rp_pr r
  refine .tup h (.cons (.str _) (.cons ?_ .nil))
  cases p.2 with
  | none => exact .non
  | some e => exact .str _
def prP (p : Pr) : PyData := .tuple [.str (tx p.1), match p.2 with | none => .none | some e => .str (tx e)]
theorem prs_dp {K : PySem.W.Frag} {H : Hp} : ∀ {vs : List V} {ps : List Pr}, RpL K H vs (ps.map prD) → DpAll K H vs (ps.map prP)
  | _, [], .nil => .nil
  | _, p :: ps, .cons r q => .cons (pr_dp r) (prs_dp q)
theorem layP {p : Pr} (h : PrS p) : PyData.canLay0 (prP p) = true := by
  obtain ⟨f, e⟩ := p
  have a := strOk_abc h.1.1
  cases e with
  | none =>
    show (PyData.canLay0 (.str (tx f)) && (PyData.canLay0 .none && true)) = true
    rw [a]
    rfl
  | some e =>
    have b := strOk_abc (h.2 e rfl).1
    show (PyData.canLay0 (.str (tx f)) && (PyData.canLay0 (.str (tx e)) && true)) = true
    rw [a, b]
    rfl
theorem layPs : ∀ {ps : List Pr}, (∀ p ∈ ps, PrS p) → PyData.canLayAll0 (ps.map prP) = true
  | [], _ => rfl
  | p :: ps, h => by
    show (PyData.canLay0 (prP p) && PyData.canLayAll0 (ps.map prP)) = true
    rw [layP (h p List.mem_cons_self), layPs fun q m => h q (List.mem_cons_of_mem _ m)]
    rfl
theorem depP (p : Pr) : PyData.depth (prP p) = 1 := by
  obtain ⟨f, e⟩ := p
  cases e <;> rfl
theorem depPs : ∀ (ps : List Pr), PyData.depthAll (ps.map prP) ≤ 1
  | [] => Nat.zero_le _
  | p :: ps => by
    show max (PyData.depth (prP p)) (PyData.depthAll (ps.map prP)) ≤ 1
    rw [depP]
    exact Nat.max_le.mpr ⟨Nat.le_refl _, depPs ps⟩
theorem shapedPs {ps : List Pr} (h : ∀ p ∈ ps, PrS p) : SeqAt.shaped (.list (ps.map prP)) = true := by
  have d := depPs ps
  unfold SeqAt.shaped
  rw [show PyData.canLay0 (.list (ps.map prP)) = true from layPs h]
  have e : PyData.depth (.list (ps.map prP)) = PyData.depthAll (ps.map prP) + 1 := rfl
  simp [e]
  omega
/-- xs != [], xs ranges -/
theorem ne_nil_prs {K : PySem.W.Frag} {H : Hp} {p q : Addr} {vs : List V} {ps : List Pr} {Q : VK} (hp : SqL K H p vs) (r : RpL K H vs (ps.map prD)) (h : ∀ p ∈ ps, PrS p) (hq : H q = some (.lst [])) (k : Q (.bl (!ps.isEmpty)) H) : rNeD K (.ref p) (.ref q) H Q := by
  refine ⟨.list (ps.map prP), .list [], .lst hp (prs_dp r), .lst (SqL.of hq) .nil, shapedPs h, rfl, ?_⟩
  have e : PyData.eqv (.list (ps.map prP)) (.list []) = ps.isEmpty := by
    cases ps with
    | nil => rfl
    | cons l ls => rfl
  rw [e]
  exact k
theorem any_filter (ps : List Pr) (w : Txt) : (!(ps.filter (inP w)).isEmpty) = inS ps w := by
  induction ps with
  | nil => rfl
  | cons p ps ih =>
    unfold inS at ih ⊢
    rw [List.any_cons, List.filter_cons]
    by_cases c : inP w p = true
    · rw [if_pos c, c]
      rfl
    · rw [if_neg c, ih, Bool.eq_false_iff.mpr c]
      rfl
def spInL (K : PySem.W.Frag) : Sp := fun vs H Q _ => ∃ (a : Addr) (xs : List V) (ps : List Pr) (w : Txt), vs = [.ref a, Tx w] ∧ H a = some (.lst xs) ∧ RpL K H xs (ps.map prD) ∧ (∀ p ∈ ps, PrS p) ∧ ps.length ≤ 1000 ∧ ∀ H', Stp [] H H' → Q (.bl (inS ps w)) H'
theorem cl__law_inL {f : Addr} {fd : FuncData} (D : Df K mg "_law_in" s__law_in ["pairs", "word"] f fd) (T : Nm mg) : Cl P w K mg base 1 "_law_in" s__law_in ["pairs", "word"] (spInL K) := by
  refine D.cl sc__law_in (fun vs H Q E h => ?_) (fun cdv A outer s H vs Q E hr h => ?_)
  · obtain ⟨a, xs, ps, l, rfl, _⟩ := h
    rfl
  · obtain ⟨a, xs, ps, l, rfl, hs, rl, ok, few, k⟩ := h
    refine ⟨_, (pss_one (ps_ret (pe_cmpR (op_neD hr.units) (pe_lc (own := [("pair", 2)]) rfl sc__law_in.nd (pi_list (pv 0)) (blkOk_by (own := [("pair", 2)]) (N := N__law_in) (sc := defScope s__law_in) (by decide +kernel)) (fun _ _ _ _ _ => (pg_name (i := 2) sc__law_in.nd rfl (by first | exact Or.inl rfl | exact Or.inr rfl))) (fun _ _ _ _ _ => (pts_one (PW.pt (pw_and (pt_cmpR op_le_str (pe_ix (ix_tupK rfl) (pv 2) pe_int (fun _ _ => rfl)) (pv 1) (by first | exact nomark _ | rfl)) (pw_and1 (PW.pt (pw_or (pt_cmpR op_isN (pe_ix (ix_tupK rfl) (pv 2) pe_int (fun _ _ => rfl)) pe_non (by first | exact nomark _ | rfl)) (pw_or1 (pt_cmpR op_lt_str (pv 1) (pe_ix (ix_tupK rfl) (pv 2) pe_int (fun _ _ => rfl)) (by first | exact nomark _ | rfl)))))))))) (fun _ _ _ _ _ => (pv 2))) (pe_lst pa_nil) (by first | exact nomark _ | rfl)))), ?_⟩
    have lx : xs.length = ps.length := by rw [rl.len, List.length_map]
    refine ⟨_, rfl, a, rfl, ⟨_, SqL.of hs⟩, fun L nL => ?_⟩
    have aL : a ≠ L := ne_of_none hs nL
    refine lc_list (a := a) (xs := xs) (fun i H2 => ∃ vs, H2 L = some (.lst vs) ∧ RpL K H2 vs (((ps.take i).filter (inP l)).map prD) ∧ Stp [] H H2)
      ⟨[], upd_same, .nil, Stp.new nL _⟩ (fun i H2 _ ⟨_, _, _, S⟩ => SqL.of (S.kp _ _ (fun m => nomatch m) hs)) ?_ ?_
    · rintro i x H2 hi ⟨vs, hL, rv, S⟩
      obtain ⟨p, hp, t, rfl, ht⟩ := prs_get rl hi
      obtain ⟨g, e⟩ := p
      have o1 := ok _ (List.mem_of_getElem? hp)
      have ht2 : SqT K H2 t [Tx g, oV e] := sqt_stp S Lsts.nil ht
      have lv : vs.length < sizeLine := by
        have h1 := rv.len
        rw [List.length_map] at h1
        have h2 := List.length_filter_le (inP l) (ps.take i)
        rw [List.length_take] at h2
        exact Nat.lt_of_le_of_lt (show vs.length ≤ 1000 by omega) (by decide)
      have tk : (ps.take (i + 1)).filter (inP l) = (ps.take i).filter (inP l) ++ (if inP l (g, e) = true then [(g, e)] else []) := by
        rw [List.take_add_one, hp, List.filter_append]
        congr 1
        show List.filter (inP l) [(g, e)] = _
        rw [List.filter_cons]
        rfl
      have yes : inP l (g, e) = true → ∃ acc, H2 L = some (.lst acc) ∧ acc.length < sizeLine ∧ ∃ vs, (upd H2 L (.lst (acc ++ [.ref t]))) L = some (.lst vs) ∧ RpL K (upd H2 L (.lst (acc ++ [.ref t]))) vs (((ps.take (i + 1)).filter (inP l)).map prD) ∧ Stp [] H (upd H2 L (.lst (acc ++ [.ref t]))) := fun c => by
        refine ⟨vs, hL, lv, _, upd_same, ?_, S.mut nL⟩
        rw [tk, if_pos c]
        have s4 : Stp [L] H2 (upd H2 L (.lst (vs ++ [.ref t]))) := Stp.put (by simp)
        exact prs_one (rv.stp s4 (.one hL)) (pr_rp (sqt_stp s4 (.one hL) ht2) o1.1.2 fun e' q => (o1.2 e' q).2)
      have no : inP l (g, e) = false → ∃ vs, H2 L = some (.lst vs) ∧ RpL K H2 vs (((ps.take (i + 1)).filter (inP l)).map prD) ∧ Stp [] H H2 := fun c => by
        refine ⟨vs, hL, ?_, S⟩
        rw [tk, if_neg (by rw [c]; simp), List.append_nil]
        exact rv
      refine ⟨rfl, _, rfl, t, _, 0, Tx g, rfl, rfl, ht2, at0, _, rfl, tx g, tx l, rfl, rfl, _, rfl, ite2 (fun h => ?_) (fun h => ?_)⟩
      · have c : ¬ l < g := fun q => by
          rw [decide_eq_true (show (tx l).cps.toList < (tx g).cps.toList from q)] at h
          exact absurd h (by simp)
        have c1 : decide (g ≤ l) = true := by rw [le_dec, decide_eq_false c]; rfl
        refine ⟨_, rfl, t, _, 1, oV e, rfl, rfl, ht2, at1, rfl, _, rfl, ?_⟩
        cases e with
        | none => exact ⟨_, rfl, yes (by unfold inP; rw [c1]; rfl)⟩
        | some e =>
          refine ⟨_, rfl, _, rfl, t, _, 1, Tx e, rfl, rfl, ht2, at1, tx l, tx e, rfl, rfl, _, rfl, ite2 (fun h => ?_) (fun h => ?_)⟩
          · exact ⟨_, rfl, yes (by unfold inP; rw [c1]; exact h)⟩
          · exact no (by unfold inP; rw [c1]; exact Bool.eq_false_iff.mpr h)
      · have c : l < g := by
          by_cases q : l < g
          · exact q
          · refine absurd ?_ h
            rw [decide_eq_false (show ¬ (tx l).cps.toList < (tx g).cps.toList from q)]
            rfl
        exact no (by unfold inP; rw [le_dec, decide_eq_true c]; rfl)
    · rintro H2 ⟨vs, hL, rv, S⟩
      rw [lx, List.take_length] at rv
      refine ⟨Nat.zero_le _, fun q nq => ?_⟩
      have qL : L ≠ q := ne_of_none hL nq
      refine ne_nil_prs (SqL.of (Eq.trans (upd_ne qL) hL)) (rv.stp (Stp.new nq _) Lsts.nil) (fun p m => ok p (List.mem_filter.mp m).1) upd_same ?_
      rw [any_filter]
      exact k _ (S.new' nq)
def spInT (K : PySem.W.Frag) : Sp := fun vs H Q _ => ∃ (a : Addr) (xs : List V) (ps : List Pr) (w : Txt), vs = [.ref a, Tx w] ∧ SqT K H a xs ∧ RpL K H xs (ps.map prD) ∧ (∀ p ∈ ps, PrS p) ∧ ps.length ≤ 1000 ∧ ∀ H', Stp [] H H' → Q (.bl (inS ps w)) H'
theorem cl__law_inT {f : Addr} {fd : FuncData} (D : Df K mg "_law_in" s__law_in ["pairs", "word"] f fd) (T : Nm mg) : Cl P w K mg base 1 "_law_in" s__law_in ["pairs", "word"] (spInT K) := by
  refine D.cl sc__law_in (fun vs H Q E h => ?_) (fun cdv A outer s H vs Q E hr h => ?_)
  · obtain ⟨a, xs, ps, l, rfl, _⟩ := h
    rfl
  · obtain ⟨a, xs, ps, l, rfl, hs, rl, ok, few, k⟩ := h
    refine ⟨_, (pss_one (ps_ret (pe_cmpR (op_neD hr.units) (pe_lc (own := [("pair", 2)]) rfl sc__law_in.nd (pi_tup (pv 0)) (blkOk_by (own := [("pair", 2)]) (N := N__law_in) (sc := defScope s__law_in) (by decide +kernel)) (fun _ _ _ _ _ => (pg_name (i := 2) sc__law_in.nd rfl (by first | exact Or.inl rfl | exact Or.inr rfl))) (fun _ _ _ _ _ => (pts_one (PW.pt (pw_and (pt_cmpR op_le_str (pe_ix (ix_tupK rfl) (pv 2) pe_int (fun _ _ => rfl)) (pv 1) (by first | exact nomark _ | rfl)) (pw_and1 (PW.pt (pw_or (pt_cmpR op_isN (pe_ix (ix_tupK rfl) (pv 2) pe_int (fun _ _ => rfl)) pe_non (by first | exact nomark _ | rfl)) (pw_or1 (pt_cmpR op_lt_str (pv 1) (pe_ix (ix_tupK rfl) (pv 2) pe_int (fun _ _ => rfl)) (by first | exact nomark _ | rfl)))))))))) (fun _ _ _ _ _ => (pv 2))) (pe_lst pa_nil) (by first | exact nomark _ | rfl)))), ?_⟩
    have lx : xs.length = ps.length := by rw [rl.len, List.length_map]
    refine ⟨_, rfl, a, rfl, ⟨_, hs⟩, fun L nL => ?_⟩
    refine lc_tup (a := a) (xs := xs) (fun i H2 => ∃ vs, H2 L = some (.lst vs) ∧ RpL K H2 vs (((ps.take i).filter (inP l)).map prD) ∧ Stp [] H H2)
      ⟨[], upd_same, .nil, Stp.new nL _⟩ (fun i H2 _ ⟨_, _, _, S⟩ => sqt_stp S Lsts.nil hs) ?_ ?_
    · rintro i x H2 hi ⟨vs, hL, rv, S⟩
      obtain ⟨p, hp, t, rfl, ht⟩ := prs_get rl hi
      obtain ⟨g, e⟩ := p
      have o1 := ok _ (List.mem_of_getElem? hp)
      have ht2 : SqT K H2 t [Tx g, oV e] := sqt_stp S Lsts.nil ht
      have lv : vs.length < sizeLine := by
        have h1 := rv.len
        rw [List.length_map] at h1
        have h2 := List.length_filter_le (inP l) (ps.take i)
        rw [List.length_take] at h2
        exact Nat.lt_of_le_of_lt (show vs.length ≤ 1000 by omega) (by decide)
      have tk : (ps.take (i + 1)).filter (inP l) = (ps.take i).filter (inP l) ++ (if inP l (g, e) = true then [(g, e)] else []) := by
        rw [List.take_add_one, hp, List.filter_append]
        congr 1
        show List.filter (inP l) [(g, e)] = _
        rw [List.filter_cons]
        rfl
      have yes : inP l (g, e) = true → ∃ acc, H2 L = some (.lst acc) ∧ acc.length < sizeLine ∧ ∃ vs, (upd H2 L (.lst (acc ++ [.ref t]))) L = some (.lst vs) ∧ RpL K (upd H2 L (.lst (acc ++ [.ref t]))) vs (((ps.take (i + 1)).filter (inP l)).map prD) ∧ Stp [] H (upd H2 L (.lst (acc ++ [.ref t]))) := fun c => by
        refine ⟨vs, hL, lv, _, upd_same, ?_, S.mut nL⟩
        rw [tk, if_pos c]
        have s4 : Stp [L] H2 (upd H2 L (.lst (vs ++ [.ref t]))) := Stp.put (by simp)
        exact prs_one (rv.stp s4 (.one hL)) (pr_rp (sqt_stp s4 (.one hL) ht2) o1.1.2 fun e' q => (o1.2 e' q).2)
      have no : inP l (g, e) = false → ∃ vs, H2 L = some (.lst vs) ∧ RpL K H2 vs (((ps.take (i + 1)).filter (inP l)).map prD) ∧ Stp [] H H2 := fun c => by
        refine ⟨vs, hL, ?_, S⟩
        rw [tk, if_neg (by rw [c]; simp), List.append_nil]
        exact rv
      refine ⟨rfl, _, rfl, t, _, 0, Tx g, rfl, rfl, ht2, at0, _, rfl, tx g, tx l, rfl, rfl, _, rfl, ite2 (fun h => ?_) (fun h => ?_)⟩
      · have c : ¬ l < g := fun q => by
          rw [decide_eq_true (show (tx l).cps.toList < (tx g).cps.toList from q)] at h
          exact absurd h (by simp)
        have c1 : decide (g ≤ l) = true := by rw [le_dec, decide_eq_false c]; rfl
        refine ⟨_, rfl, t, _, 1, oV e, rfl, rfl, ht2, at1, rfl, _, rfl, ?_⟩
        cases e with
        | none => exact ⟨_, rfl, yes (by unfold inP; rw [c1]; rfl)⟩
        | some e =>
          refine ⟨_, rfl, _, rfl, t, _, 1, Tx e, rfl, rfl, ht2, at1, tx l, tx e, rfl, rfl, _, rfl, ite2 (fun h => ?_) (fun h => ?_)⟩
          · exact ⟨_, rfl, yes (by unfold inP; rw [c1]; exact h)⟩
          · exact no (by unfold inP; rw [c1]; exact Bool.eq_false_iff.mpr h)
      · have c : l < g := by
          by_cases q : l < g
          · exact q
          · refine absurd ?_ h
            rw [decide_eq_false (show ¬ (tx l).cps.toList < (tx g).cps.toList from q)]
            rfl
        exact no (by unfold inP; rw [le_dec, decide_eq_true c]; rfl)
    · rintro H2 ⟨vs, hL, rv, S⟩
      rw [lx, List.take_length] at rv
      refine ⟨Nat.zero_le _, fun q nq => ?_⟩
      have qL : L ≠ q := ne_of_none hL nq
      refine ne_nil_prs (SqL.of (Eq.trans (upd_ne qL) hL)) (rv.stp (Stp.new nq _) Lsts.nil) (fun p m => ok p (List.mem_filter.mp m).1) upd_same ?_
      rw [any_filter]
      exact k _ (S.new' nq)
abbrev s__law_pieces : Stmt := topS 28
abbrev N__law_pieces : List Str := ["points", "marks", "found", "k", "end"]
theorem sc__law_pieces : FnScope ["points", "marks", "found", "k", "end"] ["points", "marks"] (defScope s__law_pieces) := ⟨rfl, rfl, rfl, by decide +kernel, rfl, by decide +kernel, by decide +kernel⟩

/-! ### _law_pieces -/
structure LastOk (zs : List Txt) (i : Nat) (ds : List Pr) : Prop where
  no : ∀ d, ds.getLast? = some d → d.2 = none → i = zs.length
  yes : ∀ d, ds.getLast? = some d → ∀ e, d.2 = some e → ∃ j, j ≤ i ∧ zs[j]? = some e
theorem LastOk.skip {zs : List Txt} {i : Nat} {ds : List Pr} (h : LastOk zs i ds) (l : i < zs.length) : LastOk zs (i + 1) ds :=
  ⟨fun d e n => by have := h.no d e n; omega, fun d e x q => by obtain ⟨j, a, b⟩ := h.yes d e x q; exact ⟨j, by omega, b⟩⟩
theorem LastOk.next {zs : List Txt} {i : Nat} {ds : List Pr} {z : Txt} (hi : i < zs.length) : LastOk zs (i + 1) (ds ++ [(z, zs[i + 1]?)]) :=
  ⟨fun d e n => by
    rw [List.getLast?_append, List.getLast?_singleton] at e
    cases e
    have n' : zs[i + 1]? = none := n
    have := List.getElem?_eq_none_iff.mp n'
    omega, fun d e x q => by
    rw [List.getLast?_append, List.getLast?_singleton] at e
    cases e
    exact ⟨i + 1, Nat.le_refl _, q⟩⟩
theorem asc {zs : List Txt} (pw : zs.Pairwise (· < ·)) {i j : Nat} {a b : Txt} (h : i < j) (ha : zs[i]? = some a) (hb : zs[j]? = some b) : a < b := by
  obtain ⟨i1, g1⟩ := List.getElem?_eq_some_iff.mp ha
  obtain ⟨i2, g2⟩ := List.getElem?_eq_some_iff.mp hb
  have := List.pairwise_iff_getElem.mp pw i j i1 i2 h
  rwa [g1, g2] at this
theorem grow_new {zs : List Txt} {ds : List Pr} {i : Nat} {z : Txt} (pw : zs.Pairwise (· < ·)) (sh : ∀ z ∈ zs, Short z) (ok : SpOk ds) (la : LastOk zs i ds) (hz : zs[i]? = some z) (ne : ∀ d, ds.getLast? = some d → d.2 ≠ some z) : SpOk (ds ++ [(z, zs[i + 1]?)]) := by
  have hi := (List.getElem?_eq_some_iff.mp hz).1
  refine ⟨fun p m => ?_, List.pairwise_append.mpr ⟨ok.gap, List.pairwise_singleton _ _, fun p mp q mq => ?_⟩⟩
  · rcases List.mem_append.mp m with m | m
    · exact ok.ok p m
    · rw [List.mem_singleton.mp m]
      exact ⟨sh z (List.mem_of_getElem? hz), fun e q => ⟨sh e (List.mem_of_getElem? q), asc pw (Nat.lt_succ_self i) hz q⟩⟩
  · rw [List.mem_singleton.mp mq]
    rcases List.eq_nil_or_concat ds with rfl | ⟨d0, d, rfl⟩
    · cases mp
    rw [List.concat_eq_append] at *
    have gl : (d0 ++ [d]).getLast? = some d := by rw [List.getLast?_append, List.getLast?_singleton]; rfl
    obtain ⟨e, e1, e2⟩ : Gap d (z, zs[i + 1]?) := by
      cases q : d.2 with
      | none =>
        have := la.no d gl q
        omega
      | some e =>
        obtain ⟨j, j1, j2⟩ := la.yes d gl e q
        refine ⟨e, q, ?_⟩
        rcases Nat.lt_or_eq_of_le j1 with j1 | rfl
        · exact asc pw j1 j2 hz
        · rw [hz] at j2
          cases j2
          exact absurd q (ne d gl)
    rcases List.mem_append.mp mp with mp | mp
    · obtain ⟨e', f1, f2⟩ := (List.pairwise_append.mp ok.gap).2.2 p mp d List.mem_cons_self
      exact ⟨e', f1, List.lt_trans f2 (List.lt_trans ((ok.ok d (by simp)).2 e e1).2 e2)⟩
    · rw [List.mem_singleton.mp mp]
      exact ⟨e, e1, e2⟩
theorem grow_old {zs : List Txt} {d0 : List Pr} {d : Pr} {i : Nat} {z : Txt} (pw : zs.Pairwise (· < ·)) (sh : ∀ z ∈ zs, Short z) (ok : SpOk (d0 ++ [d])) (hz : zs[i]? = some z) (e : d.2 = some z) : SpOk (d0 ++ [(d.1, zs[i + 1]?)]) := by
  have od := ok.ok d (by simp)
  refine ⟨fun p m => ?_, List.pairwise_append.mpr ⟨(List.pairwise_append.mp ok.gap).1, List.pairwise_singleton _ _, fun p mp q mq => ?_⟩⟩
  · rcases List.mem_append.mp m with m | m
    · exact ok.ok p (List.mem_append_left _ m)
    · rw [List.mem_singleton.mp m]
      exact ⟨od.1, fun e' q => ⟨sh e' (List.mem_of_getElem? q), List.lt_trans (od.2 z e).2 (asc pw (Nat.lt_succ_self i) hz q)⟩⟩
  · rw [List.mem_singleton.mp mq]
    obtain ⟨e', f1, f2⟩ := (List.pairwise_append.mp ok.gap).2.2 p mp d List.mem_cons_self
    exact ⟨e', f1, f2⟩
/-- what the pieces have: behind each point just what is marked there -/
structure Mem (zs : List Txt) (bs : List Bool) (i : Nat) (ds : List Pr) : Prop where
  yes : ∀ j z b w, j < i → zs[j]? = some z → bs[j]? = some b → z ≤ w → (∀ z', zs[j + 1]? = some z' → w < z') → inS ds w = b
  out : ∀ z w, zs[i]? = some z → z ≤ w → inS ds w = false
theorem Mem.nil {zs : List Txt} {bs : List Bool} : Mem zs bs 0 [] := ⟨fun _ _ _ _ h => absurd h (Nat.not_lt_zero _), fun _ _ _ _ => rfl⟩
theorem Mem.skip {zs : List Txt} {bs : List Bool} {i : Nat} {ds : List Pr} (pw : zs.Pairwise (· < ·)) (m : Mem zs bs i ds) {z : Txt} (hz : zs[i]? = some z) (hb : bs[i]? = some false) : Mem zs bs (i + 1) ds := by
  refine ⟨fun j z' b w hj h1 h2 h3 h4 => ?_, fun z' w h1 h2 => ?_⟩
  · rcases Nat.lt_or_eq_of_le (Nat.lt_succ_iff.mp hj) with q | rfl
    · exact m.yes j z' b w q h1 h2 h3 h4
    · rw [hb] at h2
      cases h2
      exact m.out z' w h1 h3
  · exact m.out z w hz (lt_le' (lt_le (asc pw (Nat.lt_succ_self i) hz h1) h2))
theorem Mem.grow {zs : List Txt} {bs : List Bool} {i : Nat} {ds ds' : List Pr} (pw : zs.Pairwise (· < ·)) (m : Mem zs bs i ds) {z : Txt} (hz : zs[i]? = some z) (hb : bs[i]? = some true)
    (lo : ∀ w, w < z → inS ds' w = inS ds w) (hi : ∀ w, z ≤ w → (inS ds' w = true ↔ ∀ z', zs[i + 1]? = some z' → w < z')) : Mem zs bs (i + 1) ds' := by
  refine ⟨fun j z' b w hj h1 h2 h3 h4 => ?_, fun z' w h1 h2 => ?_⟩
  · rcases Nat.lt_or_eq_of_le (Nat.lt_succ_iff.mp hj) with q | rfl
    · have lt : w < z := by
        have hl : j + 1 < zs.length := by have := (List.getElem?_eq_some_iff.mp hz).1; omega
        have e := List.getElem?_eq_getElem hl
        have a := h4 _ e
        rcases Nat.lt_or_eq_of_le q with c | c
        · exact List.lt_trans a (asc pw c e hz)
        · have c : j + 1 = i := c
          subst c
          rw [hz] at e
          cases e
          exact a
      rw [lo w lt]
      exact m.yes j z' b w q h1 h2 h3 h4
    · rw [hb] at h2
      cases h2
      rw [hz] at h1
      cases h1
      exact (hi w h3).mpr h4
  · rw [Bool.eq_false_iff]
    intro c
    exact List.lt_irrefl _ (lt_le ((hi w (lt_le' (lt_le (asc pw (Nat.lt_succ_self i) hz h1) h2))).mp c z' h1) h2)
theorem Mem.new {zs : List Txt} {bs : List Bool} {i : Nat} {ds : List Pr} (pw : zs.Pairwise (· < ·)) (m : Mem zs bs i ds) {z : Txt} (hz : zs[i]? = some z) (hb : bs[i]? = some true) : Mem zs bs (i + 1) (ds ++ [(z, zs[i + 1]?)]) := by
  refine m.grow pw hz hb (fun w l => ?_) (fun w l => ?_)
  · rw [inS_app, inS_cons, inP_low l]
    show (inS ds w || (false || false)) = _
    simp
  · rw [inS_app, inS_cons, m.out z w hz l, Bool.false_or]
    show (inP w (z, zs[i + 1]?) || false) = true ↔ _
    rw [Bool.or_false, inP_iff]
    exact ⟨fun h => h.2, fun h => ⟨l, h⟩⟩
theorem Mem.old {zs : List Txt} {bs : List Bool} {i : Nat} {d0 : List Pr} {d : Pr} (pw : zs.Pairwise (· < ·)) (m : Mem zs bs i (d0 ++ [d])) {z : Txt} (hz : zs[i]? = some z) (hb : bs[i]? = some true) (e : d.2 = some z) (lt : d.1 < z) : Mem zs bs (i + 1) (d0 ++ [(d.1, zs[i + 1]?)]) := by
  refine m.grow pw hz hb (fun w l => ?_) (fun w l => ?_)
  · rw [inS_app, inS_app]
    congr 1
    rw [inS_cons, inS_cons]
    congr 1
    rw [Bool.eq_iff_iff, inP_iff, inP_iff]
    constructor
    · exact fun h => ⟨h.1, fun e' he => by rw [e] at he; cases he; exact l⟩
    · exact fun h => ⟨h.1, fun e' he => List.lt_trans l (asc pw (Nat.lt_succ_self i) hz he)⟩
  · have o := m.out z w hz l
    rw [inS_app, Bool.or_eq_false_iff] at o
    rw [inS_app, o.1, Bool.false_or, inS_cons]
    show (inP w (d.1, zs[i + 1]?) || false) = true ↔ _
    rw [Bool.or_false, inP_iff]
    exact ⟨fun h => h.2, fun h => ⟨lt_le' (lt_le lt l), h⟩⟩
theorem rpl_set {K : PySem.W.Frag} {H : Hp} : ∀ {vs : List V} {ds : List Dt} {j : Nat} {v : V} {d : Dt}, RpL K H vs ds → Rp K H v d → RpL K H (vs.set j v) (ds.set j d)
  | _, [], _, _, _, .nil, _ => .nil
  | _, _ :: _, 0, _, _, .cons _ r, h => .cons h r
  | _, _ :: _, j + 1, _, _, .cons a r, h => .cons a (rpl_set (j := j) r h)
def spPieces (K : PySem.W.Frag) : Sp := fun vs H Q _ => ∃ (p m : Addr) (zs : List Txt) (bs : List Bool), vs = [.ref p, .ref m] ∧ H p = some (.lst (zs.map Tx)) ∧ H m = some (.lst (bs.map V.bl)) ∧ bs.length = zs.length ∧ zs.Pairwise (· < ·) ∧ (∀ z ∈ zs, Short z) ∧ zs.length ≤ 401 ∧
  ∀ b ps H', Stp [] H H' → Spn K H' b ps → ps.length ≤ 401 → Mem zs bs zs.length ps → Q (.ref b) H'
theorem cl__law_pieces {f : Addr} {fd : FuncData} (D : Df K mg "_law_pieces" s__law_pieces ["points", "marks"] f fd) (T : Nm mg) : Cl P w K mg base 1 "_law_pieces" s__law_pieces ["points", "marks"] (spPieces K) := by
  refine D.cl sc__law_pieces (fun vs H Q E h => ?_) (fun cdv A outer s H vs Q E hr h => ?_)
  · obtain ⟨p, m, zs, bs, rfl, _⟩ := h
    rfl
  · obtain ⟨p, m, zs, bs, rfl, hp, hm, lb, pw, sh, few, k⟩ := h
    refine ⟨_, (pss_cons (ps_set (i := 2) sc__law_pieces.nd rfl (by first | exact Or.inl rfl | exact Or.inr rfl) (pe_lst pa_nil))
      (pss_cons (ps_for PassesOwn.never rfl (pi_range1 (by rfl) T.n_range (pa_cons (pe_callB call_len_seq (by rfl) T.n_len (by decide +kernel) (pa_cons (pv 0) pa_nil)) pa_nil)) (pg_name (i := 3) sc__law_pieces.nd rfl (by first | exact Or.inl rfl | exact Or.inr rfl)) (pss_one (ps_if (pt_val (pe_ix ix_list (pv 1) (pv 3) (fun _ _ => rfl))) (pss_cons (ps_set (i := 4) sc__law_pieces.nd rfl (by first | exact Or.inl rfl | exact Or.inr rfl) (pe_ifExp (pt_cmpR op_lt (pe_op op_add (pv 3) pe_int) (pe_callB call_len_seq (by rfl) T.n_len (by decide +kernel) (pa_cons (pv 0) pa_nil)) (by first | exact nomark _ | rfl)) (pe_ix ix_list (pv 0) (pe_op op_add (pv 3) pe_int) (fun _ _ => rfl)) pe_non))
      (pss_one (ps_if (PW.pt (pw_and (pt_cmpR (op_neD hr.units) (pv 2) (pe_lst pa_nil) (by first | exact nomark _ | rfl)) (pw_and1 (pt_cmpR op_eq (pe_ix ix_tup (pe_ix ix_list (pv 2) (pe_op op_sub (pe_callB call_len_seq (by rfl) T.n_len (by decide +kernel) (pa_cons (pv 2) pa_nil)) pe_int) (fun _ _ => rfl)) pe_int (fun _ _ => rfl)) (pe_ix ix_list (pv 0) (pv 3) (fun _ _ => rfl)) (by first | exact nomark _ | rfl))))) (pss_one (ps_asg (pe_tup (pa_cons (pe_ix ix_tup (pe_ix ix_list (pv 2) (pe_op op_sub (pe_callB call_len_seq (by rfl) T.n_len (by decide +kernel) (pa_cons (pv 2) pa_nil)) pe_int) (fun _ _ => rfl)) pe_int (fun _ _ => rfl)) (pa_cons (pv 4) pa_nil))) (pg_sub (pv 2) (pe_op op_sub (pe_callB call_len_seq (by rfl) T.n_len (by decide +kernel) (pa_cons (pv 2) pa_nil)) pe_int) set_list))) (pss_one (ps_expr (pe_bm PySem.F.plainAttrs_list PySem.F.slot_list_append PySem.F.type_list_append mt_append (pv 2) (pa_cons (pe_tup (pa_cons (pe_ix ix_list (pv 0) (pv 3) (fun _ _ => rfl)) (pa_cons (pv 4) pa_nil))) pa_nil))))))) pss_nil)))
      (pss_one (ps_ret (pe_callTy call_tuple_of (by rfl) T.n_tuple (by decide +kernel) (pa_cons (pv 2) pa_nil)))))), ?_⟩
    refine ⟨Nat.zero_le _, fun F nF => ?_⟩
    have S0 : Stp [] H (upd H F (.lst [])) := Stp.new nF _
    refine ⟨_, rfl, p, _, rfl, .inl (SqL.of (S0.kp _ _ (fun m => nomatch m) hp)), _, rfl, ?_⟩
    rw [List.length_map]
    refine ⟨by omega, by omega, for_range (lo := 0) (n := zs.length) (fun i σ H2 => ∃ (ds : List Pr) (vs : List V) (x3 x4 : Option V), σ = [some (.ref p), some (.ref m), some (.ref F), x3, x4] ∧ H2 F = some (.lst vs) ∧ RpL K H2 vs (ds.map prD) ∧ SpOk ds ∧ ds.length ≤ i ∧ LastOk zs i ds ∧ Mem zs bs i ds ∧ Stp [] H H2)
      ⟨[], [], _, _, rfl, upd_same, .nil, .nil, Nat.zero_le _, ⟨fun d e => (by cases e), fun d e => (by cases e)⟩, Mem.nil, S0⟩ ?_ ?_⟩
    · rintro i σ H2 hi ⟨ds, vs, x3, x4, rfl, hF, rd, ok, ld, la, me, S⟩
      have hp2 : H2 p = some (.lst (zs.map Tx)) := S.kp _ _ (fun m => nomatch m) hp
      have hm2 : H2 m = some (.lst (bs.map V.bl)) := S.kp _ _ (fun m => nomatch m) hm
      obtain ⟨b, hb⟩ : ∃ b, bs[i]? = some b := ⟨bs[i]'(by omega), List.getElem?_eq_getElem _⟩
      obtain ⟨z, hz⟩ : ∃ z, zs[i]? = some z := ⟨zs[i]'(by omega), List.getElem?_eq_getElem _⟩
      have z0 : (0 : Int) + (i : Int) = (i : Int) := Int.zero_add _
      have ab : atI (bs.map V.bl) (0 + (i : Int)) = some (.bl b) := by
        rw [z0]
        exact atI_nat (by rw [List.getElem?_map, hb]; rfl)
      have az : atI (zs.map Tx) (0 + (i : Int)) = some (Tx z) := by
        rw [z0]
        exact atI_nat (by rw [List.getElem?_map, hz]; rfl)
      refine ⟨_, rfl, _, rfl, m, _, _, .bl b, rfl, rfl, SqL.of hm2, ab, b, rfl, ite2 (fun h => ?_) (fun h => ?_)⟩
      · have hbt : bs[i]? = some true := by rw [hb, h]
        refine ⟨_, rfl, _, _, rfl, rfl, _, rfl, p, _, rfl, .inl (SqL.of hp2), _, _, rfl, rfl, _, rfl, ite2 (fun h1 => ?_) (fun h1 => ?_)⟩
        · have h1 : (0 + (i : Int)) + 1 < (zs.length : Int) := by
            have := of_decide_eq_true h1
            rwa [List.length_map] at this
          obtain ⟨en, hen⟩ : ∃ en, en = zs[i + 1]? := ⟨_, rfl⟩
          have ae : atI (zs.map Tx) (0 + (i : Int) + 1) = some (oV en) := by
            rw [z0]
            have hl : i + 1 < zs.length := by omega
            have e2 : zs[i + 1]? = some zs[i + 1] := List.getElem?_eq_getElem hl
            rw [hen, e2]
            exact atI_nat (j := i + 1) (by rw [List.getElem?_map, e2]; rfl)
          refine ⟨_, rfl, _, rfl, _, _, rfl, rfl, p, _, _, oV en, rfl, rfl, SqL.of hp2, ae, ?_⟩
          refine ⟨_, rfl, Nat.zero_le _, fun q nq => ?_⟩
          have qF : F ≠ q := ne_of_none hF nq
          have S3 : Stp [] H2 (upd H2 q (.lst [])) := Stp.new nq _
          refine ne_nil_prs (SqL.of (Eq.trans (upd_ne qF) hF)) (rd.stp S3 Lsts.nil) (fun p m => (ok.ok p m).s) upd_same ?_
          have hF3 : (upd H2 q (.lst [])) F = some (.lst vs) := Eq.trans (upd_ne qF) hF
          have hp3 : (upd H2 q (.lst [])) p = some (.lst (zs.map Tx)) := S3.kp _ _ (fun m => nomatch m) hp2
          have rd3 := rd.stp S3 Lsts.nil
          have SS := S.trans S3
          have len2 : (2 : Nat) ≤ sizeLine := by decide
          have lv : vs.length < sizeLine := by
            rw [rd.len, List.length_map]
            exact Nat.lt_of_le_of_lt (show ds.length ≤ 1000 by omega) (by decide)
          refine ⟨_, rfl, ?_⟩
          rcases List.eq_nil_or_concat ds with rfl | ⟨d0, d, rfl⟩
          · refine ite2 (fun h => absurd h (by simp)) (fun _ => ?_)
            refine ite2 (fun h => (nomatch h)) (fun _ => ?_)
            refine ⟨_, rfl, .inl ⟨rfl, _, SqL.of hF3⟩, _, rfl, _, rfl, p, _, _, Tx z, rfl, rfl, SqL.of hp3, az, _, rfl, len2, fun t2 nt2 => ?_⟩
            have nF2 : F ≠ t2 := ne_of_none hF3 nt2
            refine ⟨F, _, _, rfl, rfl, Eq.trans (upd_ne nF2) hF3, lv, ?_⟩
            refine ⟨[] ++ [(z, zs[i + 1]?)], vs ++ [.ref t2], _, _, rfl, upd_same, ?_, grow_new pw sh ok la hz (fun d e => by cases e), by first | (simp; done) | (simp at ld ⊢; omega), LastOk.next hi, Mem.new pw me hz hbt, (SS.new' nt2).mut nF⟩
            have s4 : Stp [F] (upd (upd H2 q (.lst [])) t2 (.tup [Tx z, oV en])) (upd (upd (upd H2 q (.lst [])) t2 (.tup [Tx z, oV en])) F (.lst (vs ++ [.ref t2]))) := Stp.put (by simp)
            refine prs_one ((rd3.stp (Stp.new nt2 _) Lsts.nil).stp s4 (.one (Eq.trans (upd_ne nF2) hF3))) (pr_rp (p := (z, zs[i + 1]?)) (SqT.of ?_) (sh z (List.mem_of_getElem? hz)).2 fun e q => (sh e (List.mem_of_getElem? q)).2)
            rw [upd_ne nF2.symm, upd_same, hen]
          · rw [List.concat_eq_append] at *
            have gl : (d0 ++ [d]).getLast? = some d := by rw [List.getLast?_append, List.getLast?_singleton]; rfl
            have lvs : vs.length = d0.length + 1 := by rw [rd.len, List.length_map, List.length_append]; rfl
            obtain ⟨v, hv0⟩ : ∃ v, vs[d0.length]? = some v := ⟨vs[d0.length]'(by omega), List.getElem?_eq_getElem _⟩
            obtain ⟨d', hd', t, rfl, ht⟩ := prs_get rd3 hv0
            obtain rfl : d = d' := by
              rw [List.getElem?_append_right (Nat.le_refl _), Nat.sub_self] at hd'
              exact Option.some.inj hd'
            have ix : ((vs.length : Nat) : Int) - 1 = ((d0.length : Nat) : Int) := by omega
            have al : atI vs (((vs.length : Nat) : Int) - 1) = some (.ref t) := by
              rw [ix]
              exact atI_nat hv0
            refine ite2 (fun _ => ?_) (fun h => absurd (by simp) h)
            refine ⟨_, rfl, _, rfl, F, _, rfl, .inl (SqL.of hF3), _, _, rfl, rfl, F, _, _, .ref t, rfl, rfl, SqL.of hF3, al, t, _, 1, oV d.2, rfl, rfl, ht, at1, _, rfl, _, rfl, p, _, _, Tx z, rfl, rfl, SqL.of hp3, az, ?_, _, rfl, ite2 (fun h => ?_) (fun h => ?_)⟩
            · cases d.2 <;> rfl
            · have h2 : d.2 = some z := by
                have := of_decide_eq_true h
                cases q : d.2 with
                | none =>
                  rw [q] at this
                  cases this
                | some e =>
                  rw [q] at this
                  exact congrArg some (tx_inj (V.str.inj this))
              refine ⟨_, rfl, _, rfl, F, _, rfl, .inl (SqL.of hF3), _, _, rfl, rfl, F, _, _, .ref t, rfl, rfl, SqL.of hF3, al, t, _, 0, Tx d.1, rfl, rfl, ht, at0, _, rfl, len2, fun t2 nt2 => ?_⟩
              have nF2 : F ≠ t2 := ne_of_none hF3 nt2
              have hF4 : (upd (upd H2 q (.lst [])) t2 (.tup [Tx d.1, oV en])) F = some (.lst vs) := Eq.trans (upd_ne nF2) hF3
              have ixn : ixN vs.length (((vs.length : Nat) : Int) - 1) = some d0.length := by
                rw [ix]
                unfold ixN
                rw [if_pos (by omega), lvs]
                simp
                omega
              refine ⟨_, rfl, _, rfl, F, _, rfl, .inl (SqL.of hF4), _, _, rfl, rfl, F, _, _, d0.length, rfl, rfl, hF4, ixn, ?_⟩
              refine ⟨d0 ++ [(d.1, zs[i + 1]?)], vs.set d0.length (.ref t2), _, _, rfl, upd_same, ?_, grow_old pw sh ok hz h2, by simp at ld ⊢; omega, LastOk.next hi, Mem.old pw me hz hbt h2 ((ok.ok d (by simp)).2 z h2).2, (SS.new' nt2).mut nF⟩
              have s4 : Stp [F] (upd (upd H2 q (.lst [])) t2 (.tup [Tx d.1, oV en])) (upd (upd (upd H2 q (.lst [])) t2 (.tup [Tx d.1, oV en])) F (.lst (vs.set d0.length (.ref t2)))) := Stp.put (by simp)
              have od := ok.ok d (by simp)
              have e5 : ((d0 ++ [(d.1, zs[i + 1]?)]).map prD) = (((d0 ++ [d]).map prD).set d0.length (prD (d.1, zs[i + 1]?))) := by
                rw [List.map_append, List.map_append, List.set_append_right _ _ (by simp)]
                simp
              rw [e5]
              refine rpl_set ((rd3.stp (Stp.new nt2 _) Lsts.nil).stp s4 (.one hF4)) (pr_rp (p := (d.1, zs[i + 1]?)) (SqT.of ?_) od.1.2 fun e q => (sh e (List.mem_of_getElem? q)).2)
              rw [upd_ne nF2.symm, upd_same, hen]
            · refine ⟨_, rfl, .inl ⟨rfl, _, SqL.of hF3⟩, _, rfl, _, rfl, p, _, _, Tx z, rfl, rfl, SqL.of hp3, az, _, rfl, len2, fun t2 nt2 => ?_⟩
              have nF2 : F ≠ t2 := ne_of_none hF3 nt2
              refine ⟨F, _, _, rfl, rfl, Eq.trans (upd_ne nF2) hF3, lv, ?_⟩
              refine ⟨(d0 ++ [d]) ++ [(z, zs[i + 1]?)], vs ++ [.ref t2], _, _, rfl, upd_same, ?_, grow_new pw sh ok la hz (fun d1 e q => by
                rw [gl] at e
                cases e
                exact h (decide_eq_true (by rw [q]; rfl))), by rw [List.length_append]; simp; simp at ld; omega, LastOk.next hi, Mem.new pw me hz hbt, (SS.new' nt2).mut nF⟩
              have s4 : Stp [F] (upd (upd H2 q (.lst [])) t2 (.tup [Tx z, oV en])) (upd (upd (upd H2 q (.lst [])) t2 (.tup [Tx z, oV en])) F (.lst (vs ++ [.ref t2]))) := Stp.put (by simp)
              refine prs_one ((rd3.stp (Stp.new nt2 _) Lsts.nil).stp s4 (.one (Eq.trans (upd_ne nF2) hF3))) (pr_rp (p := (z, zs[i + 1]?)) (SqT.of ?_) (sh z (List.mem_of_getElem? hz)).2 fun e q => (sh e (List.mem_of_getElem? q)).2)
              rw [upd_ne nF2.symm, upd_same, hen]
        · have h1 : ¬ (0 + (i : Int)) + 1 < (zs.length : Int) := fun q => h1 (decide_eq_true (by rw [List.length_map]; exact q))
          obtain ⟨en, hen⟩ : ∃ en, en = zs[i + 1]? := ⟨_, rfl⟩
          have hv : V.non = oV en := by
            rw [hen, List.getElem?_eq_none_iff.mpr (by omega)]
            rfl
          rw [hv]
          refine ⟨_, rfl, Nat.zero_le _, fun q nq => ?_⟩
          have qF : F ≠ q := ne_of_none hF nq
          have S3 : Stp [] H2 (upd H2 q (.lst [])) := Stp.new nq _
          refine ne_nil_prs (SqL.of (Eq.trans (upd_ne qF) hF)) (rd.stp S3 Lsts.nil) (fun p m => (ok.ok p m).s) upd_same ?_
          have hF3 : (upd H2 q (.lst [])) F = some (.lst vs) := Eq.trans (upd_ne qF) hF
          have hp3 : (upd H2 q (.lst [])) p = some (.lst (zs.map Tx)) := S3.kp _ _ (fun m => nomatch m) hp2
          have rd3 := rd.stp S3 Lsts.nil
          have SS := S.trans S3
          have len2 : (2 : Nat) ≤ sizeLine := by decide
          have lv : vs.length < sizeLine := by
            rw [rd.len, List.length_map]
            exact Nat.lt_of_le_of_lt (show ds.length ≤ 1000 by omega) (by decide)
          refine ⟨_, rfl, ?_⟩
          rcases List.eq_nil_or_concat ds with rfl | ⟨d0, d, rfl⟩
          · refine ite2 (fun h => absurd h (by simp)) (fun _ => ?_)
            refine ite2 (fun h => (nomatch h)) (fun _ => ?_)
            refine ⟨_, rfl, .inl ⟨rfl, _, SqL.of hF3⟩, _, rfl, _, rfl, p, _, _, Tx z, rfl, rfl, SqL.of hp3, az, _, rfl, len2, fun t2 nt2 => ?_⟩
            have nF2 : F ≠ t2 := ne_of_none hF3 nt2
            refine ⟨F, _, _, rfl, rfl, Eq.trans (upd_ne nF2) hF3, lv, ?_⟩
            refine ⟨[] ++ [(z, zs[i + 1]?)], vs ++ [.ref t2], _, _, rfl, upd_same, ?_, grow_new pw sh ok la hz (fun d e => by cases e), by first | (simp; done) | (simp at ld ⊢; omega), LastOk.next hi, Mem.new pw me hz hbt, (SS.new' nt2).mut nF⟩
            have s4 : Stp [F] (upd (upd H2 q (.lst [])) t2 (.tup [Tx z, oV en])) (upd (upd (upd H2 q (.lst [])) t2 (.tup [Tx z, oV en])) F (.lst (vs ++ [.ref t2]))) := Stp.put (by simp)
            refine prs_one ((rd3.stp (Stp.new nt2 _) Lsts.nil).stp s4 (.one (Eq.trans (upd_ne nF2) hF3))) (pr_rp (p := (z, zs[i + 1]?)) (SqT.of ?_) (sh z (List.mem_of_getElem? hz)).2 fun e q => (sh e (List.mem_of_getElem? q)).2)
            rw [upd_ne nF2.symm, upd_same, hen]
          · rw [List.concat_eq_append] at *
            have gl : (d0 ++ [d]).getLast? = some d := by rw [List.getLast?_append, List.getLast?_singleton]; rfl
            have lvs : vs.length = d0.length + 1 := by rw [rd.len, List.length_map, List.length_append]; rfl
            obtain ⟨v, hv0⟩ : ∃ v, vs[d0.length]? = some v := ⟨vs[d0.length]'(by omega), List.getElem?_eq_getElem _⟩
            obtain ⟨d', hd', t, rfl, ht⟩ := prs_get rd3 hv0
            obtain rfl : d = d' := by
              rw [List.getElem?_append_right (Nat.le_refl _), Nat.sub_self] at hd'
              exact Option.some.inj hd'
            have ix : ((vs.length : Nat) : Int) - 1 = ((d0.length : Nat) : Int) := by omega
            have al : atI vs (((vs.length : Nat) : Int) - 1) = some (.ref t) := by
              rw [ix]
              exact atI_nat hv0
            refine ite2 (fun _ => ?_) (fun h => absurd (by simp) h)
            refine ⟨_, rfl, _, rfl, F, _, rfl, .inl (SqL.of hF3), _, _, rfl, rfl, F, _, _, .ref t, rfl, rfl, SqL.of hF3, al, t, _, 1, oV d.2, rfl, rfl, ht, at1, _, rfl, _, rfl, p, _, _, Tx z, rfl, rfl, SqL.of hp3, az, ?_, _, rfl, ite2 (fun h => ?_) (fun h => ?_)⟩
            · cases d.2 <;> rfl
            · have h2 : d.2 = some z := by
                have := of_decide_eq_true h
                cases q : d.2 with
                | none =>
                  rw [q] at this
                  cases this
                | some e =>
                  rw [q] at this
                  exact congrArg some (tx_inj (V.str.inj this))
              refine ⟨_, rfl, _, rfl, F, _, rfl, .inl (SqL.of hF3), _, _, rfl, rfl, F, _, _, .ref t, rfl, rfl, SqL.of hF3, al, t, _, 0, Tx d.1, rfl, rfl, ht, at0, _, rfl, len2, fun t2 nt2 => ?_⟩
              have nF2 : F ≠ t2 := ne_of_none hF3 nt2
              have hF4 : (upd (upd H2 q (.lst [])) t2 (.tup [Tx d.1, oV en])) F = some (.lst vs) := Eq.trans (upd_ne nF2) hF3
              have ixn : ixN vs.length (((vs.length : Nat) : Int) - 1) = some d0.length := by
                rw [ix]
                unfold ixN
                rw [if_pos (by omega), lvs]
                simp
                omega
              refine ⟨_, rfl, _, rfl, F, _, rfl, .inl (SqL.of hF4), _, _, rfl, rfl, F, _, _, d0.length, rfl, rfl, hF4, ixn, ?_⟩
              refine ⟨d0 ++ [(d.1, zs[i + 1]?)], vs.set d0.length (.ref t2), _, _, rfl, upd_same, ?_, grow_old pw sh ok hz h2, by simp at ld ⊢; omega, LastOk.next hi, Mem.old pw me hz hbt h2 ((ok.ok d (by simp)).2 z h2).2, (SS.new' nt2).mut nF⟩
              have s4 : Stp [F] (upd (upd H2 q (.lst [])) t2 (.tup [Tx d.1, oV en])) (upd (upd (upd H2 q (.lst [])) t2 (.tup [Tx d.1, oV en])) F (.lst (vs.set d0.length (.ref t2)))) := Stp.put (by simp)
              have od := ok.ok d (by simp)
              have e5 : ((d0 ++ [(d.1, zs[i + 1]?)]).map prD) = (((d0 ++ [d]).map prD).set d0.length (prD (d.1, zs[i + 1]?))) := by
                rw [List.map_append, List.map_append, List.set_append_right _ _ (by simp)]
                simp
              rw [e5]
              refine rpl_set ((rd3.stp (Stp.new nt2 _) Lsts.nil).stp s4 (.one hF4)) (pr_rp (p := (d.1, zs[i + 1]?)) (SqT.of ?_) od.1.2 fun e q => (sh e (List.mem_of_getElem? q)).2)
              rw [upd_ne nF2.symm, upd_same, hen]
            · refine ⟨_, rfl, .inl ⟨rfl, _, SqL.of hF3⟩, _, rfl, _, rfl, p, _, _, Tx z, rfl, rfl, SqL.of hp3, az, _, rfl, len2, fun t2 nt2 => ?_⟩
              have nF2 : F ≠ t2 := ne_of_none hF3 nt2
              refine ⟨F, _, _, rfl, rfl, Eq.trans (upd_ne nF2) hF3, lv, ?_⟩
              refine ⟨(d0 ++ [d]) ++ [(z, zs[i + 1]?)], vs ++ [.ref t2], _, _, rfl, upd_same, ?_, grow_new pw sh ok la hz (fun d1 e q => by
                rw [gl] at e
                cases e
                exact h (decide_eq_true (by rw [q]; rfl))), by rw [List.length_append]; simp; simp at ld; omega, LastOk.next hi, Mem.new pw me hz hbt, (SS.new' nt2).mut nF⟩
              have s4 : Stp [F] (upd (upd H2 q (.lst [])) t2 (.tup [Tx z, oV en])) (upd (upd (upd H2 q (.lst [])) t2 (.tup [Tx z, oV en])) F (.lst (vs ++ [.ref t2]))) := Stp.put (by simp)
              refine prs_one ((rd3.stp (Stp.new nt2 _) Lsts.nil).stp s4 (.one (Eq.trans (upd_ne nF2) hF3))) (pr_rp (p := (z, zs[i + 1]?)) (SqT.of ?_) (sh z (List.mem_of_getElem? hz)).2 fun e q => (sh e (List.mem_of_getElem? q)).2)
              rw [upd_ne nF2.symm, upd_same, hen]
      · exact ⟨ds, vs, _, _, rfl, hF, rd, ok, by omega, la.skip hi, me.skip pw hz (by rw [hb, Bool.eq_false_iff.mpr h]), S⟩
    · rintro σ H2 ⟨ds, vs, x3, x4, rfl, hF, rd, ok, ld, la, me, S⟩
      refine ⟨_, rfl, F, _, rfl, .inl ⟨SqL.of hF, fun b nb => ?_⟩⟩
      exact k b ds _ (S.new' nb) ⟨⟨vs, SqT.of upd_same, rd.stp (Stp.new nb _) Lsts.nil⟩, ok, by omega⟩ (by omega) me
abbrev s__law_past : Stmt := topS 24
abbrev N__law_past : List Str := ["word"]
theorem sc__law_past : FnScope ["word"] ["word"] (defScope s__law_past) := ⟨rfl, rfl, rfl, by decide +kernel, rfl, by decide +kernel, by decide +kernel⟩

/-! ### cells, _law_past -/
theorem cell_at : ∀ (zs : List Txt) (w : Txt), (∃ z, zs.head? = some z ∧ z ≤ w) → ∃ j z, zs[j]? = some z ∧ z ≤ w ∧ ∀ z', zs[j + 1]? = some z' → w < z'
  | [], _, ⟨z, e, _⟩ => by cases e
  | [z], w, ⟨z0, e, l⟩ => by
    cases e
    exact ⟨0, z, rfl, l, fun z' q => by cases q⟩
  | z :: z2 :: zs, w, ⟨z0, e, l⟩ => by
    cases e
    by_cases c : w < z2
    · exact ⟨0, z, rfl, l, fun z' q => by cases q; exact c⟩
    · obtain ⟨j, x, h1, h2, h3⟩ := cell_at (z2 :: zs) w ⟨z2, rfl, le_of_nlt c⟩
      exact ⟨j + 1, x, h1, h2, h3⟩
theorem pts_cell {zs : List Txt} (pw : zs.Pairwise (· < ·)) (m : ([] : Txt) ∈ zs) (w : Txt) : ∃ j z, zs[j]? = some z ∧ z ≤ w ∧ ∀ z', zs[j + 1]? = some z' → w < z' := by
  refine cell_at zs w ?_
  cases zs with
  | nil => cases m
  | cons z zs =>
    refine ⟨z, rfl, ?_⟩
    rcases List.mem_cons.mp m with rfl | m
    · exact nil_le _
    · exact absurd ((List.pairwise_cons.mp pw).1 [] m) (by intro h; cases h)
theorem pts_gap {zs : List Txt} (pw : zs.Pairwise (· < ·)) {j : Nat} {z w x : Txt} (hz : zs[j]? = some z) (nx : ∀ z', zs[j + 1]? = some z' → w < z') (m : x ∈ zs) (l : x ≤ w) : x ≤ z := by
  obtain ⟨i, hi, e⟩ := List.mem_iff_getElem.mp m
  have e' : zs[i]? = some x := by rw [List.getElem?_eq_getElem hi, e]
  rcases Nat.lt_trichotomy i j with c | c | c
  · exact lt_le' (asc pw c e' hz)
  · subst c
    rw [hz] at e'
    cases e'
    exact le_self _
  · have hl : j + 1 < zs.length := by omega
    have a := nx _ (List.getElem?_eq_getElem hl)
    rcases Nat.lt_or_eq_of_le (Nat.succ_le_of_lt c) with q | q
    · exact absurd (lt_le (List.lt_trans a (asc pw q (List.getElem?_eq_getElem hl) e')) l) (List.lt_irrefl _)
    · have q : j + 1 = i := q
      subst q
      rw [List.getElem?_eq_getElem hl] at e'
      cases e'
      exact absurd (lt_le a l) (List.lt_irrefl _)
theorem in_cell {ps : List Pr} {zs : List Txt} (pw : zs.Pairwise (· < ·)) (sub : ∀ z, (∃ p ∈ ps, p.1 = z) ∨ (∃ p ∈ ps, p.2 = some z) → z ∈ zs) {j : Nat} {z w : Txt} (hz : zs[j]? = some z) (l : z ≤ w) (nx : ∀ z', zs[j + 1]? = some z' → w < z') : inS ps w = inS ps z := by
  have one : ∀ p ∈ ps, inP w p = inP z p := fun p m => by
    rw [Bool.eq_iff_iff, inP_iff, inP_iff]
    constructor
    · exact fun h => ⟨pts_gap pw hz nx (sub _ (.inl ⟨p, m, rfl⟩)) h.1, fun e he => le_lt l (h.2 e he)⟩
    · refine fun h => ⟨List.le_trans h.1 l, fun e he => ?_⟩
      by_cases c : w < e
      · exact c
      · exact absurd (lt_le (h.2 e he) (pts_gap pw hz nx (sub _ (.inr ⟨p, m, he⟩)) (le_of_nlt c))) (List.lt_irrefl _)
  unfold inS
  rw [Bool.eq_iff_iff, List.any_eq_true, List.any_eq_true]
  constructor
  · rintro ⟨p, m, h⟩
    exact ⟨p, m, by rw [← one p m]; exact h⟩
  · rintro ⟨p, m, h⟩
    exact ⟨p, m, by rw [one p m]; exact h⟩
/-- the same at all texts of a cell -/
def Cst (zs : List Txt) (g : Txt → Bool) : Prop := ∀ (j : Nat) z w, zs[j]? = some z → z ≤ w → (∀ z', zs[j + 1]? = some z' → w < z') → g w = g z
theorem cell_mem {ds : List Pr} {zs : List Txt} {g : Txt → Bool} (pw : zs.Pairwise (· < ·)) (m0 : ([] : Txt) ∈ zs) (hc : Cst zs g)
    (me : Mem zs (zs.map g) zs.length ds) (w : Txt) : inS ds w = g w := by
  obtain ⟨j, z, h1, h2, h3⟩ := pts_cell pw m0 w
  rw [me.yes j z _ w (List.getElem?_eq_some_iff.mp h1).1 h1 (by rw [List.getElem?_map, h1]; rfl) h2 h3, hc j z w h1 h2 h3]
/-- without its last c's -/
def spPast : Sp := fun vs H Q _ => ∃ l : Txt, vs = [Tx l] ∧ Short l ∧ ∀ o : Option Txt, (∀ e, o = some e → Short e ∧ l < e) → Q (oV o) H
theorem Short.init {l : Txt} (h : Short l) : Short l.dropLast := ⟨h.1.init, by rw [List.length_dropLast]; have := h.2; omega⟩
theorem lt_pre : ∀ (m t x : Txt) (a b : Nat), a < b → m ++ a :: t < m ++ b :: x
  | [], _, _, _, _, h => List.cons_lt_cons_iff.mpr (.inl h)
  | c :: m, t, x, a, b, h => List.cons_lt_cons_iff.mpr (.inr ⟨rfl, lt_pre m t x a b h⟩)
theorem lt_snoc : ∀ (a : Txt) (c : Nat), a < a ++ [c]
  | [], c => List.nil_lt_cons _ _
  | a :: as, c => List.cons_lt_cons_iff.mpr (.inr ⟨rfl, lt_snoc as c⟩)
theorem lt_apps : ∀ (a : Txt) (t : Txt), t ≠ [] → a < a ++ t
  | [], [], h => absurd rfl h
  | [], c :: t, _ => List.nil_lt_cons _ _
  | a :: as, t, h => List.cons_lt_cons_iff.mpr (.inr ⟨rfl, lt_apps as t h⟩)
theorem cl__law_past {f : Addr} {fd : FuncData} (D : Df K mg "_law_past" s__law_past ["word"] f fd) (T : Nm mg) : Cl P w K mg base 1 "_law_past" s__law_past ["word"] spPast := by
  refine D.cl sc__law_past (fun vs H Q E h => ?_) (fun cdv A outer s H vs Q E hr h => ?_)
  · obtain ⟨l, rfl, _⟩ := h
    rfl
  · obtain ⟨l, rfl, sl, k⟩ := h
    refine ⟨_, (pss_cons (ps_while PassesOwn.never (pt_cmpR op_eq (pe_slice sl_str (pv 0) (po_some (pe_un un_neg pe_int)) po_none) pe_str (by first | exact nomark _ | rfl)) (pss_one (ps_set (i := 0) sc__law_past.nd rfl (by first | exact Or.inl rfl | exact Or.inr rfl) (pe_slice sl_str (pv 0) po_none (po_some (pe_un un_neg pe_int))))))
      (pss_cons (ps_if (pt_cmpR op_eq (pv 0) pe_str (by first | exact nomark _ | rfl)) (pss_one (ps_ret pe_non)) pss_nil)
      (pss_one (ps_ret (pe_op op_add_str (pe_slice sl_str (pv 0) po_none (po_some (pe_un un_neg pe_int))) (pe_ifExp (pt_cmpR op_eq (pe_slice sl_str (pv 0) (po_some (pe_un un_neg pe_int)) po_none) pe_str (by first | exact nomark _ | rfl)) pe_str pe_str)))))), ?_⟩
    refine while_by (fun σ H1 => ∃ m t : Txt, σ = [some (Tx m)] ∧ Short m ∧ l = m ++ t ∧ H1 = H) (fun σ _ => match σ with | [some (.str x)] => x.length | _ => 0) ⟨l, [], rfl, sl, (List.append_nil l).symm, rfl⟩ ?_ ?_
    · rintro σ H1 ⟨m, t, rfl, sm, lmt, rfl⟩
      refine ⟨_, rfl, 1, rfl, -1, rfl, tx m, rfl, szt (by have := sm.2; omega), ?_⟩
      rw [show cutS (tx m) (some (-1)) none = _ from tx_last m]
      refine ⟨rfl, _, rfl, ite2 (fun h => ?_) (fun h => ?_)⟩
      · have hd : tx (m.drop (m.length - 1)) = "c" := V.str.inj (of_decide_eq_true h)
        have pos : 0 < m.length := by
          rcases Nat.eq_zero_or_pos m.length with q | q
          · rw [List.length_eq_zero_iff.mp q] at hd
            exact absurd hd (by decide +kernel)
          · exact q
        refine ⟨_, rfl, 1, rfl, -1, rfl, tx m, rfl, szt (by have := sm.2; omega), ?_⟩
        rw [show cutS (tx m) none (some (-1)) = _ from tx_init m]
        obtain ⟨c, dl⟩ : ∃ c, m = m.dropLast ++ [c] := ⟨_, (List.dropLast_concat_getLast (List.ne_nil_of_length_pos pos)).symm⟩
        have lmt2 : l = m.dropLast ++ c :: t := by
          rw [lmt]
          conv => lhs; rw [dl]
          simp
        refine ⟨⟨m.dropLast, c :: t, rfl, sm.init, lmt2, rfl⟩, ?_⟩
        show (tx m.dropLast).length < (tx m).length
        rw [tx_len, tx_len, List.length_dropLast]
        omega
      · refine ⟨_, rfl, rfl, _, rfl, ite2 (fun h1 => ?_) (fun h1 => ?_)⟩
        · exact k none fun e q => (by cases q)
        · have ne : m ≠ [] := fun e => h1 (by rw [e]; exact decide_eq_true (congrArg V.str nil_lit.symm))
          have dl : m = m.dropLast ++ [m.getLast ne] := (List.dropLast_concat_getLast _).symm
          have lastd : m.drop (m.length - 1) = [m.getLast ne] := by
            have pos := List.length_pos_iff.mpr ne
            conv => lhs; rw [dl]
            rw [List.length_append, List.length_singleton, Nat.add_sub_cancel, List.drop_left]
          have fin : ∀ c : Nat, c = 98 ∨ c = 99 → m.getLast ne < c → (tx m.dropLast).length + (tx [c]).length ≤ sizeLine ∧ Q (.str (tx m.dropLast ++ tx [c])) H1 := fun c hc lt => by
            have hc' : c = 97 ∨ c = 98 ∨ c = 99 := .inr hc
            refine ⟨?_, ?_⟩
            · rw [tx_len, tx_len, List.length_dropLast]
              have := sm.2
              exact sz (by simp; omega)
            · rw [tx_app]
              refine k (some (m.dropLast ++ [c])) fun e q => ?_
              cases q
              have pos := List.length_pos_iff.mpr ne
              have := sm.2
              refine ⟨⟨sm.1.init.app (Abc.one hc'), by rw [List.length_append, List.length_dropLast, List.length_singleton]; omega⟩, ?_⟩
              have lmt2 : l = m.dropLast ++ m.getLast ne :: t := by
                rw [lmt]
                conv => lhs; rw [dl]
                simp
              rw [lmt2]
              exact lt_pre _ _ _ _ _ lt
          have gl : m.getLast ne = 97 ∨ m.getLast ne = 98 ∨ m.getLast ne = 99 := sm.1 _ (List.getLast_mem ne)
          refine ⟨_, rfl, 1, rfl, -1, rfl, tx m, rfl, szt (by have := sm.2; omega), ?_⟩
          rw [show cutS (tx m) none (some (-1)) = _ from tx_init m]
          refine ⟨_, rfl, 1, rfl, -1, rfl, tx m, rfl, szt (by have := sm.2; omega), ?_⟩
          rw [show cutS (tx m) (some (-1)) none = _ from tx_last m]
          refine ⟨rfl, _, rfl, ite2 (fun h2 => ?_) (fun h2 => ?_)⟩
          · have h2 : tx (m.drop (m.length - 1)) = "a" := V.str.inj (of_decide_eq_true h2)
            rw [lastd, show ("a" : Str) = tx [97] by decide +kernel] at h2
            have := List.cons.inj (tx_inj h2)
            obtain ⟨f1, f2⟩ := fin 98 (.inl rfl) (by omega)
            exact ⟨tx m.dropLast, tx [98], rfl, congrArg V.str (by decide +kernel), f1, f2⟩
          · have nc : m.getLast ne ≠ 99 := fun e => h (by rw [lastd, e]; exact decide_eq_true (congrArg V.str (by decide +kernel)))
            obtain ⟨f1, f2⟩ := fin 99 (.inr rfl) (by omega)
            exact ⟨tx m.dropLast, tx [99], rfl, congrArg V.str (by decide +kernel), f1, f2⟩
    · rintro σ H Q Q' h ⟨v, e1, i, e2, j, e3, x, e4, z, s1, b, e5, q⟩
      exact ⟨v, e1, i, e2, j, e3, x, e4, z, s1, b, e5, h _ _ q⟩
abbrev s__law_pair : Stmt := topS 26
abbrev N__law_pair : List Str := ["bag", "pool", "first", "way", "end"]
theorem sc__law_pair : FnScope ["bag", "pool", "first", "way", "end"] ["bag", "pool"] (defScope s__law_pair) := ⟨rfl, rfl, rfl, by decide +kernel, rfl, by decide +kernel, by decide +kernel⟩

/-! ### _law_pair -/
theorem lt_of_le_ne {a b : Txt} (h : a ≤ b) (n : a ≠ b) : a < b := by
  by_cases c : a < b
  · exact c
  · exact absurd (List.le_antisymm h (le_of_nlt c)) n
theorem seq_end {t u : TS} {D : Ends} {σ : L2.St} {H : Hp} (I : L2.St → Hp → Prop) (fin : ∀ σ' H', I σ' H' → u D σ' H') (h : (∀ σ' H', I σ' H' → u D σ' H') → t { D with nx := u D } σ H) : tSeq t u D σ H := h fin
def Mid (b p : Addr) (way : Int) (n : Nat) (H0 : Hp) (σ : L2.St) (H : Hp) : Prop := ∃ (g : Txt) (e : Option Txt), σ = [some (.ref b), some (.ref p), some (Tx g), some (.int way), some (oV e)] ∧ Short g ∧ (∀ e', e = some e' → Short e' ∧ g < e') ∧ Stp [b] H0 H ∧ Bag H b n
def spPair (K : PySem.W.Frag) : Sp := fun vs H Q _ => ∃ (b p : Addr) (n : Nat) (ls : List (List Nat)), vs = [.ref b, .ref p] ∧ Bag H b n ∧ n + 200 < 2 ^ 30 ∧ Pool H p ls ∧ ls.length < 2 ^ 19 ∧ b ≠ p ∧
  ∀ t pr ls' H', Rp K H' (.ref t) (prD pr) → PrOk pr → Stp [b, p] H H' → Bag H' b (n + 60) → Pool H' p ls' → ls'.length ≤ ls.length + 2 → ls' = ls ++ (pr.1 :: pr.2.toList) → Q (.ref t) H'
theorem cl__law_pair {f : Addr} {fd : FuncData} (D : Df K mg "_law_pair" s__law_pair ["bag", "pool"] f fd) (T : Nm mg) (c__law_draw : Cl P w K mg base 1 "_law_draw" s__law_draw ["bag", "upto"] spDraw)
    (c__law_some : Cl P w K mg base 3 "_law_some" s__law_some ["bag", "pool"] spSome) (c__law_past : Cl P w K mg base 1 "_law_past" s__law_past ["word"] spPast) : Cl P w K mg base 4 "_law_pair" s__law_pair ["bag", "pool"] (spPair K) := by
  refine D.cl sc__law_pair (fun vs H Q E h => ?_) (fun cdv A outer s H vs Q E hr h => ?_)
  · obtain ⟨b, p, n, ls, rfl, _⟩ := h
    rfl
  · obtain ⟨b, p, n, ls, rfl, B, hn, pl, hls, ne, k⟩ := h
    refine ⟨_, (pss_cons (ps_set (i := 2) sc__law_pair.nd rfl (by first | exact Or.inl rfl | exact Or.inr rfl) (pe_cl c__law_some hr (by omega) (pa_cons (pv 0) (pa_cons (pv 1) pa_nil))))
      (pss_cons (ps_par (i := 3) (j := 4) rfl sc__law_pair.nd rfl rfl (by decide) rfl rfl (pa_cons (pe_cl c__law_draw hr (by omega) (pa_cons (pv 0) (pa_cons pe_int pa_nil))) (pa_cons pe_non pa_nil)) (by rfl))
      (pss_cons (ps_if (pt_cmpR op_eq (pv 3) pe_int (by first | exact nomark _ | rfl)) (pss_cons (ps_set (i := 2) sc__law_pair.nd rfl (by first | exact Or.inl rfl | exact Or.inr rfl) (pe_slice sl_str (pv 2) po_none (po_some pe_int)))
      (pss_one (ps_set (i := 4) sc__law_pair.nd rfl (by first | exact Or.inl rfl | exact Or.inr rfl) (pe_op op_add_str (pv 2) (pe_op Pg.op_mul_str pe_str (pe_op op_add pe_int (pe_cl c__law_draw hr (by omega) (pa_cons (pv 0) (pa_cons (pe_op op_sub pe_int (pe_callB call_len_str (by rfl) T.n_len (by decide +kernel) (pa_cons (pv 2) pa_nil))) pa_nil))))))))) pss_nil)
      (pss_cons (ps_if (pt_cmpR op_eq (pv 3) pe_int (by first | exact nomark _ | rfl)) (pss_one (ps_set (i := 4) sc__law_pair.nd rfl (by first | exact Or.inl rfl | exact Or.inr rfl) (pe_cl c__law_past hr (by omega) (pa_cons (pv 2) pa_nil)))) pss_nil)
      (pss_cons (ps_if (pt_cmpR op_gt (pv 3) pe_int (by first | exact nomark _ | rfl)) (pss_cons (ps_set (i := 4) sc__law_pair.nd rfl (by first | exact Or.inl rfl | exact Or.inr rfl) (pe_cl c__law_some hr (by omega) (pa_cons (pv 0) (pa_cons (pv 1) pa_nil))))
      (pss_cons (ps_if (pt_cmpR op_lt_str (pv 4) (pv 2) (by first | exact nomark _ | rfl)) (pss_one (ps_par (i := 2) (j := 4) rfl sc__law_pair.nd rfl rfl (by decide) rfl rfl (pa_cons (pv 4) (pa_cons (pv 2) pa_nil)) (by rfl))) pss_nil)
      (pss_one (ps_if (pt_cmpR op_eq (pv 4) (pv 2) (by first | exact nomark _ | rfl)) (pss_cons (ps_set (i := 2) sc__law_pair.nd rfl (by first | exact Or.inl rfl | exact Or.inr rfl) (pe_slice sl_str (pv 2) po_none (po_some pe_int)))
      (pss_one (ps_set (i := 4) sc__law_pair.nd rfl (by first | exact Or.inl rfl | exact Or.inr rfl) (pe_op op_add_str (pv 2) pe_str)))) pss_nil)))) pss_nil)
      (pss_cons (ps_expr (pe_bm PySem.F.plainAttrs_list PySem.F.slot_list_append PySem.F.type_list_append mt_append (pv 1) (pa_cons (pv 2) pa_nil)))
      (pss_cons (ps_if (pt_cmpR op_notN (pv 4) pe_non (by first | exact nomark _ | rfl)) (pss_one (ps_expr (pe_bm PySem.F.plainAttrs_list PySem.F.slot_list_append PySem.F.type_list_append mt_append (pv 1) (pa_cons (pv 4) pa_nil)))) pss_nil)
      (pss_one (ps_ret (pe_tup (pa_cons (pv 2) (pa_cons (pv 4) pa_nil)))))))))))), ?_⟩
    have one : b ∈ [b] := List.mem_singleton.mpr rfl
    have npb : p ∉ [b] := fun m => ne (List.mem_singleton.mp m).symm
    have plS : ∀ {H1}, Stp [b] H H1 → Pool H1 p ls := fun S => ⟨S.kp _ _ npb pl.1, pl.2⟩
    refine ⟨_, rfl, _, rfl, b, p, n, ls, rfl, B, by omega, pl, by omega, ne, fun g H1 ag lg S1 B1 => ?_⟩
    refine ⟨_, rfl, b, 6, n + 20, rfl, B1, by omega, by decide, by decide, fun way H2 w0 w1 o2 B2 => ?_⟩
    have S2 : Stp [b] H H2 := S1.trans (o2.stp one)
    refine ⟨_, _, rfl, ?_⟩
    dsimp only
    refine seq_end (Mid b p way (n + 22) H) ?_ (fun fin => ?_)
    rotate_left
    · refine ⟨_, rfl, rfl, _, rfl, ite2 (fun h => ?_) (fun h => ?_)⟩
      · refine ⟨_, rfl, 11, rfl, tx g, rfl, szt (by omega), ?_⟩
        rw [show cutS (tx g) none (some 11) = _ from tx_upto g 11]
        have lt : (g.take 11).length ≤ 11 := by rw [List.length_take]; omega
        obtain ⟨g', eg⟩ : ∃ g', g' = g.take 11 := ⟨_, rfl⟩
        rw [← eg] at lt ⊢
        have ag' : Abc g' := by rw [eg]; exact ag.take _
        refine ⟨_, rfl, _, rfl, _, rfl, tx g', rfl, szt (by omega), _, _, rfl, rfl, b, _, n + 21, rfl, B2, by omega, ?_, ?_, fun d H3 d0 d1 o3 B3 => ?_⟩
        · rw [tx_len]
          omega
        · rw [tx_len]
          omega
        rw [tx_len] at d1
        refine ⟨_, _, rfl, rfl, tx [97], 1 + d, congrArg V.str a_lit, rfl, mulOk 97 (by omega) (by omega), ?_⟩
        refine ⟨tx g', tx (List.replicate (1 + d).toNat 97), rfl, congrArg V.str (tx_mul _ _), (by rw [tx_len, tx_len, List.length_replicate]; exact sz (by omega)), ?_⟩
        rw [tx_app]
        refine fin _ _ ⟨g', some (g' ++ List.replicate (1 + d).toNat 97), rfl, ⟨ag', by omega⟩, fun e q => ?_, S2.trans (o3.stp one), B3⟩
        cases q
        exact ⟨⟨ag'.app (Abc.rep _ (.inl rfl)), by rw [List.length_append, List.length_replicate]; omega⟩, lt_apps _ _ (by intro q; have := congrArg List.length q; rw [List.length_replicate] at this; simp at this; omega)⟩
      · exact fin _ _ ⟨g, none, rfl, ⟨ag, lg⟩, fun e q => (by cases q), S2, B2.mono (by omega)⟩
    rintro σ H3 ⟨g3, e3, rfl, s3, se3, S3, B3⟩
    refine seq_end (Mid b p way (n + 22) H) ?_ (fun fin => ?_)
    rotate_left
    · refine ⟨_, rfl, rfl, _, rfl, ite2 (fun h => ?_) (fun h => ?_)⟩
      · exact ⟨_, rfl, g3, rfl, s3, fun o ho => fin _ _ ⟨g3, o, rfl, s3, ho, S3, B3⟩⟩
      · exact fin _ _ ⟨g3, e3, rfl, s3, se3, S3, B3⟩
    rintro σ H4 ⟨g4, e4, rfl, s4, se4, S4, B4⟩
    refine seq_end (Mid b p way (n + 50) H) ?_ (fun fin => ?_)
    rotate_left
    · refine ⟨_, rfl, _, _, rfl, rfl, _, rfl, ite2 (fun h => ?_) (fun h => ?_)⟩
      · refine ⟨_, rfl, _, rfl, b, p, n + 22, ls, rfl, B4, by omega, plS S4, by omega, ne, fun g5 H5 a5 l5 S5 B5 => ?_⟩
        have S45 := S4.trans S5
        dsimp only [gName]
        refine seq_end (fun σ H' => ∃ x y : Txt, σ = [some (.ref b), some (.ref p), some (Tx x), some (.int way), some (Tx y)] ∧ Short x ∧ Short y ∧ x ≤ y ∧ H' = H5) ?_ (fun fin2 => ?_)
        rotate_left
        · refine ⟨_, rfl, _, rfl, tx g5, tx g4, rfl, rfl, _, rfl, ite2 (fun h => ?_) (fun h => ?_)⟩
          · exact ⟨_, rfl, _, rfl, _, _, rfl, fin2 _ _ ⟨g5, g4, rfl, ⟨a5, l5⟩, s4, lt_le' (of_decide_eq_true h), rfl⟩⟩
          · exact fin2 _ _ ⟨g4, g5, rfl, s4, ⟨a5, l5⟩, le_of_nlt fun q => h (decide_eq_true q), rfl⟩
        rintro σ H' ⟨x, y, rfl, sx, sy, xy, rfl⟩
        refine ⟨_, rfl, _, rfl, rfl, _, rfl, ite2 (fun h => ?_) (fun h => ?_)⟩
        · refine ⟨_, rfl, 11, rfl, tx x, rfl, szt (by have := sx.2; omega), ?_⟩
          rw [show cutS (tx x) none (some 11) = _ from tx_upto x 11]
          have lt : (x.take 11).length ≤ 11 := by rw [List.length_take]; omega
          obtain ⟨g', eg⟩ : ∃ g', g' = x.take 11 := ⟨_, rfl⟩
          rw [← eg] at lt ⊢
          have ag' : Abc g' := by rw [eg]; exact sx.1.take _
          refine ⟨_, rfl, tx g', tx [97], rfl, congrArg V.str a_lit, (by rw [tx_len, tx_len]; exact sz (by simp; omega)), ?_⟩
          rw [tx_app]
          refine fin _ _ ⟨g', some (g' ++ [97]), rfl, ⟨ag', by omega⟩, fun e q => ?_, S45, B5.mono (by omega)⟩
          cases q
          exact ⟨⟨ag'.app (Abc.one (.inl rfl)), by rw [List.length_append, List.length_singleton]; omega⟩, lt_snoc _ _⟩
        · exact fin _ _ ⟨x, some y, rfl, sx, fun e q => by cases q; exact ⟨sy, lt_of_le_ne xy fun e => h (by rw [e]; exact decide_eq_true rfl)⟩, S45, B5.mono (by omega)⟩
      · exact fin _ _ ⟨g4, e4, rfl, s4, se4, S4, B4.mono (by omega)⟩
    rintro σ H5 ⟨g5, e5, rfl, s5, se5, S5, B5⟩
    have pl5 := plS S5
    have mp : p ∈ [b, p] := by simp
    have sub : ∀ x ∈ ([b] : List Addr), x ∈ [b, p] := fun x m => by rw [List.mem_singleton.mp m]; simp
    have big : ls.length + 1 < sizeLine := Nat.lt_of_le_of_lt (show ls.length + 1 ≤ 2 ^ 19 by omega) (by decide)
    refine ⟨_, rfl, .inl ⟨rfl, _, SqL.of pl5.1⟩, _, rfl, p, _, _, rfl, rfl, pl5.1, by rw [List.length_map]; omega, ?_⟩
    have e1 : ls.map Tx ++ [Tx g5] = (ls ++ [g5]).map Tx := by rw [List.map_append]; rfl
    rw [e1]
    have P1 : Pool (upd H5 p (.lst ((ls ++ [g5]).map Tx))) p (ls ++ [g5]) := ⟨upd_same, fun l m => by
      rcases List.mem_append.mp m with m | m
      · exact pl.2 l m
      · rw [List.mem_singleton.mp m]
        exact s5⟩
    have B6 := B5.upd (o := .lst ((ls ++ [g5]).map Tx)) ne
    have S6 : Stp [b, p] H (upd H5 p (.lst ((ls ++ [g5]).map Tx))) := (S5.sub sub).put' mp
    have len2 : (2 : Nat) ≤ sizeLine := by decide
    refine ⟨_, rfl, rfl, _, rfl, ?_⟩
    cases e5 with
    | none =>
      refine ite2 (fun h => absurd h (by simp [oV])) (fun _ => ?_)
      refine ⟨_, rfl, _, rfl, len2, fun t nt => ?_⟩
      have pt : p ≠ t := ne_of_none P1.1 nt
      exact k t (g5, none) (ls ++ [g5]) _ (pr_rp (p := (g5, none)) (SqT.of upd_same) s5.2 fun e q => by cases q) ⟨s5, fun e q => by cases q⟩ (S6.new' nt) ((B6.upd (B6.ne nt)).mono (by omega)) ⟨by rw [upd_ne pt]; exact P1.1, P1.2⟩ (by simp) rfl
    | some e =>
      refine ite2 (fun _ => ?_) (fun h => absurd (show _ = true from rfl) h)
      obtain ⟨se, slt⟩ := se5 e rfl
      refine ⟨_, rfl, .inl ⟨rfl, _, SqL.of P1.1⟩, _, rfl, p, _, _, rfl, rfl, P1.1, by rw [List.length_map, List.length_append]; exact big, ?_⟩
      have e2 : (ls ++ [g5]).map Tx ++ [Tx e] = (ls ++ [g5, e]).map Tx := by simp
      have e2' : (ls ++ [g5]).map Tx ++ [oV (some e)] = (ls ++ [g5, e]).map Tx := e2
      rw [e2']
      refine ⟨_, rfl, _, rfl, len2, fun t nt => ?_⟩
      have P2 : Pool (upd (upd H5 p (.lst ((ls ++ [g5]).map Tx))) p (.lst ((ls ++ [g5, e]).map Tx))) p (ls ++ [g5, e]) := ⟨upd_same, fun l m => by
        rcases List.mem_append.mp m with m | m
        · exact pl.2 l m
        · simp at m
          rcases m with rfl | rfl
          · exact s5
          · exact se⟩
      have pt : p ≠ t := ne_of_none P2.1 nt
      have B7 := B6.upd (o := .lst ((ls ++ [g5, e]).map Tx)) ne
      exact k t (g5, some e) (ls ++ [g5, e]) _ (pr_rp (p := (g5, some e)) (SqT.of upd_same) s5.2 fun e' q => by cases q; exact se.2) ⟨s5, fun e' q => by cases q; exact ⟨se, slt⟩⟩ ((S6.put' mp).new' nt) ((B7.upd (B7.ne nt)).mono (by omega)) ⟨by rw [upd_ne pt]; exact P2.1, P2.2⟩ (by simp) rfl
abbrev s_check_ranges : Stmt := topS 11
abbrev N_check_ranges : List Str := ["ranges", "part"]
theorem sc_check_ranges : FnScope ["ranges", "part"] ["ranges"] (defScope s_check_ranges) := ⟨rfl, rfl, rfl, by decide +kernel, rfl, by decide +kernel, by decide +kernel⟩

abbrev s_later_end : Stmt := topS 12
abbrev N_later_end : List Str := ["end", "other_end"]
theorem sc_later_end : FnScope ["end", "other_end"] ["end", "other_end"] (defScope s_later_end) := ⟨rfl, rfl, rfl, by decide +kernel, rfl, by decide +kernel, by decide +kernel⟩

abbrev s_ascending : Stmt := topS 13
abbrev N_ascending : List Str := ["texts", "text"]
theorem sc_ascending : FnScope ["texts", "text"] ["texts"] (defScope s_ascending) := ⟨rfl, rfl, rfl, by decide +kernel, rfl, by decide +kernel, by decide +kernel⟩

abbrev s_span_of : Stmt := topS 14
abbrev N_span_of : List Str := ["ranges", "ends", "first", "end", "parts"]
theorem sc_span_of : FnScope ["ranges", "ends", "first", "end", "parts"] ["ranges"] (defScope s_span_of) := ⟨rfl, rfl, rfl, by decide +kernel, rfl, by decide +kernel, by decide +kernel⟩

/-! ### the span of some ranges -/
def reachB : Option Txt → Txt → Bool
  | none, _ => true
  | some e, f => !decide (e < f)
def spReachesG : Sp := fun vs H Q _ => ∃ (e : Option Txt) (f : Txt), vs = [oV e, Tx f] ∧ ∀ b, b = reachB e f → Q (.bl b) H
theorem cl_reachesG {f : Addr} {fd : FuncData} (D : Df K mg "reaches" s_reaches ["end", "first"] f fd) (T : Nm mg) : Cl P w K mg base 1 "reaches" s_reaches ["end", "first"] spReachesG := by
  refine D.cl sc_reaches (fun vs H Q E h => ?_) (fun cdv A outer s H vs Q E hr h => ?_)
  · obtain ⟨e, f, rfl, _⟩ := h
    rfl
  · obtain ⟨e, f, rfl, k⟩ := h
    refine ⟨_, (pss_one (ps_ret (pe_or (pe_cmpR op_isN (pv 0) pe_non (by first | exact nomark _ | rfl)) (pe_one (pe_cmpR op_ge_str (pv 0) (pv 1) (by first | exact nomark _ | rfl)))))), ?_⟩
    cases e with
    | none => exact ⟨_, rfl, rfl, _, rfl, k _ rfl⟩
    | some e => exact ⟨_, rfl, rfl, _, rfl, _, rfl, _, rfl, tx e, tx f, rfl, rfl, k _ rfl⟩
def laterM : Option Txt → Option Txt → Option Txt
  | some a, some b => if b < a then some a else some b
  | _, _ => none
def spLater : Sp := fun vs H Q _ => ∃ (a b : Option Txt), vs = [oV a, oV b] ∧ Q (oV (laterM a b)) H
theorem cl_later_end {f : Addr} {fd : FuncData} (D : Df K mg "later_end" s_later_end ["end", "other_end"] f fd) (T : Nm mg) : Cl P w K mg base 1 "later_end" s_later_end ["end", "other_end"] spLater := by
  refine D.cl sc_later_end (fun vs H Q E h => ?_) (fun cdv A outer s H vs Q E hr h => ?_)
  · obtain ⟨e, f, rfl, _⟩ := h
    rfl
  · obtain ⟨a, b, rfl, k⟩ := h
    refine ⟨_, (pss_cons (ps_if (PW.pt (pw_or (pt_cmpR op_isN (pv 0) pe_non (by first | exact nomark _ | rfl)) (pw_or1 (pt_cmpR op_isN (pv 1) pe_non (by first | exact nomark _ | rfl))))) (pss_one (ps_ret pe_non)) pss_nil)
      (pss_one (ps_ret (pe_ifExp (pt_cmpR op_gt_str (pv 0) (pv 1) (by first | exact nomark _ | rfl)) (pv 0) (pv 1))))), ?_⟩
    refine ⟨_, rfl, rfl, _, rfl, ?_⟩
    cases a with
    | none => exact k
    | some a =>
      refine ⟨_, rfl, rfl, _, rfl, ?_⟩
      cases b with
      | none => exact k
      | some b =>
        refine ⟨_, rfl, _, rfl, tx a, tx b, rfl, rfl, _, rfl, ?_⟩
        have k' : Q (oV (if b < a then some a else some b)) H := k
        refine ite2 (fun h => ?_) (fun h => ?_)
        · rw [if_pos (show b < a from of_decide_eq_true h)] at k'
          exact ⟨_, rfl, k'⟩
        · rw [if_neg (show ¬ b < a from fun q => h (decide_eq_true q))] at k'
          exact ⟨_, rfl, k'⟩
def spAsc (K : PySem.W.Frag) : Sp := fun vs H Q _ => ∃ (a : Addr) (ls : List Txt), vs = [.ref a] ∧ SqL K H a (ls.map Tx) ∧ (∀ l ∈ ls, Short l) ∧ ls.length ≤ 3000 ∧
  ∀ (zs : List Txt) p H', H p = none → Stp [] H H' → zs.Perm ls → zs.Pairwise (· ≤ ·) → H' p = some (.lst (zs.map Tx)) → Q (.ref p) H'
theorem cl_ascending {f : Addr} {fd : FuncData} (D : Df K mg "ascending" s_ascending ["texts"] f fd) (T : Nm mg) : Cl P w K mg base 1 "ascending" s_ascending ["texts"] (spAsc K) := by
  refine D.cl sc_ascending (fun vs H Q E h => ?_) (fun cdv A outer s H vs Q E hr h => ?_)
  · obtain ⟨a, ls, rfl, _⟩ := h
    rfl
  · obtain ⟨a, ls, rfl, hs, sh, few, k⟩ := h
    refine ⟨_, (pss_one (ps_ret (pe_callB Pg.cr_sortedSA (by rfl) T.n_sorted (by decide +kernel) (pa_cons (pe_lc (own := [("text", 1)]) rfl sc_ascending.nd (pi_list (pv 0)) (blkOk_by (own := [("text", 1)]) (N := N_ascending) (sc := defScope s_ascending) (by decide +kernel)) (fun _ _ _ _ _ => (pg_name (i := 1) sc_ascending.nd rfl (by first | exact Or.inl rfl | exact Or.inr rfl))) (fun _ _ _ _ _ => pts_nil) (fun _ _ _ _ _ => (pe_callTy SkE.call_str_str (by rfl) T.n_str (by decide +kernel) (pa_cons (pv 1) pa_nil)))) pa_nil)))), ?_⟩
    refine ⟨_, rfl, a, rfl, ⟨_, hs⟩, fun L nL => ?_⟩
    refine lc_mapL (ds := ls.map Dt.str) nL hs (by simp) (by rw [List.length_map]; omega) (fun j x d H3 hx hd S3 Q2 q => ?_) fun ws H3 S3 h3 r3 => ?_
    · rw [List.getElem?_map] at hx hd
      cases e : ls[j]? with
      | none => rw [e] at hx; cases hx
      | some l =>
        rw [e] at hx hd
        cases hx
        cases hd
        exact ⟨rfl, _, rfl, tx l, rfl, q _ _ (Stp.refl _ _) (.str l (by have := (sh l (List.mem_of_getElem? e)).2; omega))⟩
    · have e3 := rpl_strs r3
      subst e3
      exact ⟨L, ls, rfl, SqL.of h3, fun zs p pm pw np => k zs p _ (S3.fresh (fun m => nomatch m) np) (S3.new' np) pm pw upd_same⟩
def spCkR (K : PySem.W.Frag) : Sp := fun vs H Q _ => ∃ (a : Addr) (xs : List V) (ps : List Pr), vs = [.ref a] ∧ H a = some (.lst xs) ∧ RpL K H xs (ps.map prD) ∧ (∀ p ∈ ps, PrOk p) ∧ ps.length ≤ 3000 ∧ ∀ H', Stp [] H H' → Q .non H'
theorem cl_check_ranges {f : Addr} {fd : FuncData} (D : Df K mg "check_ranges" s_check_ranges ["ranges"] f fd) (T : Nm mg) (c_is_range : Cl P w K mg base 2 "is_range" s_is_range ["value"] (spIsRange K)) : Cl P w K mg base 3 "check_ranges" s_check_ranges ["ranges"] (spCkR K) := by
  refine D.cl sc_check_ranges (fun vs H Q E h => ?_) (fun cdv A outer s H vs Q E hr h => ?_)
  · obtain ⟨a, xs, ps, rfl, _⟩ := h
    rfl
  · obtain ⟨a, xs, ps, rfl, hs, rl, ok, few, k⟩ := h
    refine ⟨_, (pss_one (ps_if (PW.pt (pw_or (pt_tyNot (T := "list") Mono.var (pv 0) T.n_type T.n_list (by decide +kernel)) (pw_or1 (pt_not (pt_val (pe_callB (cr_all rfl) (by rfl) T.n_all (by decide +kernel) (pa_cons (pe_lc (own := [("part", 1)]) rfl sc_check_ranges.nd (pi_list (pv 0)) (blkOk_by (own := [("part", 1)]) (N := N_check_ranges) (sc := defScope s_check_ranges) (by decide +kernel)) (fun _ _ _ _ _ => (pg_name (i := 1) sc_check_ranges.nd rfl (by first | exact Or.inl rfl | exact Or.inr rfl))) (fun _ _ _ _ _ => pts_nil) (fun _ _ _ _ _ => (pe_cl c_is_range hr (by omega) (pa_cons (pv 1) pa_nil)))) pa_nil))))))) (pss_one ps_never) pss_nil)), ?_⟩
    have lx : xs.length = ps.length := by rw [rl.len, List.length_map]
    refine ⟨_, rfl, .lst, .lst hs, ?_⟩
    refine ite2 (fun h => absurd h (by simp [Dt.ty])) (fun _ => ?_)
    refine ⟨_, rfl, a, rfl, ⟨_, SqL.of hs⟩, fun L nL => ?_⟩
    refine lc_mapL (ds := (ps.map fun _ => true).map Dt.bl) nL (SqL.of hs) (by simp [lx]) (by omega) (fun j x d H3 hx hd S3 Q2 q => ?_) fun ws H3 S3 h3 r3 => ?_
    · obtain ⟨p, hp, t, rfl, ht⟩ := prs_get rl hx
      rw [List.getElem?_map, List.getElem?_map, hp] at hd
      cases hd
      exact ⟨rfl, _, rfl, t, p, rfl, sqt_stp S3 Lsts.nil ht, ok p (List.mem_of_getElem? hp), q _ _ (Stp.refl _ _) (.bl _)⟩
    · have e3 := rpl_bls r3
      subst e3
      refine ⟨L, _, rfl, SqL.of h3, ?_⟩
      have e : ((ps.map fun _ => true).all id) = true := by
        rw [List.all_eq_true]
        intro x m
        obtain ⟨_, _, rfl⟩ := List.mem_map.mp m
        rfl
      rw [e]
      exact ⟨_, rfl, k _ S3⟩
theorem inP_later {w g : Txt} {a b : Option Txt} : inP w (g, laterM a b) = (inP w (g, a) || inP w (g, b)) := by
  rw [Bool.eq_iff_iff, Bool.or_eq_true, inP_iff, inP_iff, inP_iff]
  cases a with
  | none =>
    show (g ≤ w ∧ ∀ e, none = some e → w < e) ↔ _
    exact ⟨fun h => .inl h, fun h => h.elim id fun h => ⟨h.1, fun e he => by cases he⟩⟩
  | some a =>
    cases b with
    | none =>
      show (g ≤ w ∧ ∀ e, none = some e → w < e) ↔ _
      exact ⟨fun h => .inr h, fun h => h.elim (fun h => ⟨h.1, fun e he => by cases he⟩) id⟩
    | some b =>
      show (g ≤ w ∧ ∀ e, (if b < a then some a else some b) = some e → w < e) ↔ _
      by_cases c : b < a
      · rw [if_pos c]
        constructor
        · exact fun h => .inl ⟨h.1, fun e he => h.2 e he⟩
        · rintro (h | h)
          · exact h
          · exact ⟨h.1, fun e he => by cases he; exact List.lt_trans (h.2 b rfl) c⟩
      · rw [if_neg c]
        constructor
        · exact fun h => .inr ⟨h.1, fun e he => h.2 e he⟩
        · rintro (h | h)
          · exact ⟨h.1, fun e he => by cases he; exact lt_le (h.2 a rfl) (le_of_nlt c)⟩
          · exact h
theorem later_ok {g : Txt} {a b : Option Txt} (ha : PrOk (g, a)) (hb : PrOk (g, b)) : PrOk (g, laterM a b) := by
  refine ⟨ha.1, fun e he => ?_⟩
  cases a with
  | none => cases he
  | some a =>
    cases b with
    | none => cases he
    | some b =>
      have he : (if b < a then some a else some b) = some e := he
      by_cases c : b < a
      · rw [if_pos c] at he
        exact ha.2 e he
      · rw [if_neg c] at he
        exact hb.2 e he
/-! the ends by first texts -/
def kvE (E : List Pr) : List (Key × V) := E.map fun p => (Sum.inr (tx p.1), oV p.2)
def lk (E : List Pr) (g : Txt) : Option (Option Txt) := (E.find? fun p => decide (p.1 = g)).map Prod.snd
def putE (E : List Pr) (g : Txt) (e : Option Txt) : List Pr := if (E.any fun p => decide (p.1 = g)) = true then E.map (fun p => if p.1 = g then (p.1, e) else p) else E ++ [(g, e)]
theorem key_eq {a b : Txt} : ((Sum.inr (tx a) : Key) = Sum.inr (tx b)) ↔ a = b := ⟨fun h => tx_inj (Sum.inr.inj h), fun h => by rw [h]⟩
theorem valV_kvE : ∀ (E : List Pr) (g : Txt), valV (kvE E) (Sum.inr (tx g) : Key) = (lk E g).map oV
  | [], _ => rfl
  | p :: E, g => by
    show valV ((Sum.inr (tx p.1), oV p.2) :: kvE E) _ = _
    by_cases c : p.1 = g
    · rw [valV_pos (show (Sum.inr (tx p.1) : Key) = _ from key_eq.mpr c)]
      unfold lk
      rw [List.find?_cons_of_pos (by simp [c])]
      rfl
    · rw [valV_neg (fun q => c (key_eq.mp q)), valV_kvE E g]
      unfold lk
      rw [List.find?_cons_of_neg (by simp [c])]
theorem putK_kvE (E : List Pr) (g : Txt) (e : Option Txt) : putK (kvE E) (Sum.inr (tx g) : Key) (oV e) = kvE (putE E g e) := by
  have a : ((kvE E).any fun kv => decide (kv.1 = (Sum.inr (tx g) : Key))) = E.any fun p => decide (p.1 = g) := by
    unfold kvE
    rw [List.any_map]
    congr 1
    funext p
    show decide ((Sum.inr (tx p.1) : Key) = _) = _
    exact decide_eq_decide.mpr key_eq
  unfold putK putE
  rw [a]
  split
  · unfold kvE
    rw [List.map_map, List.map_map]
    refine List.map_congr_left fun p _ => ?_
    show (if (Sum.inr (tx p.1) : Key) = Sum.inr (tx g) then ((Sum.inr (tx p.1) : Key), oV e) else (Sum.inr (tx p.1), oV p.2)) = (fun p : Pr => ((Sum.inr (tx p.1) : Key), oV p.2)) (if p.1 = g then (p.1, e) else p)
    by_cases c : p.1 = g
    · rw [if_pos (key_eq.mpr c), if_pos c]
    · rw [if_neg (fun q => c (key_eq.mp q)), if_neg c]
  · unfold kvE
    rw [List.map_append]
    rfl
theorem putE_keys (E : List Pr) (g : Txt) (e : Option Txt) : (putE E g e).map Prod.fst = if (E.any fun p => decide (p.1 = g)) = true then E.map Prod.fst else E.map Prod.fst ++ [g] := by
  unfold putE
  split
  · rw [List.map_map]
    refine List.map_congr_left fun p _ => ?_
    show (if p.1 = g then (p.1, e) else p).1 = p.1
    split <;> rfl
  · rw [List.map_append]
    rfl
theorem any_key {E : List Pr} {g : Txt} : (E.any fun p => decide (p.1 = g)) = true ↔ g ∈ E.map Prod.fst := by
  rw [List.any_eq_true, List.mem_map]
  constructor
  · rintro ⟨p, m, h⟩
    exact ⟨p, m, of_decide_eq_true h⟩
  · rintro ⟨p, m, h⟩
    exact ⟨p, m, decide_eq_true h⟩
theorem putE_nd {E : List Pr} {g : Txt} {e : Option Txt} (nd : (E.map Prod.fst).Nodup) : ((putE E g e).map Prod.fst).Nodup := by
  rw [putE_keys]
  split
  · exact nd
  · rename_i c
    rw [any_key] at c
    rw [List.nodup_append]
    exact ⟨nd, List.nodup_cons.mpr ⟨List.not_mem_nil, List.nodup_nil⟩, fun a ma b mb => by rw [List.mem_singleton.mp mb]; exact fun q => c (q ▸ ma)⟩
theorem putE_len {E : List Pr} {g : Txt} {e : Option Txt} : (putE E g e).length ≤ E.length + 1 := by
  unfold putE
  split <;> simp
theorem lk_some {E : List Pr} (nd : (E.map Prod.fst).Nodup) {p : Pr} (m : p ∈ E) : lk E p.1 = some p.2 := by
  unfold lk
  induction E with
  | nil => cases m
  | cons q E ih =>
    rw [List.map_cons, List.nodup_cons] at nd
    rcases List.mem_cons.mp m with rfl | m
    · rw [List.find?_cons_of_pos (by simp)]
      rfl
    · rw [List.find?_cons_of_neg, ih nd.2 m]
      simp only [decide_eq_true_eq]
      exact fun h => nd.1 (h ▸ List.mem_map.mpr ⟨p, m, rfl⟩)
theorem lk_mem {E : List Pr} {g : Txt} {e : Option Txt} (h : lk E g = some e) : (g, e) ∈ E := by
  unfold lk at h
  cases q : E.find? fun p => decide (p.1 = g) with
  | none => rw [q] at h; cases h
  | some p =>
    rw [q] at h
    cases h
    have a := List.find?_some q
    have b := of_decide_eq_true a
    rw [← b]
    exact List.mem_of_find?_eq_some q
theorem lk_none {E : List Pr} {g : Txt} (h : lk E g = none) : ¬ (E.any fun p => decide (p.1 = g)) = true := by
  unfold lk at h
  have a : E.find? (fun p => decide (p.1 = g)) = none := by simpa using h
  rw [List.find?_eq_none] at a
  rw [List.any_eq_true]
  rintro ⟨p, m, q⟩
  exact a p m q
theorem put_new {E : List Pr} {g : Txt} {e : Option Txt} (h : lk E g = none) (w : Txt) : inS (putE E g e) w = (inS E w || inP w (g, e)) := by
  unfold putE
  rw [if_neg (lk_none h), inS_app, inS_cons]
  show (inS E w || (inP w (g, e) || false)) = _
  rw [Bool.or_false]
theorem put_old {E : List Pr} (nd : (E.map Prod.fst).Nodup) {g : Txt} {e e0 : Option Txt} (h : lk E g = some e0) (w : Txt) : inS (putE E g (laterM e e0)) w = (inS E w || inP w (g, e)) := by
  have m := lk_mem h
  have an : (E.any fun p => decide (p.1 = g)) = true := any_key.mpr (List.mem_map.mpr ⟨_, m, rfl⟩)
  unfold putE
  rw [if_pos an, Bool.eq_iff_iff, Bool.or_eq_true]
  constructor
  · intro hh
    obtain ⟨q, mq, hq⟩ := inS_mem.mp hh
    obtain ⟨p, mp, rfl⟩ := List.mem_map.mp mq
    by_cases c : p.1 = g
    · rw [if_pos c, c, inP_later, Bool.or_eq_true] at hq
      rcases hq with hq | hq
      · exact .inr hq
      · exact .inl (inS_mem.mpr ⟨_, m, hq⟩)
    · rw [if_neg c] at hq
      exact .inl (inS_mem.mpr ⟨p, mp, hq⟩)
  · rintro (hh | hh)
    · obtain ⟨p, mp, hp⟩ := inS_mem.mp hh
      refine inS_mem.mpr ⟨_, List.mem_map.mpr ⟨p, mp, rfl⟩, ?_⟩
      by_cases c : p.1 = g
      · rw [if_pos c, c, inP_later, Bool.or_eq_true]
        have e2 := lk_some nd mp
        rw [c, h] at e2
        have pe : p = (g, e0) := Prod.ext c (Option.some.inj e2).symm
        rw [pe] at hp
        exact .inr hp
      · rw [if_neg c]
        exact hp
    · refine inS_mem.mpr ⟨_, List.mem_map.mpr ⟨_, m, rfl⟩, ?_⟩
      rw [if_pos rfl, inP_later, Bool.or_eq_true]
      exact .inl hh
theorem putE_ok {E : List Pr} {g : Txt} {e : Option Txt} (ok : ∀ p ∈ E, PrOk p) (h : PrOk (g, e)) : ∀ p ∈ putE E g e, PrOk p := fun p m => by
  unfold putE at m
  split at m
  · obtain ⟨q, mq, rfl⟩ := List.mem_map.mp m
    by_cases c : q.1 = g
    · rw [if_pos c, c]
      exact h
    · rw [if_neg c]
      exact ok q mq
  · rcases List.mem_append.mp m with m | m
    · exact ok p m
    · rw [List.mem_singleton.mp m]
      exact h
theorem take_in {ps : List Pr} {i : Nat} {p : Pr} (h : ps[i]? = some p) (w : Txt) : inS (ps.take (i + 1)) w = (inS (ps.take i) w || inP w p) := by
  rw [List.take_add_one, h, inS_app]
  show (inS (ps.take i) w || inS [p] w) = _
  rw [inS_cons]
  show (inS (ps.take i) w || (inP w p || false)) = _
  rw [Bool.or_false]
/-- the entry of a first text -/
def ent (E : List Pr) (z : Txt) : Pr := (z, (lk E z).getD none)
theorem ent_in {E : List Pr} (nd : (E.map Prod.fst).Nodup) {zs : List Txt} (pm : zs.Perm (E.map Prod.fst)) (w : Txt) : inS (zs.map (ent E)) w = inS E w := by
  rw [Bool.eq_iff_iff]
  constructor
  · intro h
    obtain ⟨q, mq, hq⟩ := inS_mem.mp h
    obtain ⟨z, mz, rfl⟩ := List.mem_map.mp mq
    obtain ⟨p, mp, rfl⟩ := List.mem_map.mp (pm.mem_iff.mp mz)
    have : ent E p.1 = p := by unfold ent; rw [lk_some nd mp]; rfl
    rw [this] at hq
    exact inS_mem.mpr ⟨p, mp, hq⟩
  · intro h
    obtain ⟨p, mp, hp⟩ := inS_mem.mp h
    have : ent E p.1 = p := by unfold ent; rw [lk_some nd mp]; rfl
    exact inS_mem.mpr ⟨p, List.mem_map.mpr ⟨p.1, pm.mem_iff.mpr (List.mem_map.mpr ⟨p, mp, rfl⟩), this⟩, hp⟩
/-- the last part takes the next range in -/
theorem ext_in {d0 : List Pr} {d : Pr} {z : Txt} {e : Option Txt} (le : d.1 ≤ z) (r : reachB d.2 z = true) (w : Txt) : inS (d0 ++ [(d.1, laterM d.2 e)]) w = (inS (d0 ++ [d]) w || inP w (z, e)) := by
  have key : (inP w d || inP w (d.1, e)) = (inP w d || inP w (z, e)) := by
    rw [Bool.eq_iff_iff, Bool.or_eq_true, Bool.or_eq_true]
    constructor
    · rintro (h | h)
      · exact .inl h
      · obtain ⟨h1, h2⟩ := inP_iff.mp h
        by_cases c : z ≤ w
        · exact .inr (inP_iff.mpr ⟨c, h2⟩)
        · refine .inl (inP_iff.mpr ⟨h1, fun e' he => ?_⟩)
          rw [he] at r
          have r' : ¬ e' < z := by simpa [reachB] using r
          have wz : w < z := by
            by_cases q : w < z
            · exact q
            · exact absurd (le_of_nlt q) c
          exact lt_le wz (le_of_nlt r')
    · rintro (h | h)
      · exact .inl h
      · obtain ⟨h1, h2⟩ := inP_iff.mp h
        exact .inr (inP_iff.mpr ⟨List.le_trans le h1, h2⟩)
  have k2 : (inP w (d.1, d.2) || inP w (d.1, e)) = (inP w d || inP w (z, e)) := key
  rw [inS_app, inS_app, inS_cons, inS_cons, inP_later, k2]
  show (inS d0 w || ((inP w d || inP w (z, e)) || false)) = ((inS d0 w || (inP w d || false)) || inP w (z, e))
  cases inS d0 w <;> cases inP w d <;> cases inP w (z, e) <;> rfl
theorem ext_ok {d0 : List Pr} {d : Pr} {z : Txt} {e : Option Txt} (ok : SpOk (d0 ++ [d])) (h : PrOk (z, e)) (lt : d.1 ≤ z) : SpOk (d0 ++ [(d.1, laterM d.2 e)]) := by
  have od := ok.ok d (by simp)
  refine ⟨fun p m => ?_, List.pairwise_append.mpr ⟨(List.pairwise_append.mp ok.gap).1, List.pairwise_singleton _ _, fun p mp q mq => ?_⟩⟩
  · rcases List.mem_append.mp m with m | m
    · exact ok.ok p (List.mem_append_left _ m)
    · rw [List.mem_singleton.mp m]
      exact later_ok (g := d.1) od ⟨od.1, fun e' he => ⟨(h.2 e' he).1, le_lt lt (h.2 e' he).2⟩⟩
  · rw [List.mem_singleton.mp mq]
    obtain ⟨e', f1, f2⟩ := (List.pairwise_append.mp ok.gap).2.2 p mp d List.mem_cons_self
    exact ⟨e', f1, f2⟩
theorem new_ok {ds : List Pr} {z : Txt} {e : Option Txt} (ok : SpOk ds) (h : PrOk (z, e)) (g : ∀ d, ds.getLast? = some d → reachB d.2 z = false) : SpOk (ds ++ [(z, e)]) := by
  refine ⟨fun p m => ?_, List.pairwise_append.mpr ⟨ok.gap, List.pairwise_singleton _ _, fun p mp q mq => ?_⟩⟩
  · rcases List.mem_append.mp m with m | m
    · exact ok.ok p m
    · rw [List.mem_singleton.mp m]
      exact h
  · rw [List.mem_singleton.mp mq]
    rcases List.eq_nil_or_concat ds with rfl | ⟨d0, d, rfl⟩
    · cases mp
    rw [List.concat_eq_append] at *
    have r := g d (by rw [List.getLast?_append, List.getLast?_singleton]; rfl)
    obtain ⟨e1, f1, f2⟩ : Gap d (z, e) := by
      cases q : d.2 with
      | none => rw [q] at r; cases r
      | some e1 =>
        rw [q] at r
        have r' : e1 < z := by simpa [reachB] using r
        exact ⟨e1, q, r'⟩
    rcases List.mem_append.mp mp with mp | mp
    · obtain ⟨e', g1, g2⟩ := (List.pairwise_append.mp ok.gap).2.2 p mp d List.mem_cons_self
      exact ⟨e', g1, List.lt_trans g2 (List.lt_trans ((ok.ok d (by simp)).2 e1 f1).2 f2)⟩
    · rw [List.mem_singleton.mp mp]
      exact ⟨e1, f1, f2⟩
def spSpanOf (K : PySem.W.Frag) : Sp := fun vs H Q _ => ∃ (a : Addr) (xs : List V) (ps : List Pr), vs = [.ref a] ∧ H a = some (.lst xs) ∧ RpL K H xs (ps.map prD) ∧ (∀ p ∈ ps, PrOk p) ∧ ps.length ≤ 3000 ∧
  ∀ b ds H', Stp [] H H' → Spn K H' b ds → (∀ w, inS ds w = inS ps w) → Q (.ref b) H'
theorem atL {α : Type} {xs : List α} {v : α} (h : xs ≠ []) (e : xs[xs.length - 1]? = some v) : atI xs (-1) = some v := by
  obtain ⟨ys, y, hy⟩ : ∃ ys y, xs = ys ++ [y] := ⟨_, _, (List.dropLast_concat_getLast h).symm⟩
  subst hy
  rw [List.length_append, List.length_singleton, Nat.add_sub_cancel, List.getElem?_append_right (Nat.le_refl _), Nat.sub_self] at e
  cases e
  exact atI_last ys _
theorem cl_span_of {f : Addr} {fd : FuncData} (D : Df K mg "span_of" s_span_of ["ranges"] f fd) (T : Nm mg) (c_check_ranges : Cl P w K mg base 3 "check_ranges" s_check_ranges ["ranges"] (spCkR K)) (c_later_end : Cl P w K mg base 1 "later_end" s_later_end ["end", "other_end"] spLater)
    (c_ascending : Cl P w K mg base 1 "ascending" s_ascending ["texts"] (spAsc K)) (c_reaches : Cl P w K mg base 1 "reaches" s_reaches ["end", "first"] spReachesG) : Cl P w K mg base 4 "span_of" s_span_of ["ranges"] (spSpanOf K) := by
  refine D.cl sc_span_of (fun vs H Q E h => ?_) (fun cdv A outer s H vs Q E hr h => ?_)
  · obtain ⟨a, xs, ps, rfl, _⟩ := h
    rfl
  · obtain ⟨a, xs, ps, rfl, hs, rl, ok, few, k⟩ := h
    refine ⟨_, (pss_cons (ps_expr (pe_cl c_check_ranges hr (by omega) (pa_cons (pv 0) pa_nil)))
      (pss_cons (ps_set (i := 1) sc_span_of.nd rfl (by first | exact Or.inl rfl | exact Or.inr rfl) pe_dnewK)
      (pss_cons (ps_for PassesOwn.never rfl (pi_list (pv 0)) (pg_tup rfl (pgs_cons (pg_name (i := 2) sc_span_of.nd rfl (by first | exact Or.inl rfl | exact Or.inr rfl)) (pgs_cons (pg_name (i := 3) sc_span_of.nd rfl (by first | exact Or.inl rfl | exact Or.inr rfl)) pgs_nil (by rfl)) (by rfl)) (by rfl) (by rfl)) (pss_one (ps_dput (hu_of hr) (pv 1) (pv 2) (pe_ifExp (pt_cmp (pc_din (hu_of hr) (pv 2) (pv 1))) (pe_cl c_later_end hr (by omega) (pa_cons (pv 3) (pa_cons (pe_dget (hu_of hr) (pv 1) (pv 2) (fun _ _ => rfl)) pa_nil))) (pv 3)) rfl)))
      (pss_cons (ps_set (i := 4) sc_span_of.nd rfl (by first | exact Or.inl rfl | exact Or.inr rfl) (pe_lst pa_nil))
      (pss_cons (ps_for PassesOwn.never rfl (pi_list (pe_cl c_ascending hr (by omega) (pa_cons (pe_callTy (call_list_dK rfl) (by rfl) T.n_list (by decide +kernel) (pa_cons (pv 1) pa_nil)) pa_nil))) (pg_name (i := 2) sc_span_of.nd rfl (by first | exact Or.inl rfl | exact Or.inr rfl)) (pss_one (ps_if (PW.pt (pw_and (pt_truth (pv 4) (by intro _; rfl)) (pw_and1 (pt_val (pe_cl c_reaches hr (by omega) (pa_cons (pe_ix ix_tup (pe_ix ix_list (pv 4) (pe_un un_neg pe_int) (fun _ _ => rfl)) pe_int (fun _ _ => rfl)) (pa_cons (pv 2) pa_nil))))))) (pss_one (ps_asg (pe_tup (pa_cons (pe_ix ix_tup (pe_ix ix_list (pv 4) (pe_un un_neg pe_int) (fun _ _ => rfl)) pe_int (fun _ _ => rfl)) (pa_cons (pe_cl c_later_end hr (by omega) (pa_cons (pe_ix ix_tup (pe_ix ix_list (pv 4) (pe_un un_neg pe_int) (fun _ _ => rfl)) pe_int (fun _ _ => rfl)) (pa_cons (pe_dget (hu_of hr) (pv 1) (pv 2) (fun _ _ => rfl)) pa_nil))) pa_nil))) (pg_sub (pv 4) (pe_un un_neg pe_int) set_list))) (pss_one (ps_expr (pe_bm PySem.F.plainAttrs_list PySem.F.slot_list_append PySem.F.type_list_append mt_append (pv 4) (pa_cons (pe_tup (pa_cons (pv 2) (pa_cons (pe_dget (hu_of hr) (pv 1) (pv 2) (fun _ _ => rfl)) pa_nil))) pa_nil)))))))
      (pss_one (ps_ret (pe_callTy call_tuple_of (by rfl) T.n_tuple (by decide +kernel) (pa_cons (pv 4) pa_nil))))))))), ?_⟩
    have lx : xs.length = ps.length := by rw [rl.len, List.length_map]
    refine ⟨_, rfl, a, xs, ps, rfl, hs, rl, ok, few, fun H1 S1 => ?_⟩
    have hs1 := S1.kp _ _ (fun m => nomatch m) hs
    have rl1 := rl.stp S1 Lsts.nil
    refine fun d nd => ?_
    have S0 : Stp [] H1 (upd H1 d (.dK [])) := Stp.new nd _
    refine ⟨_, rfl, a, rfl, ⟨_, SqL.of (S0.kp _ _ (fun m => nomatch m) hs1)⟩, for_list (a := a) (xs := xs) (fun i σ H2 => ∃ (E : List Pr) (x2 x3 x4 : Option V), σ = [some (.ref a), some (.ref d), x2, x3, x4] ∧ H2 d = some (.dK (kvE E)) ∧ (E.map Prod.fst).Nodup ∧ (∀ p ∈ E, PrOk p) ∧ E.length ≤ i ∧ (∀ w, inS E w = inS (ps.take i) w) ∧ Stp [] H1 H2)
      ⟨[], _, _, _, rfl, upd_same, List.nodup_nil, fun _ m => (nomatch m), Nat.le_refl _, fun _ => rfl, S0⟩ (fun i σ H2 _ ⟨_, _, _, _, _, _, _, _, _, _, S⟩ => SqL.of (S.kp _ _ (fun m => nomatch m) hs1)) ?_ ?_⟩
    · rintro i x σ H2 hi ⟨E, x2, x3, x4, rfl, hd, nD, okE, lE, eq, S⟩
      obtain ⟨⟨g, e⟩, hp, t, rfl, ht⟩ := prs_get rl1 hi
      have op := ok _ (List.mem_of_getElem? hp)
      have il : i < ps.length := (List.getElem?_eq_some_iff.mp hp).1
      have big : (kvE E).length < sizeLine := by
        unfold kvE
        rw [List.length_map]
        exact Nat.lt_of_le_of_lt (show E.length ≤ 3000 by omega) (by decide)
      refine ⟨t, _, rfl, sqt_stp S Lsts.nil ht, rfl, _, _, rfl, _, _, rfl, rfl, ?_⟩
      have fin : ∀ e' : Option Txt, PrOk (g, e') → (∀ w, inS (putE E g e') w = (inS E w || inP w (g, e))) → ∃ (E' : List Pr) (x2 x3 x4' : Option V), [some (V.ref a), some (V.ref d), some (Tx g), some (oV e), x4] = [some (.ref a), some (.ref d), x2, x3, x4'] ∧ (upd H2 d (.dK (putK (kvE E) (Sum.inr (tx g) : Key) (oV e')))) d = some (.dK (kvE E')) ∧ (E'.map Prod.fst).Nodup ∧ (∀ p ∈ E', PrOk p) ∧ E'.length ≤ i + 1 ∧ (∀ w, inS E' w = inS (ps.take (i + 1)) w) ∧ Stp [] H1 (upd H2 d (.dK (putK (kvE E) (Sum.inr (tx g) : Key) (oV e')))) := fun e' oe he => by
        refine ⟨putE E g e', _, _, _, rfl, by rw [upd_same, putK_kvE], putE_nd nD, putE_ok okE oe, Nat.le_trans putE_len (by omega), fun w => ?_, S.mutO nd⟩
        rw [he, eq, take_in hp]
      refine ⟨_, rfl, _, rfl, d, _, rfl, DGet.k (k := (Sum.inr (tx g) : Key)) hd, ?_⟩
      rw [valV_kvE]
      cases q : lk E g with
      | none =>
        refine ⟨_, rfl, ite2 (fun h => absurd h (by simp)) (fun _ => ?_)⟩
        exact ⟨_, rfl, _, rfl, _, rfl, d, _, rfl, DPut.k (k := (Sum.inr (tx g) : Key)) hd big, fin e op (put_new q)⟩
      | some e0 =>
        refine ⟨_, rfl, ite2 (fun _ => ?_) (fun h => absurd (show true = true from rfl) h)⟩
        refine ⟨_, rfl, _, rfl, _, rfl, d, oV e0, rfl, by have := DGet.k (k := (Sum.inr (tx g) : Key)) hd; rwa [valV_kvE, q] at this, e, e0, rfl, ?_⟩
        exact ⟨_, rfl, _, rfl, d, _, rfl, DPut.k (k := (Sum.inr (tx g) : Key)) hd big, fin _ (later_ok op (okE _ (lk_mem q))) (put_old nD q)⟩
    · rintro σ H2 ⟨E, x2, x3, x4, rfl, hd, nD, okE, lE, eq, S⟩
      rw [lx, List.take_length] at eq
      refine ⟨Nat.zero_le _, fun G nG => ?_⟩
      have S2 : Stp [] H2 (upd H2 G (.lst [])) := Stp.new nG _
      have hd2 := S2.kp _ _ (fun m => nomatch m) hd
      refine ⟨_, rfl, d, _, rfl, hd2, fun q nq => ?_⟩
      have ek : (kvE E).map (fun kv => kV kv.1) = (E.map Prod.fst).map Tx := by
        unfold kvE
        rw [List.map_map, List.map_map]
        rfl
      rw [ek]
      have S3 : Stp [] (upd H2 G (.lst [])) (upd (upd H2 G (.lst [])) q (.lst ((E.map Prod.fst).map Tx))) := Stp.new nq _
      refine ⟨q, E.map Prod.fst, rfl, SqL.of upd_same, fun l m => ?_, by rw [List.length_map]; omega, fun zs z H4 nz0 S4 pm pw hz => ?_⟩
      · obtain ⟨p, mp, rfl⟩ := List.mem_map.mp m
        exact (okE p mp).1
      have hG : H4 G = some (.lst []) := S4.kp _ _ (fun m => nomatch m) (S3.kp _ _ (fun m => nomatch m) upd_same)
      have hd4 : H4 d = some (.dK (kvE E)) := S4.kp _ _ (fun m => nomatch m) (S3.kp _ _ (fun m => nomatch m) hd2)
      have S14 := ((S.trans S2).trans S3).trans S4
      have nz : zs.Nodup := pm.nodup_iff.mpr nD
      have lz : zs.length ≤ 3000 := by rw [pm.length_eq, List.length_map]; omega
      have asc' : zs.Pairwise (· < ·) := pw.imp₂ (fun a b h1 h2 => by
        by_cases c : a < b
        · exact c
        · exact absurd (List.le_antisymm h1 (le_of_nlt c)) h2) nz
      have zG : z ∉ [G] := fun m => by
        rw [List.mem_singleton.mp m] at nz0
        rw [S3.kp G _ (fun m => nomatch m) upd_same] at nz0
        cases nz0
      have dG : d ∉ [G] := fun m => by
        rw [List.mem_singleton.mp m] at hd4
        rw [hG] at hd4
        cases hd4
      refine ⟨z, rfl, ⟨_, SqL.of hz⟩, for_list (a := z) (xs := zs.map Tx) (fun i σ H5 => ∃ (ds : List Pr) (vs : List V) (x2 x3 : Option V), σ = [some (.ref a), some (.ref d), x2, x3, some (.ref G)] ∧ H5 G = some (.lst vs) ∧ RpL K H5 vs (ds.map prD) ∧ SpOk ds ∧ ds.length ≤ i ∧ (∀ p ∈ ds, p.1 ∈ zs.take i) ∧ (∀ w, inS ds w = inS ((zs.take i).map (ent E)) w) ∧ Stp [G] H4 H5)
        ⟨[], [], _, _, rfl, hG, .nil, .nil, Nat.le_refl _, fun _ m => (nomatch m), fun _ => rfl, Stp.refl _ _⟩ (fun i σ H5 _ ⟨_, _, _, _, _, _, _, _, _, _, _, S5⟩ => SqL.of (S5.kp _ _ zG hz)) ?_ ?_⟩
      · rintro i x σ H5 hi ⟨ds, vs, x2, x3, rfl, hG5, rd, okd, ld, fs, eqd, S5⟩
        rw [List.getElem?_map] at hi
        cases ez : zs[i]? with
        | none => rw [ez] at hi; cases hi
        | some y =>
        rw [ez] at hi
        cases hi
        have il : i < zs.length := (List.getElem?_eq_some_iff.mp ez).1
        have hd5 := S5.kp _ _ dG hd4
        obtain ⟨p, mp, py⟩ := List.mem_map.mp (pm.mem_iff.mp (List.mem_of_getElem? ez))
        have lky : lk E y = some p.2 := by rw [← py]; exact lk_some nD mp
        have oky : PrOk (y, p.2) := by rw [← py]; exact okE p mp
        have entY : ent E y = (y, p.2) := by unfold ent; rw [lky]; rfl
        have dg : ∀ {H6 : Hp}, H6 d = some (.dK (kvE E)) → DGet H6 d (Tx y) (some (oV p.2)) := fun h6 => by
          have := DGet.k (k := (Sum.inr (tx y) : Key)) h6
          rwa [valV_kvE, lky] at this
        have tk : ∀ w, inS ((zs.take (i + 1)).map (ent E)) w = (inS ds w || inP w (y, p.2)) := fun w => by
          rw [List.take_add_one, ez, List.map_append, inS_app, eqd, ← entY]
          show (_ || inS [ent E y] w) = _
          rw [inS_cons]
          show (_ || (inP w (ent E y) || false)) = _
          rw [Bool.or_false]
        have lv : vs.length < sizeLine := by
          rw [rd.len, List.length_map]
          exact Nat.lt_of_le_of_lt (show ds.length ≤ 3000 by omega) (by decide)
        have len2 : (2 : Nat) ≤ sizeLine := by decide
        have fs' : ∀ q ∈ ds, q.1 ∈ zs.take (i + 1) := fun q m => by
          rw [List.take_add_one, ez]
          exact List.mem_append_left _ (fs q m)
        have yin : y ∈ zs.take (i + 1) := by
          rw [List.take_add_one, ez]
          exact List.mem_append_right _ (by simp)
        have app : (∀ q, ds.getLast? = some q → reachB q.2 y = false) → ∀ (D : Ends), D.nx = (fun σ' H6 => ∃ (ds : List Pr) (vs : List V) (x2 x3 : Option V), σ' = [some (.ref a), some (.ref d), x2, x3, some (.ref G)] ∧ H6 G = some (.lst vs) ∧ RpL K H6 vs (ds.map prD) ∧ SpOk ds ∧ ds.length ≤ i + 1 ∧ (∀ p ∈ ds, p.1 ∈ zs.take (i + 1)) ∧ (∀ w, inS ds w = inS ((zs.take (i + 1)).map (ent E)) w) ∧ Stp [G] H4 H6) →
            ∀ t2, H5 t2 = none → D.nx [some (.ref a), some (.ref d), some (Tx y), x3, some (.ref G)] (upd (upd H5 t2 (.tup [Tx y, oV p.2])) G (.lst (vs ++ [.ref t2]))) := fun last D eD t2 nt2 => by
          rw [eD]
          have nG2 : G ≠ t2 := ne_of_none hG5 nt2
          have hG6 : (upd H5 t2 (.tup [Tx y, oV p.2])) G = some (.lst vs) := by rw [upd_ne nG2]; exact hG5
          have s3 : Stp [] H5 (upd H5 t2 (.tup [Tx y, oV p.2])) := Stp.new nt2 _
          have s4 : Stp [G] (upd H5 t2 (.tup [Tx y, oV p.2])) (upd (upd H5 t2 (.tup [Tx y, oV p.2])) G (.lst (vs ++ [.ref t2]))) := Stp.put (by simp)
          refine ⟨ds ++ [(y, p.2)], vs ++ [.ref t2], _, _, rfl, upd_same, ?_, new_ok okd oky last, by simp; omega, fun q m => ?_, fun w => ?_, (S5.trans s3.nil).trans s4⟩
          · refine prs_one ((rd.stp s3 Lsts.nil).stp s4 (.one hG6)) (pr_rp (p := (y, p.2)) (SqT.of ?_) oky.1.2 fun e q => (oky.2 e q).1.2)
            rw [upd_ne nG2.symm]
            exact upd_same
          · rcases List.mem_append.mp m with m | m
            · exact fs' q m
            · rw [List.mem_singleton.mp m]
              exact yin
          · rw [tk, inS_app]
            congr 1
            rw [inS_cons]
            show (inP w (y, p.2) || false) = _
            rw [Bool.or_false]
        refine ⟨_, rfl, _, .inl ⟨vs, SqL.of hG5, rfl⟩, ?_⟩
        rcases List.eq_nil_or_concat ds with rfl | ⟨d0, q, rfl⟩
        · have ev : vs = [] := List.length_eq_zero_iff.mp (by rw [rd.len]; rfl)
          subst ev
          refine ite2 (fun h => absurd h (by simp)) (fun _ => ?_)
          refine ⟨_, rfl, .inl ⟨rfl, _, SqL.of hG5⟩, _, rfl, _, rfl, _, rfl, d, _, rfl, dg hd5, len2, fun t2 nt2 => ?_⟩
          exact ⟨G, _, _, rfl, rfl, by rw [upd_ne (ne_of_none hG5 nt2)]; exact hG5, lv, app (fun q h => by cases h) _ rfl t2 nt2⟩
        · rw [List.concat_eq_append] at *
          have gl : (d0 ++ [q]).getLast? = some q := by rw [List.getLast?_append, List.getLast?_singleton]; rfl
          have lvs : vs.length = d0.length + 1 := by rw [rd.len, List.length_map, List.length_append]; rfl
          have vne : vs ≠ [] := by intro e; rw [e] at lvs; simp at lvs
          obtain ⟨v, hv0⟩ : ∃ v, vs[d0.length]? = some v := ⟨vs[d0.length]'(by omega), List.getElem?_eq_getElem _⟩
          obtain ⟨q', hq', t, rfl, ht⟩ := prs_get rd hv0
          obtain rfl : q = q' := by
            rw [List.getElem?_append_right (Nat.le_refl _), Nat.sub_self] at hq'
            exact Option.some.inj hq'
          have al : atI vs (-1) = some (.ref t) := atL vne (by rw [lvs, Nat.add_sub_cancel]; exact hv0)
          have qlt : q.1 ≤ y := by
            have m := fs q (by simp)
            obtain ⟨j, hj, ej⟩ := List.mem_iff_getElem.mp m
            rw [List.length_take] at hj
            rw [List.getElem_take] at ej
            have := List.pairwise_iff_getElem.mp asc' j i (by omega) il (by omega)
            rw [ej, (List.getElem?_eq_some_iff.mp ez).2] at this
            exact lt_le' this
          refine ite2 (fun _ => ?_) (fun h => absurd (by cases vs with | nil => exact absurd rfl vne | cons _ _ => rfl) h)
          refine ⟨_, rfl, 1, rfl, G, _, _, .ref t, rfl, rfl, SqL.of hG5, al, t, _, 1, oV q.2, rfl, rfl, ht, at1, _, rfl, q.2, y, rfl, fun b eb => ⟨_, rfl, ite2 (fun h => ?_) (fun h => ?_)⟩⟩
          · have rt : reachB q.2 y = true := by rw [← eb]; exact h
            refine ⟨_, rfl, 1, rfl, G, _, _, .ref t, rfl, rfl, SqL.of hG5, al, t, _, 0, Tx q.1, rfl, rfl, ht, at0, ?_⟩
            refine ⟨_, rfl, 1, rfl, G, _, _, .ref t, rfl, rfl, SqL.of hG5, al, t, _, 1, oV q.2, rfl, rfl, ht, at1, _, rfl, _, rfl, d, _, rfl, dg hd5, q.2, p.2, rfl, len2, fun t2 nt2 => ?_⟩
            have nG2 : G ≠ t2 := ne_of_none hG5 nt2
            have hG6 : (upd H5 t2 (.tup [Tx q.1, oV (laterM q.2 p.2)])) G = some (.lst vs) := by rw [upd_ne nG2]; exact hG5
            have s3 : Stp [] H5 (upd H5 t2 (.tup [Tx q.1, oV (laterM q.2 p.2)])) := Stp.new nt2 _
            have s4 : Stp [G] (upd H5 t2 (.tup [Tx q.1, oV (laterM q.2 p.2)])) (upd (upd H5 t2 (.tup [Tx q.1, oV (laterM q.2 p.2)])) G (.lst (vs.set d0.length (.ref t2)))) := Stp.put (by simp)
            have ixn : ixN vs.length (-1) = some d0.length := by
              unfold ixN
              rw [if_neg (by decide), if_pos (by omega), lvs]
              simp
              omega
            have ok2 := ext_ok okd oky qlt
            have o2 := ok2.ok (q.1, laterM q.2 p.2) (by simp)
            refine ⟨_, rfl, 1, rfl, G, _, _, d0.length, rfl, rfl, hG6, ixn, ?_⟩
            refine ⟨d0 ++ [(q.1, laterM q.2 p.2)], vs.set d0.length (.ref t2), _, _, rfl, upd_same, ?_, ok2, by simp at ld ⊢; omega, fun r m => ?_, fun w => ?_, (S5.trans s3.nil).trans s4⟩
            · have e5 : ((d0 ++ [(q.1, laterM q.2 p.2)]).map prD) = (((d0 ++ [q]).map prD).set d0.length (prD (q.1, laterM q.2 p.2))) := by
                rw [List.map_append, List.map_append, List.set_append_right _ _ (by simp)]
                simp
              rw [e5]
              refine rpl_set ((rd.stp s3 Lsts.nil).stp s4 (.one hG6)) (pr_rp (p := (q.1, laterM q.2 p.2)) (SqT.of ?_) o2.1.2 fun e h => (o2.2 e h).1.2)
              rw [upd_ne nG2.symm]
              exact upd_same
            · rcases List.mem_append.mp m with m | m
              · exact fs' r (List.mem_append_left _ m)
              · rw [List.mem_singleton.mp m]
                exact fs' q (by simp)
            · rw [ext_in qlt rt, tk]
          · refine ⟨_, rfl, .inl ⟨rfl, _, SqL.of hG5⟩, _, rfl, _, rfl, _, rfl, d, _, rfl, dg hd5, len2, fun t2 nt2 => ?_⟩
            exact ⟨G, _, _, rfl, rfl, by rw [upd_ne (ne_of_none hG5 nt2)]; exact hG5, lv, app (fun r hr' => by rw [gl] at hr'; cases hr'; rw [← eb]; exact Bool.eq_false_iff.mpr h) _ rfl t2 nt2⟩
      · rintro σ H5 ⟨ds, vs, x2, x3, rfl, hG5, rd, okd, ld, fs, eqd, S5⟩
        rw [List.length_map] at ld eqd
        rw [List.take_length] at eqd
        refine ⟨_, rfl, G, _, rfl, .inl ⟨SqL.of hG5, fun b nb => ?_⟩⟩
        have SS : Stp [] H (upd H5 b (.tup vs)) := (S1.trans ((S.trans (Stp.loc nG ((S2.trans S3).trans S4 |>.nil.trans S5)))|>.new' nb))
        exact k b ds _ SS ⟨⟨vs, SqT.of upd_same, rd.stp (Stp.new nb _) Lsts.nil⟩, okd, by omega⟩ fun w => by rw [eqd, ent_in nD pm, eq]
/-! ### the texts of spans -/
theorem neat_tx {l : Txt} (h : Short l) : Neat (.str (tx l)) := .str (by rw [tx_len]; exact h.2) fun n m => by
  have m : n ∈ l := by simpa [tx] using m
  rcases h.1 n m with e | e | e <;> rw [e] <;> decide
theorem neat_pr {p : Pr} (h : PrS p) : Neat (prP p) := by
  obtain ⟨f, e⟩ := p
  refine .tup (.cons (neat_tx h.1) (.cons ?_ .nil))
  cases e with
  | none => exact .non
  | some e => exact neat_tx (h.2 e rfl)
theorem neat_prs : ∀ {ps : List Pr}, (∀ p ∈ ps, PrS p) → Neats (ps.map prP)
  | [], _ => .nil
  | p :: ps, h => .cons (neat_pr (h p List.mem_cons_self)) (neat_prs fun q m => h q (List.mem_cons_of_mem _ m))
theorem dW_pr (p : Pr) : dW (prP p) ≤ 252 := by
  obtain ⟨f, e⟩ := p
  cases e <;> simp [prP, dW, dWs]
theorem dW_prs : ∀ (ps : List Pr), dWs (ps.map prP) ≤ 254 * ps.length
  | [] => by simp [dWs]
  | p :: ps => by
    have a := dW_pr p
    have b := dW_prs ps
    simp only [List.map_cons, dWs, List.length_cons]
    omega
def shownP (ps : List Pr) : Str := (PyData.tuple (ps.map prP)).shown
theorem Spn.dp {K : PySem.W.Frag} {H : Hp} {a : Addr} {ps : List Pr} (h : Spn K H a ps) : Dp K H (.ref a) (.tuple (ps.map prP)) := by
  obtain ⟨vs, h1, h2⟩ := h.ex
  exact .tup h1 (prs_dp h2)
theorem spn_rep {K : PySem.W.Frag} {H : Hp} {a : Addr} {ps : List Pr} {Q : VK} (h : Spn K H a ps) (k : Q (.str (shownP ps)) H) : rNeat K [.ref a] H Q := by
  refine ⟨_, _, rfl, h.dp, .tup (neat_prs fun p m => (h.ok.ok p m).s), ?_, ?_, k⟩
  · have := depPs ps
    show PyData.depthAll _ + 1 ≤ 100
    omega
  · have := dW_prs ps
    have := h.few
    show dWs _ + 4 ≤ 1000000
    omega
/-- repr(a) != repr(b), one span -/
theorem Spn.new {K : PySem.W.Frag} {H : Hp} {t : Addr} {vs : List V} {ps : List Pr} (nt : H t = none) (r : RpL K H vs (ps.map prD)) (ok : SpOk ps) (few : ps.length ≤ 3000) : Spn K (upd H t (.tup vs)) t ps := ⟨⟨vs, SqT.of upd_same, r.stp (Stp.new nt []) Lsts.nil⟩, ok, few⟩
theorem Spn.up {K : PySem.W.Frag} {H H' : Hp} {a : Addr} {ps : List Pr} (h : Spn K H a ps) (s : Stp [] H H') : Spn K H' a ps := h.stp s Lsts.nil
abbrev s_joined : Stmt := topS 17
abbrev N_joined : List Str := ["span", "other_span"]
theorem sc_joined : FnScope ["span", "other_span"] ["span", "other_span"] (defScope s_joined) := ⟨rfl, rfl, rfl, by decide +kernel, rfl, by decide +kernel, by decide +kernel⟩

abbrev s_shared : Stmt := topS 18
abbrev N_shared : List Str := ["span", "other_span"]
theorem sc_shared : FnScope ["span", "other_span"] ["span", "other_span"] (defScope s_shared) := ⟨rfl, rfl, rfl, by decide +kernel, rfl, by decide +kernel, by decide +kernel⟩

/-! ### joined, shared -/
def spJoined (K : PySem.W.Frag) : Sp := fun vs H Q _ => ∃ (a b : Addr) (ps qs : List Pr), vs = [.ref a, .ref b] ∧ Spn K H a ps ∧ Spn K H b qs ∧ ps.length + qs.length ≤ 3000 ∧ ∀ c ds H', Stp [] H H' → Spn K H' c ds → (∀ w, inS ds w = (inS ps w || inS qs w)) → Q (.ref c) H'
theorem cl_joined {f : Addr} {fd : FuncData} (D : Df K mg "joined" s_joined ["span", "other_span"] f fd) (T : Nm mg) (c_check_span : Cl P w K mg base 4 "check_span" s_check_span ["span"] (spCkSpan K)) (c_span_of : Cl P w K mg base 4 "span_of" s_span_of ["ranges"] (spSpanOf K)) :
    Cl P w K mg base 5 "joined" s_joined ["span", "other_span"] (spJoined K) := by
  refine D.cl sc_joined (fun vs H Q E h => ?_) (fun cdv A outer s H vs Q E hr h => ?_)
  · obtain ⟨a, b, ps, qs, rfl, _⟩ := h
    rfl
  · obtain ⟨a, b, ps, qs, rfl, sa, sb, few, k⟩ := h
    refine ⟨_, (pss_cons (ps_expr (pe_cl c_check_span hr (by omega) (pa_cons (pv 0) pa_nil)))
      (pss_cons (ps_expr (pe_cl c_check_span hr (by omega) (pa_cons (pv 1) pa_nil)))
      (pss_one (ps_ret (pe_cl c_span_of hr (by omega) (pa_cons (pe_lst (StX.pa_star (pv 0) (StX.pa_star (pv 1) pa_nil))) pa_nil)))))), ?_⟩
    refine ⟨_, rfl, a, ps, rfl, sa, fun H1 S1 => ?_⟩
    refine ⟨_, rfl, b, qs, rfl, sb.up S1, fun H2 S2 => ?_⟩
    have sa2 := (sa.up S1).up S2
    have sb2 := (sb.up S1).up S2
    obtain ⟨⟨xs, hx, rx⟩, okx, _⟩ := id sa2
    obtain ⟨⟨ys, hy, ry⟩, oky, _⟩ := id sb2
    refine ⟨_, rfl, a, xs, rfl, .inl hx, _, rfl, b, ys, rfl, .inl hy, ?_, fun l nl => ?_⟩
    · rw [List.append_nil, List.length_append, rx.len, ry.len, List.length_map, List.length_map]
      exact sz (by omega)
    rw [List.append_nil]
    have S3 : Stp [] H2 (upd H2 l (.lst (xs ++ ys))) := Stp.new nl _
    have r3 : RpL K (upd H2 l (.lst (xs ++ ys))) (xs ++ ys) ((ps ++ qs).map prD) := by
      rw [List.map_append]
      exact (rx.stp S3 Lsts.nil).app (ry.stp S3 Lsts.nil)
    refine ⟨l, _, ps ++ qs, rfl, upd_same, r3, fun p m => (List.mem_append.mp m).elim (okx.ok p) (oky.ok p), by rw [List.length_append]; omega, fun c ds H4 S4 sp eq => ?_⟩
    exact k c ds H4 (((S1.trans S2).trans S3).trans S4) sp fun w => by rw [eq, inS_app]
def spShared (K : PySem.W.Frag) : Sp := fun vs H Q _ => ∃ (a b : Addr) (ps qs : List Pr), vs = [.ref a, .ref b] ∧ Spn K H a ps ∧ Spn K H b qs ∧ ps.length + qs.length ≤ 2800 ∧ ∀ c ds H', Stp [] H H' → Spn K H' c ds → (∀ w, inS ds w = (inS ps w && inS qs w)) → ds.length ≤ ps.length + qs.length + 3 → Q (.ref c) H'
theorem opps_w {ps : List Pr} (ok : SpOk ps) (w : Txt) : inS (opps [] ps) w = !inS ps w := opps_in ps [] w ok short_nil (fun _ _ => nil_le _) (nil_le _)
theorem cl_shared {f : Addr} {fd : FuncData} (D : Df K mg "shared" s_shared ["span", "other_span"] f fd) (T : Nm mg) (c_opposite : Cl P w K mg base 5 "opposite" s_opposite ["span"] (spOpp K)) (c_joined : Cl P w K mg base 5 "joined" s_joined ["span", "other_span"] (spJoined K)) :
    Cl P w K mg base 6 "shared" s_shared ["span", "other_span"] (spShared K) := by
  refine D.cl sc_shared (fun vs H Q E h => ?_) (fun cdv A outer s H vs Q E hr h => ?_)
  · obtain ⟨a, b, ps, qs, rfl, _⟩ := h
    rfl
  · obtain ⟨a, b, ps, qs, rfl, sa, sb, few, k⟩ := h
    refine ⟨_, (pss_one (ps_ret (pe_cl c_opposite hr (by omega) (pa_cons (pe_cl c_joined hr (by omega) (pa_cons (pe_cl c_opposite hr (by omega) (pa_cons (pv 0) pa_nil)) (pa_cons (pe_cl c_opposite hr (by omega) (pa_cons (pv 1) pa_nil)) pa_nil))) pa_nil)))), ?_⟩
    have l1 := opps_len ps []
    have l2 := opps_len qs []
    refine ⟨_, rfl, a, ps, rfl, sa, by omega, fun c1 H1 S1 sp1 => ?_⟩
    refine ⟨_, rfl, b, qs, rfl, sb.up S1, by omega, fun c2 H2 S2 sp2 => ?_⟩
    refine ⟨c1, c2, _, _, rfl, sp1.up S2, sp2, by omega, fun c3 ds H3 S3 sp3 eq3 => ?_⟩
    have l3 := norm_len (ps := opps [] ps ++ opps [] qs) sp3.ok fun w => by rw [eq3, inS_app]
    rw [List.length_append] at l3
    refine ⟨c3, ds, rfl, sp3, by omega, fun c4 H4 S4 sp4 => ?_⟩
    refine k c4 _ H4 (((S1.trans S2).trans S3).trans S4) sp4 (fun w => ?_) (by have := opps_len ds []; omega)
    rw [opps_w sp3.ok, eq3, opps_w sa.ok, opps_w sb.ok]
    cases inS ps w <;> cases inS qs w <;> rfl
abbrev s__law_step : Stmt := topS 29
abbrev N__law_step : List Str := ["way", "whole", "part", "elder"]
theorem sc__law_step : FnScope ["way", "whole", "part", "elder"] ["way", "whole", "part", "elder"] (defScope s__law_step) := ⟨rfl, rfl, rfl, by decide +kernel, rfl, by decide +kernel, by decide +kernel⟩

/-! ### _law_step -/
def markB (way : Int) (m y e : Bool) : Bool := if way = 6 then m && e else if way = 7 then m != e else if way = 0 then m || y else if way = 1 then m && y else if way = 2 then m && !y else if way = 3 then !m else if way = 4 then y || !m else m != y
def spStep (K : PySem.W.Frag) : Sp := fun vs H Q _ => ∃ (way : Int) (a c e : Addr) (ps qs es : List Pr), vs = [.int way, .ref a, .ref c, .ref e] ∧ Spn K H a ps ∧ Spn K H c qs ∧ Spn K H e es ∧ ps.length ≤ 500 ∧ qs.length ≤ 500 ∧ es.length ≤ 500 ∧
  ∀ r ds H', Stp [] H H' → Spn K H' r ds → (∀ w, inS ds w = markB way (inS ps w) (inS qs w) (inS es w)) → Q (.ref r) H'
theorem cl__law_step {f : Addr} {fd : FuncData} (D : Df K mg "_law_step" s__law_step ["way", "whole", "part", "elder"] f fd) (T : Nm mg) (c_opposite : Cl P w K mg base 5 "opposite" s_opposite ["span"] (spOpp K)) (c_joined : Cl P w K mg base 5 "joined" s_joined ["span", "other_span"] (spJoined K))
    (c_shared : Cl P w K mg base 6 "shared" s_shared ["span", "other_span"] (spShared K)) : Cl P w K mg base 7 "_law_step" s__law_step ["way", "whole", "part", "elder"] (spStep K) := by
  refine D.cl sc__law_step (fun vs H Q E h => ?_) (fun cdv A outer s H vs Q E hr h => ?_)
  · obtain ⟨way, a, c, e, ps, qs, es, rfl, _⟩ := h
    rfl
  · obtain ⟨way, a, c, e, ps, qs, es, rfl, sa, sc, se, la, lc, le, k⟩ := h
    refine ⟨_, (pss_cons (ps_if (pt_cmpR op_eq (pv 0) pe_int (by first | exact nomark _ | rfl)) (pss_one (ps_ret (pe_cl c_shared hr (by omega) (pa_cons (pv 3) (pa_cons (pv 1) pa_nil))))) pss_nil)
      (pss_cons (ps_if (pt_cmpR op_eq (pv 0) pe_int (by first | exact nomark _ | rfl)) (pss_one (ps_ret (pe_cl c_joined hr (by omega) (pa_cons (pe_cl c_shared hr (by omega) (pa_cons (pv 1) (pa_cons (pe_cl c_opposite hr (by omega) (pa_cons (pv 3) pa_nil)) pa_nil))) (pa_cons (pe_cl c_shared hr (by omega) (pa_cons (pv 3) (pa_cons (pe_cl c_opposite hr (by omega) (pa_cons (pv 1) pa_nil)) pa_nil))) pa_nil))))) pss_nil)
      (pss_cons (ps_if (pt_cmpR op_eq (pv 0) pe_int (by first | exact nomark _ | rfl)) (pss_one (ps_ret (pe_cl c_joined hr (by omega) (pa_cons (pv 1) (pa_cons (pv 2) pa_nil))))) pss_nil)
      (pss_cons (ps_if (pt_cmpR op_eq (pv 0) pe_int (by first | exact nomark _ | rfl)) (pss_one (ps_ret (pe_cl c_shared hr (by omega) (pa_cons (pv 1) (pa_cons (pv 2) pa_nil))))) pss_nil)
      (pss_cons (ps_if (pt_cmpR op_eq (pv 0) pe_int (by first | exact nomark _ | rfl)) (pss_one (ps_ret (pe_cl c_shared hr (by omega) (pa_cons (pv 1) (pa_cons (pe_cl c_opposite hr (by omega) (pa_cons (pv 2) pa_nil)) pa_nil))))) pss_nil)
      (pss_cons (ps_if (pt_cmpR op_eq (pv 0) pe_int (by first | exact nomark _ | rfl)) (pss_one (ps_ret (pe_cl c_opposite hr (by omega) (pa_cons (pv 1) pa_nil)))) pss_nil)
      (pss_cons (ps_if (pt_cmpR op_eq (pv 0) pe_int (by first | exact nomark _ | rfl)) (pss_one (ps_ret (pe_cl c_joined hr (by omega) (pa_cons (pv 2) (pa_cons (pe_cl c_opposite hr (by omega) (pa_cons (pv 1) pa_nil)) pa_nil))))) pss_nil)
      (pss_one (ps_ret (pe_cl c_joined hr (by omega) (pa_cons (pe_cl c_shared hr (by omega) (pa_cons (pv 1) (pa_cons (pe_cl c_opposite hr (by omega) (pa_cons (pv 2) pa_nil)) pa_nil))) (pa_cons (pe_cl c_shared hr (by omega) (pa_cons (pe_cl c_opposite hr (by omega) (pa_cons (pv 1) pa_nil)) (pa_cons (pv 2) pa_nil))) pa_nil)))))))))))), ?_⟩
    have oka := sa.ok
    have okc := sc.ok
    have oke := se.ok
    have la' := opps_len ps []
    have lc' := opps_len qs []
    have le' := opps_len es []
    refine ⟨_, rfl, rfl, _, rfl, ite2 (fun h6 => ?_) (fun h6 => ?_)⟩
    · have h6 : way = 6 := by simpa using h6
      refine ⟨_, rfl, _, rfl, e, a, es, ps, rfl, se, sa, by omega, fun r ds H1 S1 sp eq _ => k r ds H1 S1 sp fun w => ?_⟩
      rw [eq, Bool.and_comm]
      unfold markB
      rw [if_pos h6]
    have h6 : ¬ way = 6 := by simpa using h6
    refine ⟨_, rfl, rfl, _, rfl, ite2 (fun h7 => ?_) (fun h7 => ?_)⟩
    · have h7 : way = 7 := by simpa using h7
      refine ⟨_, rfl, _, rfl, e, es, rfl, se, by omega, fun e1 H1 S1 se1 => ?_⟩
      refine ⟨a, e1, ps, _, rfl, sa.up S1, se1, by omega, fun r2 d2 H2 S2 sp2 eq2 l2 => ?_⟩
      have S12 := S1.trans S2
      refine ⟨_, rfl, _, rfl, a, ps, rfl, sa.up S12, by omega, fun a1 H3 S3 sa1 => ?_⟩
      refine ⟨e, a1, es, _, rfl, (se.up S12).up S3, sa1, by omega, fun r4 d4 H4 S4 sp4 eq4 l4 => ?_⟩
      refine ⟨r2, r4, d2, d4, rfl, (sp2.up S3).up S4, sp4, by omega, fun r ds H5 S5 sp eq => k r ds H5 (((S12.trans S3).trans S4).trans S5) sp fun w => ?_⟩
      rw [eq, eq2, eq4, opps_w oka, opps_w oke]
      unfold markB
      rw [if_neg h6, if_pos h7]
      cases inS ps w <;> cases inS es w <;> rfl
    have h7 : ¬ way = 7 := by simpa using h7
    refine ⟨_, rfl, rfl, _, rfl, ite2 (fun h0 => ?_) (fun h0 => ?_)⟩
    · have h0 : way = 0 := by simpa using h0
      refine ⟨_, rfl, _, rfl, a, c, ps, qs, rfl, sa, sc, by omega, fun r ds H1 S1 sp eq => k r ds H1 S1 sp fun w => ?_⟩
      rw [eq]
      unfold markB
      rw [if_neg h6, if_neg h7, if_pos h0]
    have h0 : ¬ way = 0 := by simpa using h0
    refine ⟨_, rfl, rfl, _, rfl, ite2 (fun h1 => ?_) (fun h1 => ?_)⟩
    · have h1 : way = 1 := by simpa using h1
      refine ⟨_, rfl, _, rfl, a, c, ps, qs, rfl, sa, sc, by omega, fun r ds H1 S1 sp eq _ => k r ds H1 S1 sp fun w => ?_⟩
      rw [eq]
      unfold markB
      rw [if_neg h6, if_neg h7, if_neg h0, if_pos h1]
    have h1 : ¬ way = 1 := by simpa using h1
    refine ⟨_, rfl, rfl, _, rfl, ite2 (fun h2 => ?_) (fun h2 => ?_)⟩
    · have h2 : way = 2 := by simpa using h2
      refine ⟨_, rfl, _, rfl, c, qs, rfl, sc, by omega, fun c1 H1 S1 sc1 => ?_⟩
      refine ⟨a, c1, ps, _, rfl, sa.up S1, sc1, by omega, fun r ds H2 S2 sp eq _ => k r ds H2 (S1.trans S2) sp fun w => ?_⟩
      rw [eq, opps_w okc]
      unfold markB
      rw [if_neg h6, if_neg h7, if_neg h0, if_neg h1, if_pos h2]
    have h2 : ¬ way = 2 := by simpa using h2
    refine ⟨_, rfl, rfl, _, rfl, ite2 (fun h3 => ?_) (fun h3 => ?_)⟩
    · have h3 : way = 3 := by simpa using h3
      refine ⟨_, rfl, a, ps, rfl, sa, by omega, fun r H1 S1 sp => k r _ H1 S1 sp fun w => ?_⟩
      rw [opps_w oka]
      unfold markB
      rw [if_neg h6, if_neg h7, if_neg h0, if_neg h1, if_neg h2, if_pos h3]
    have h3 : ¬ way = 3 := by simpa using h3
    refine ⟨_, rfl, rfl, _, rfl, ite2 (fun h4 => ?_) (fun h4 => ?_)⟩
    · have h4 : way = 4 := by simpa using h4
      refine ⟨_, rfl, _, rfl, a, ps, rfl, sa, by omega, fun a1 H1 S1 sa1 => ?_⟩
      refine ⟨c, a1, qs, _, rfl, sc.up S1, sa1, by omega, fun r ds H2 S2 sp eq => k r ds H2 (S1.trans S2) sp fun w => ?_⟩
      rw [eq, opps_w oka]
      unfold markB
      rw [if_neg h6, if_neg h7, if_neg h0, if_neg h1, if_neg h2, if_neg h3, if_pos h4]
    have h4 : ¬ way = 4 := by simpa using h4
    refine ⟨_, rfl, _, rfl, c, qs, rfl, sc, by omega, fun c1 H1 S1 sc1 => ?_⟩
    refine ⟨a, c1, ps, _, rfl, sa.up S1, sc1, by omega, fun r2 d2 H2 S2 sp2 eq2 l2 => ?_⟩
    have S12 := S1.trans S2
    refine ⟨_, rfl, a, ps, rfl, sa.up S12, by omega, fun a1 H3 S3 sa1 => ?_⟩
    refine ⟨_, rfl, a1, c, _, qs, rfl, sa1, (sc.up S12).up S3, by omega, fun r4 d4 H4 S4 sp4 eq4 l4 => ?_⟩
    refine ⟨r2, r4, d2, d4, rfl, (sp2.up S3).up S4, sp4, by omega, fun r ds H5 S5 sp eq => k r ds H5 (((S12.trans S3).trans S4).trans S5) sp fun w => ?_⟩
    rw [eq, eq2, eq4, opps_w oka, opps_w okc]
    unfold markB
    rw [if_neg h6, if_neg h7, if_neg h0, if_neg h1, if_neg h2, if_neg h3, if_neg h4]
    cases inS ps w <;> cases inS qs w <;> rfl
abbrev s__law_mark : Stmt := topS 30
abbrev N__law_mark : List Str := ["way", "mine", "yours", "elder"]
theorem sc__law_mark : FnScope ["way", "mine", "yours", "elder"] ["way", "mine", "yours", "elder"] (defScope s__law_mark) := ⟨rfl, rfl, rfl, by decide +kernel, rfl, by decide +kernel, by decide +kernel⟩

/-! ### _law_mark -/
def spMark : Sp := fun vs H Q _ => ∃ (way : Int) (m y e : Bool), vs = [.int way, .bl m, .bl y, .bl e] ∧ Q (.bl (markB way m y e)) H
theorem cl__law_mark {f : Addr} {fd : FuncData} (D : Df K mg "_law_mark" s__law_mark ["way", "mine", "yours", "elder"] f fd) (T : Nm mg) : Cl P w K mg base 1 "_law_mark" s__law_mark ["way", "mine", "yours", "elder"] spMark := by
  refine D.cl sc__law_mark (fun vs H Q E h => ?_) (fun cdv A outer s H vs Q E hr h => ?_)
  · obtain ⟨way, m, y, e, rfl, _⟩ := h
    rfl
  · obtain ⟨way, m, y, e, rfl, k⟩ := h
    refine ⟨_, (pss_cons (ps_if (pt_cmpR op_eq (pv 0) pe_int (by first | exact nomark _ | rfl)) (pss_one (ps_ret (pe_and (pv 1) (pe_one (pv 3))))) pss_nil)
      (pss_cons (ps_if (pt_cmpR op_eq (pv 0) pe_int (by first | exact nomark _ | rfl)) (pss_one (ps_ret (pe_cmpR op_ne (pv 1) (pv 3) (by first | exact nomark _ | rfl)))) pss_nil)
      (pss_cons (ps_if (pt_cmpR op_eq (pv 0) pe_int (by first | exact nomark _ | rfl)) (pss_one (ps_ret (pe_or (pv 1) (pe_one (pv 2))))) pss_nil)
      (pss_cons (ps_if (pt_cmpR op_eq (pv 0) pe_int (by first | exact nomark _ | rfl)) (pss_one (ps_ret (pe_and (pv 1) (pe_one (pv 2))))) pss_nil)
      (pss_cons (ps_if (pt_cmpR op_eq (pv 0) pe_int (by first | exact nomark _ | rfl)) (pss_one (ps_ret (pe_and (pv 1) (pe_one (pe_not (pv 2)))))) pss_nil)
      (pss_cons (ps_if (pt_cmpR op_eq (pv 0) pe_int (by first | exact nomark _ | rfl)) (pss_one (ps_ret (pe_not (pv 1)))) pss_nil)
      (pss_cons (ps_if (pt_cmpR op_eq (pv 0) pe_int (by first | exact nomark _ | rfl)) (pss_one (ps_ret (pe_or (pv 2) (pe_one (pe_not (pv 1)))))) pss_nil)
      (pss_one (ps_ret (pe_cmpR op_ne (pv 1) (pv 2) (by first | exact nomark _ | rfl))))))))))), ?_⟩
    unfold markB at k
    have T0 : ¬ (false = true) := by decide
    refine ⟨_, rfl, rfl, _, rfl, ite2 (fun h6 => ?_) (fun h6 => ?_)⟩
    · rw [if_pos (show way = 6 by simpa using h6)] at k
      cases m
      · exact ⟨_, rfl, _, rfl, ite2 (fun h => absurd h T0) fun _ => k⟩
      · exact ⟨_, rfl, _, rfl, ite2 (fun _ => ⟨_, rfl, k⟩) fun h => absurd rfl h⟩
    rw [if_neg (show ¬ way = 6 by simpa using h6)] at k
    refine ⟨_, rfl, rfl, _, rfl, ite2 (fun h7 => ?_) (fun h7 => ?_)⟩
    · rw [if_pos (show way = 7 by simpa using h7)] at k
      exact ⟨_, rfl, _, rfl, rfl, by cases m <;> cases e <;> exact k⟩
    rw [if_neg (show ¬ way = 7 by simpa using h7)] at k
    refine ⟨_, rfl, rfl, _, rfl, ite2 (fun h0 => ?_) (fun h0 => ?_)⟩
    · rw [if_pos (show way = 0 by simpa using h0)] at k
      cases m
      · exact ⟨_, rfl, _, rfl, ite2 (fun h => absurd h T0) fun _ => ⟨_, rfl, k⟩⟩
      · exact ⟨_, rfl, _, rfl, ite2 (fun _ => k) fun h => absurd rfl h⟩
    rw [if_neg (show ¬ way = 0 by simpa using h0)] at k
    refine ⟨_, rfl, rfl, _, rfl, ite2 (fun h1 => ?_) (fun h1 => ?_)⟩
    · rw [if_pos (show way = 1 by simpa using h1)] at k
      cases m
      · exact ⟨_, rfl, _, rfl, ite2 (fun h => absurd h T0) fun _ => k⟩
      · exact ⟨_, rfl, _, rfl, ite2 (fun _ => ⟨_, rfl, k⟩) fun h => absurd rfl h⟩
    rw [if_neg (show ¬ way = 1 by simpa using h1)] at k
    refine ⟨_, rfl, rfl, _, rfl, ite2 (fun h2 => ?_) (fun h2 => ?_)⟩
    · rw [if_pos (show way = 2 by simpa using h2)] at k
      cases m
      · exact ⟨_, rfl, _, rfl, ite2 (fun h => absurd h T0) fun _ => k⟩
      · exact ⟨_, rfl, _, rfl, ite2 (fun _ => ⟨_, rfl, _, rfl, k⟩) fun h => absurd rfl h⟩
    rw [if_neg (show ¬ way = 2 by simpa using h2)] at k
    refine ⟨_, rfl, rfl, _, rfl, ite2 (fun h3 => ?_) (fun h3 => ?_)⟩
    · rw [if_pos (show way = 3 by simpa using h3)] at k
      exact ⟨_, rfl, _, rfl, k⟩
    rw [if_neg (show ¬ way = 3 by simpa using h3)] at k
    refine ⟨_, rfl, rfl, _, rfl, ite2 (fun h4 => ?_) (fun h4 => ?_)⟩
    · rw [if_pos (show way = 4 by simpa using h4)] at k
      cases y
      · exact ⟨_, rfl, _, rfl, ite2 (fun h => absurd h T0) fun _ => ⟨_, rfl, _, rfl, k⟩⟩
      · exact ⟨_, rfl, _, rfl, ite2 (fun _ => k) fun h => absurd rfl h⟩
    rw [if_neg (show ¬ way = 4 by simpa using h4)] at k
    exact ⟨_, rfl, _, rfl, rfl, by cases m <;> cases y <;> exact k⟩
abbrev s_law : Stmt := topS 31
abbrev N_law : List Str := ["script", "pool", "steps", "cell", "bag", "way", "back", "points", "marks", "whole", "past", "pairs", "elder", "yours", "inside", "spots", "k", "word"]
theorem sc_law : FnScope ["script", "pool", "steps", "cell", "bag", "way", "back", "points", "marks", "whole", "past", "pairs", "elder", "yours", "inside", "spots", "k", "word"] ["script"] (defScope s_law) := ⟨rfl, rfl, rfl, by decide +kernel, rfl, by decide +kernel, by decide +kernel⟩

/-! ### the law -/
theorem Bag.ls {H : Hp} {b : Addr} {n : Nat} (h : Bag H b n) : Lsts H [b] := by
  obtain ⟨x, y, z, hb, _⟩ := h
  exact .one hb
theorem bls_dp {K : PySem.W.Frag} {H : Hp} : ∀ (bs : List Bool), DpAll K H (bs.map V.bl) (bs.map PyData.bool)
  | [] => .nil
  | b :: bs => .cons (.bl b) (bls_dp bs)
theorem bls_neat : ∀ (bs : List Bool), Neats (bs.map PyData.bool)
  | [] => .nil
  | b :: bs => .cons (.bl b) (bls_neat bs)
theorem bls_dep : ∀ (bs : List Bool), PyData.depthAll (bs.map PyData.bool) ≤ 1
  | [] => Nat.zero_le _
  | b :: bs => by
    have := bls_dep bs
    show max (PyData.depth (.bool b)) (PyData.depthAll (bs.map PyData.bool)) ≤ 1
    have e : PyData.depth (.bool b) ≤ 1 := by simp [PyData.depth]
    omega
theorem bls_dW : ∀ (bs : List Bool), dWs (bs.map PyData.bool) ≤ 7 * bs.length
  | [] => by simp [dWs]
  | b :: bs => by
    have := bls_dW bs
    simp only [List.map_cons, dWs, dW, List.length_cons]
    omega
theorem rpl_ints {K : PySem.W.Frag} {H : Hp} : ∀ {ls : List Int} {vs : List V}, RpL K H vs (ls.map Dt.int) → vs = ls.map V.int
  | [], _, .nil => rfl
  | i :: ls, _, .cons (.int _) r => by rw [rpl_ints r]; rfl
def shownB (bs : List Bool) : Str := (PyData.list (bs.map PyData.bool)).shown
theorem bls_rep {K : PySem.W.Frag} {H : Hp} {a : Addr} {bs : List Bool} {Q : VK} (h : H a = some (.lst (bs.map V.bl))) (l : bs.length ≤ 1000) (k : Q (.str (shownB bs)) H) : rNeat K [.ref a] H Q := by
  refine ⟨_, _, rfl, .lst (SqL.of h) (bls_dp bs), .lst (bls_neat bs), ?_, ?_, k⟩
  · have := bls_dep bs
    show PyData.depthAll _ + 1 ≤ 100
    omega
  · have := bls_dW bs
    show dWs _ + 4 ≤ 1000000
    omega
/-- a step that is told -/
def GoV (K : PySem.W.Frag) (H : Hp) (p S : Addr) (ls : List Txt) (i : Nat) (v : V) : Prop := ∃ (t L : Addr) (xs : List V) (ps : List Pr) (way back : Int), v = .ref t ∧ SqT K H t [.int way, .int back, .ref L] ∧ H L = some (.lst xs) ∧ RpL K H xs (ps.map prD) ∧
  L ∉ [p, S] ∧ back < (i : Int) + 1 ∧ 0 ≤ back ∧ ps.length ≤ 2 ∧ ∀ q ∈ ps, PrOk q ∧ q.1 ∈ ls ∧ ∀ e, q.2 = some e → e ∈ ls
theorem GoV.stp {K : PySem.W.Frag} {H H' : Hp} {p S : Addr} {ls ls' : List Txt} {i : Nat} {v : V} {A : List Addr} (s : Stp A H H') (l : Lsts H A) (sub : ∀ x ∈ A, x ∈ [p, S]) (inc : ∀ z ∈ ls, z ∈ ls') (h : GoV K H p S ls i v) : GoV K H' p S ls' i v := by
  obtain ⟨t, L, xs, ps, way, back, e, ht, hL, r, n, b1, b0, l2, ok⟩ := h
  exact ⟨t, L, xs, ps, way, back, e, sqt_stp s l ht, s.kp _ _ (fun m => n (sub _ m)) hL, r.stp s l, n, b1, b0, l2, fun q m => ⟨(ok q m).1, inc _ (ok q m).2.1, fun e he => inc _ ((ok q m).2.2 e he)⟩⟩
/-- a span of before, and its marks -/
def PastV (K : PySem.W.Frag) (H : Hp) (A : Addr) (zs : List Txt) (v : V) : Prop := ∃ (t c m : Addr) (ds : List Pr), v = .ref t ∧ SqT K H t [.ref c, .ref m] ∧ Spn K H c ds ∧ H m = some (.lst ((zs.map (inS ds)).map V.bl)) ∧ m ≠ A ∧ Cst zs (inS ds) ∧ ds.length ≤ 401
theorem PastV.stp {K : PySem.W.Frag} {H H' : Hp} {A : Addr} {zs : List Txt} {v : V} {B : List Addr} (s : Stp B H H') (l : Lsts H B) (sub : ∀ x ∈ B, x = A) (h : PastV K H A zs v) : PastV K H' A zs v := by
  obtain ⟨t, c, m, ds, e, ht, sp, hm, n, cs, lz⟩ := h
  exact ⟨t, c, m, ds, e, sqt_stp s l ht, sp.stp s l, s.kp _ _ (fun q => n (sub _ q)) hm, n, cs, lz⟩
theorem Cst.mark {zs : List Txt} {f g h : Txt → Bool} {way : Int} (a : Cst zs f) (b : Cst zs g) (c : Cst zs h) : Cst zs fun w => markB way (f w) (g w) (h w) := fun j z w h1 h2 h3 => by
  show markB way (f w) (g w) (h w) = markB way (f z) (g z) (h z)
  rw [a j z w h1 h2 h3, b j z w h1 h2 h3, c j z w h1 h2 h3]
theorem zs_at {zs : List Txt} {f : Txt → Bool} {j : Nat} {z : Txt} (h : zs[j]? = some z) : ((zs.map f).map V.bl)[j]? = some (.bl (f z)) := by
  rw [List.getElem?_map, List.getElem?_map, h]
  rfl
theorem call_lenK {X : Cx} {K : PySem.W.Frag} (hK : X.K = K) : CallR X (.builtin "len") fun xs H Q => ∃ p ys, xs = [V.ref p] ∧ (SqL K H p ys ∨ SqT K H p ys) ∧ Q (.int ys.length) H := by
  subst hK
  exact call_len_seq
def spLaw (K : PySem.W.Frag) : Sp := fun vs H Q _ => ∃ (a : Addr) (ns : List Int), vs = [.ref a] ∧ SqL K H a (ns.map V.int) ∧ ns.length ≤ 63 ∧ ∀ H', Q (.bl true) H'
theorem cl_law {f : Addr} {fd : FuncData} (D : Df K mg "law" s_law ["script"] f fd) (T : Nm mg) (c__law_bag : Cl P w K mg base 1 "_law_bag" s__law_bag ["cell"] spBag) (c__law_draw : Cl P w K mg base 1 "_law_draw" s__law_draw ["bag", "upto"] spDraw)
    (c__law_pair : Cl P w K mg base 4 "_law_pair" s__law_pair ["bag", "pool"] (spPair K)) (c__law_in : Cl P w K mg base 1 "_law_in" s__law_in ["pairs", "word"] (spInL K)) (c__law_mark : Cl P w K mg base 1 "_law_mark" s__law_mark ["way", "mine", "yours", "elder"] spMark)
    (c__law_step : Cl P w K mg base 7 "_law_step" s__law_step ["way", "whole", "part", "elder"] (spStep K)) (c_span_of : Cl P w K mg base 4 "span_of" s_span_of ["ranges"] (spSpanOf K)) (c__law_pieces : Cl P w K mg base 1 "_law_pieces" s__law_pieces ["points", "marks"] (spPieces K))
    (c_has : Cl P w K mg base 5 "has" s_has ["span", "text"] (spHas K)) : FnG P w K mg base 8 f fd ["script"] (spLaw K) := by
  refine D.g sc_law (fun vs H Q E h => ?_) (fun cdv A outer s H vs Q E hG hr h => ?_)
  · obtain ⟨a, ns, rfl, _⟩ := h
    rfl
  · obtain ⟨a, ns, rfl, hS, hlen, k⟩ := h
    refine ⟨_, (pss_cons (ps_asg (pe_tup (pa_cons (pe_lst pa_nil) (pa_cons (pe_lst pa_nil) pa_nil))) (pg_tup rfl (pgs_cons (pg_name (i := 1) sc_law.nd rfl (by first | exact Or.inl rfl | exact Or.inr rfl)) (pgs_cons (pg_name (i := 2) sc_law.nd rfl (by first | exact Or.inl rfl | exact Or.inr rfl)) pgs_nil (by rfl)) (by rfl)) (by rfl) (by rfl)))
      (pss_cons (ps_for PassesOwn.never rfl (pi_list (pe_op op_cat (pe_lst (pa_cons (pe_op op_add (pe_op op_pow pe_int pe_int) pe_int) pa_nil)) (pe_slice sl_list (pv 0) po_none (po_some pe_int)))) (pg_name (i := 3) sc_law.nd rfl (by first | exact Or.inl rfl | exact Or.inr rfl)) (pss_cons (ps_set (i := 4) sc_law.nd rfl (by first | exact Or.inl rfl | exact Or.inr rfl) (pe_cl c__law_bag hr (by omega) (pa_cons (pv 3) pa_nil)))
      (pss_cons (ps_asg (pe_tup (pa_cons (pe_cl c__law_draw hr (by omega) (pa_cons (pv 4) (pa_cons pe_int pa_nil))) (pa_cons (pe_cl c__law_draw hr (by omega) (pa_cons (pv 4) (pa_cons (pe_op op_add (pe_callB call_len_seq (by rfl) T.n_len (by decide +kernel) (pa_cons (pv 2) pa_nil)) pe_int) pa_nil))) pa_nil))) (pg_tup rfl (pgs_cons (pg_name (i := 5) sc_law.nd rfl (by first | exact Or.inl rfl | exact Or.inr rfl)) (pgs_cons (pg_name (i := 6) sc_law.nd rfl (by first | exact Or.inl rfl | exact Or.inr rfl)) pgs_nil (by rfl)) (by rfl)) (by rfl) (by rfl)))
      (pss_one (ps_expr (pe_bm PySem.F.plainAttrs_list PySem.F.slot_list_append PySem.F.type_list_append mt_append (pv 2) (pa_cons (pe_tup (pa_cons (pv 5) (pa_cons (pv 6) (pa_cons (pe_lc (own := [("k", 16)]) rfl sc_law.nd (pi_range1 (by rfl) T.n_range (pa_cons (pe_op op_add pe_int (pe_cl c__law_draw hr (by omega) (pa_cons (pv 4) (pa_cons pe_int pa_nil)))) pa_nil)) (blkOk_by (own := [("k", 16)]) (N := N_law) (sc := defScope s_law) (by decide +kernel)) (fun _ _ _ _ _ => (pg_name (i := 16) sc_law.nd rfl (by first | exact Or.inl rfl | exact Or.inr rfl))) (fun _ _ _ _ _ => pts_nil) (fun _ _ _ _ _ => (pe_cl c__law_pair hr (by omega) (pa_cons (pv 4) (pa_cons (pv 1) pa_nil))))) pa_nil)))) pa_nil)))))))
      (pss_cons (ps_set (i := 7) sc_law.nd rfl (by first | exact Or.inl rfl | exact Or.inr rfl) (pe_sortset hr.hd (by rfl) T.n_sorted (by rfl) T.n_set (pe_op op_cat (pe_lst (pa_cons pe_str pa_nil)) (pv 1))))
      (pss_cons (ps_set (i := 8) sc_law.nd rfl (by first | exact Or.inl rfl | exact Or.inr rfl) (pe_lc (own := [("word", 17)]) rfl sc_law.nd (pi_list (pv 7)) (blkOk_by (own := [("word", 17)]) (N := N_law) (sc := defScope s_law) (by decide +kernel)) (fun _ _ _ _ _ => (pg_name (i := 17) sc_law.nd rfl (by first | exact Or.inl rfl | exact Or.inr rfl))) (fun _ _ _ _ _ => pts_nil) (fun _ _ _ _ _ => pe_bl)))
      (pss_cons (ps_asg (pe_tup (pa_cons (pe_tup pa_nil) (pa_cons (pe_lst (pa_cons (pe_tup (pa_cons (pe_tup pa_nil) (pa_cons (pv 8) pa_nil))) pa_nil)) pa_nil))) (pg_tup rfl (pgs_cons (pg_name (i := 9) sc_law.nd rfl (by first | exact Or.inl rfl | exact Or.inr rfl)) (pgs_cons (pg_name (i := 10) sc_law.nd rfl (by first | exact Or.inl rfl | exact Or.inr rfl)) pgs_nil (by rfl)) (by rfl)) (by rfl) (by rfl)))
      (pss_cons (ps_for PassesOwn.never rfl (pi_list (pv 2)) (pg_tup rfl (pgs_cons (pg_name (i := 5) sc_law.nd rfl (by first | exact Or.inl rfl | exact Or.inr rfl)) (pgs_cons (pg_name (i := 6) sc_law.nd rfl (by first | exact Or.inl rfl | exact Or.inr rfl)) (pgs_cons (pg_name (i := 11) sc_law.nd rfl (by first | exact Or.inl rfl | exact Or.inr rfl)) pgs_nil (by rfl)) (by rfl)) (by rfl)) (by rfl) (by rfl)) (pss_cons (ps_asg (pe_ix ix_list (pv 10) (pv 6) (fun _ _ => rfl)) (pg_tup rfl (pgs_cons (pg_name (i := 12) sc_law.nd rfl (by first | exact Or.inl rfl | exact Or.inr rfl)) (pgs_cons (pg_name (i := 13) sc_law.nd rfl (by first | exact Or.inl rfl | exact Or.inr rfl)) pgs_nil (by rfl)) (by rfl)) (by rfl) (by rfl)))
      (pss_cons (ps_set (i := 14) sc_law.nd rfl (by first | exact Or.inl rfl | exact Or.inr rfl) (pe_lc (own := [("word", 17)]) rfl sc_law.nd (pi_list (pv 7)) (blkOk_by (own := [("word", 17)]) (N := N_law) (sc := defScope s_law) (by decide +kernel)) (fun _ _ _ _ _ => (pg_name (i := 17) sc_law.nd rfl (by first | exact Or.inl rfl | exact Or.inr rfl))) (fun _ _ _ _ _ => pts_nil) (fun _ _ _ _ _ => (pe_cl c__law_in hr (by omega) (pa_cons (pv 11) (pa_cons (pv 17) pa_nil))))))
      (pss_cons (ps_set (i := 8) sc_law.nd rfl (by first | exact Or.inl rfl | exact Or.inr rfl) (pe_lc (own := [("k", 16)]) rfl sc_law.nd (pi_range1 (by rfl) T.n_range (pa_cons (pe_callB call_len_seq (by rfl) T.n_len (by decide +kernel) (pa_cons (pv 7) pa_nil)) pa_nil)) (blkOk_by (own := [("k", 16)]) (N := N_law) (sc := defScope s_law) (by decide +kernel)) (fun _ _ _ _ _ => (pg_name (i := 16) sc_law.nd rfl (by first | exact Or.inl rfl | exact Or.inr rfl))) (fun _ _ _ _ _ => pts_nil) (fun _ _ _ _ _ => (pe_cl c__law_mark hr (by omega) (pa_cons (pv 5) (pa_cons (pe_ix (ix_listK rfl) (pv 8) (pv 16) (fun _ _ => rfl)) (pa_cons (pe_ix (ix_listK rfl) (pv 14) (pv 16) (fun _ _ => rfl)) (pa_cons (pe_ix (ix_listK rfl) (pv 13) (pv 16) (fun _ _ => rfl)) pa_nil))))))))
      (pss_cons (ps_set (i := 9) sc_law.nd rfl (by first | exact Or.inl rfl | exact Or.inr rfl) (pe_cl c__law_step hr (by omega) (pa_cons (pv 5) (pa_cons (pv 9) (pa_cons (pe_cl c_span_of hr (by omega) (pa_cons (pe_callTy call_list_of (by rfl) T.n_list (by decide +kernel) (pa_cons (pv 11) pa_nil)) pa_nil)) (pa_cons (pv 12) pa_nil))))))
      (pss_cons (ps_expr (pe_bm PySem.F.plainAttrs_list PySem.F.slot_list_append PySem.F.type_list_append mt_append (pv 10) (pa_cons (pe_tup (pa_cons (pv 9) (pa_cons (pv 8) pa_nil))) pa_nil)))
      (pss_one (ps_if (pt_cmpR op_ne (pe_callB (Pg.call_repr_neat hG hr) (by rfl) T.n_repr (by decide +kernel) (pa_cons (pv 9) pa_nil)) (pe_callB (Pg.call_repr_neat hG hr) (by rfl) T.n_repr (by decide +kernel) (pa_cons (pe_cl c__law_pieces hr (by omega) (pa_cons (pv 7) (pa_cons (pv 8) pa_nil))) pa_nil)) (by first | exact nomark _ | rfl)) (pss_one (ps_ret pe_bl)) pss_nil))))))))
      (pss_cons (ps_setLc (i := 15) (own := [("k", 16)]) rfl sc_law.nd rfl rfl (sw_true rfl rfl rfl (by decide +kernel)) (pi_range1 (by rfl) T.n_range (pa_cons pe_int pa_nil)) (blkOk_by (own := [("k", 16)]) (N := N_law) (sc := defScope s_law) (by decide +kernel)) (fun _ _ _ _ _ => (pg_name (i := 16) sc_law.nd rfl (by first | exact Or.inl rfl | exact Or.inr rfl))) (fun _ _ _ _ _ => pts_nil) (fun _ _ _ _ _ => (pe_op op_fdivW (pe_op op_mulW (pv 16) (pe_callB (call_lenK rfl) (by rfl) T.n_len (by decide +kernel) (pa_cons (pv 7) pa_nil))) pe_int)))
      (pss_one (ps_ret (pe_cmpR op_eq (pe_callB (Pg.call_repr_neat hG hr) (by rfl) T.n_repr (by decide +kernel) (pa_cons (pe_lc (own := [("k", 16)]) rfl sc_law.nd (pi_list (pv 15)) (blkOk_by (own := [("k", 16)]) (N := N_law) (sc := defScope s_law) (by decide +kernel)) (fun _ _ _ _ _ => (pg_name (i := 16) sc_law.nd rfl (by first | exact Or.inl rfl | exact Or.inr rfl))) (fun _ _ _ _ _ => pts_nil) (fun _ _ _ _ _ => (pe_cl c_has hr (by omega) (pa_cons (pv 9) (pa_cons (pe_ix (ix_listK rfl) (pv 7) (pv 16) (fun _ _ => rfl)) pa_nil))))) pa_nil)) (pe_callB (Pg.call_repr_neat hG hr) (by rfl) T.n_repr (by decide +kernel) (pa_cons (pe_lc (own := [("k", 16)]) rfl sc_law.nd (pi_list (pv 15)) (blkOk_by (own := [("k", 16)]) (N := N_law) (sc := defScope s_law) (by decide +kernel)) (fun _ _ _ _ _ => (pg_name (i := 16) sc_law.nd rfl (by first | exact Or.inl rfl | exact Or.inr rfl))) (fun _ _ _ _ _ => pts_nil) (fun _ _ _ _ _ => (pe_ix (ix_listK rfl) (pv 8) (pv 16) (fun _ _ => rfl)))) pa_nil)) (by first | exact nomark _ | rfl))))))))))), ?_⟩
    have len1 : (1 : Nat) ≤ sizeLine := by decide
    have len2 : (2 : Nat) ≤ sizeLine := by decide
    have len3 : (3 : Nat) ≤ sizeLine := by decide
    have nn : ∀ {x : Addr}, x ∉ ([] : List Addr) := fun m => nomatch m
    refine ⟨Nat.zero_le _, fun p np => ⟨Nat.zero_le _, fun S nS => ⟨len2, fun t0 nt0 => ⟨t0, _, rfl, SqT.of upd_same, rfl, _, _, rfl, _, _, rfl, rfl, ?_⟩⟩⟩⟩
    have pS : p ≠ S := ne_of_none upd_same nS
    have Sa : Stp [] (upd (upd H p (.lst [])) S (.lst [])) (upd (upd (upd H p (.lst [])) S (.lst [])) t0 (.tup [.ref p, .ref S])) := Stp.new nt0 _
    have S0 : Stp [] H (upd (upd (upd H p (.lst [])) S (.lst [])) t0 (.tup [.ref p, .ref S])) := ((Stp.new np _).trans (Stp.new nS _)).trans Sa
    have hp0 := Sa.kp p (.lst []) nn (by rw [upd_ne pS]; exact upd_same)
    have hS0' := Sa.kp S (.lst []) nn upd_same
    have hS0 := sql_up S0 hS
    clear S0 Sa
    generalize upd (upd (upd H p (.lst [])) S (.lst [])) t0 (.tup [.ref p, .ref S]) = H0 at *
    refine ⟨_, _, rfl, rfl, ⟨by decide, by decide, by decide⟩, _, _, rfl, rfl, len1, fun p1 np1 => ?_⟩
    refine ⟨_, rfl, 40, rfl, a, _, rfl, sql_up (Stp.new np1 _) hS0, fun p2 np2 => ?_⟩
    have n12 : p1 ≠ p2 := ne_of_none upd_same np2
    have hcut : cutV (ns.map V.int) none (some 40) = (ns.take 40).map V.int := by
      rw [show cutV (ns.map V.int) none (some 40) = _ from cut_upto 40, List.map_take]
    refine ⟨p1, p2, _, _, rfl, rfl, Eq.trans (upd_ne n12) upd_same, upd_same, ?_, fun p3 np3 => ?_⟩
    · rw [hcut, List.length_map, List.length_take]
      exact sz (by simp; omega)
    obtain ⟨cs, lcs, ecs⟩ : ∃ cs : List Int, cs.length ≤ 41 ∧ [V.int (10 ^ (18 : Int).toNat + 8)] ++ cutV (ns.map V.int) none (some 40) = cs.map V.int := ⟨(10 ^ (18 : Int).toNat + 8) :: ns.take 40, by simp; omega, by rw [hcut]; rfl⟩
    rw [ecs]
    have Sb : Stp [] H0 (upd (upd (upd H0 p1 (.lst [.int (10 ^ (18 : Int).toNat + 8)])) p2 (.lst (cutV (ns.map V.int) none (some 40)))) p3 (.lst (cs.map V.int))) := ((Stp.new np1 _).trans (Stp.new np2 _)).trans (Stp.new np3 _)
    have hp1 := Sb.kp _ _ nn hp0
    have hS1 := Sb.kp _ _ nn hS0'
    have h31 : (upd (upd (upd H0 p1 (.lst [.int (10 ^ (18 : Int).toNat + 8)])) p2 (.lst (cutV (ns.map V.int) none (some 40)))) p3 (.lst (cs.map V.int))) p3 = some (.lst (cs.map V.int)) := upd_same
    have p3p : p3 ≠ p := (Stp.fresh ((Stp.new np1 []).trans (Stp.new np2 _)) nn np3 |> fun q => (ne_of_none hp0 q).symm)
    have p3S : p3 ≠ S := (Stp.fresh ((Stp.new np1 []).trans (Stp.new np2 _)) nn np3 |> fun q => (ne_of_none hS0' q).symm)
    clear Sb np1 np2 np3 n12 nt0 nS
    generalize upd (upd (upd H0 p1 (.lst [.int (10 ^ (18 : Int).toNat + 8)])) p2 (.lst (cutV (ns.map V.int) none (some 40)))) p3 (.lst (cs.map V.int)) = H1 at *
    refine ⟨p3, rfl, ⟨_, SqL.of h31⟩, for_list (K := K) (a := p3) (xs := cs.map V.int) (fun i σ H1 => ∃ (x3 x4 x5 x6 : Option V) (vs : List V) (ls : List Txt), σ = [some (.ref a), some (.ref p), some (.ref S), x3, x4, x5, x6, none, none, none, none, none, none, none, none, none, none, none] ∧ H1 p3 = some (.lst (cs.map V.int)) ∧
      H1 S = some (.lst vs) ∧ vs.length = i ∧ Pool H1 p ls ∧ ls.length ≤ 4 * i ∧ ∀ j v, vs[j]? = some v → GoV K H1 p S ls j v)
      ⟨_, _, _, _, [], [], rfl, h31, hS1, rfl, ⟨hp1, fun l m => nomatch m⟩, Nat.zero_le _, fun j v e => nomatch e⟩ (fun i σ H1 _ ⟨_, _, _, _, _, _, _, h, _⟩ => SqL.of h) ?_ ?_⟩
    · rintro i y σ H1 hi ⟨x3, x4, x5, x6, vs, ls, rfl, h3, hS1, lv, P1, l1, go⟩
      have i41 : i < 41 := by have := (List.getElem?_eq_some_iff.mp hi).1; rw [List.length_map] at this; omega
      obtain ⟨c0, rfl⟩ : ∃ c, y = V.int c := by
        rw [List.getElem?_map] at hi
        cases e : cs[i]? with
        | none => rw [e] at hi; cases hi
        | some u => rw [e] at hi; exact ⟨u, (Option.some.inj hi).symm⟩
      refine ⟨_, rfl, c0, rfl, fun b H2 nb S2 B2 => ?_⟩
      have bm : b ∈ [b] := List.mem_singleton.mpr rfl
      have pb : p ≠ b := ne_of_none P1.1 nb
      have Sb : S ≠ b := ne_of_none hS1 nb
      have p3b : p3 ≠ b := ne_of_none h3 nb
      refine ⟨_, rfl, b, 8, 0, rfl, B2, by decide, by decide, by decide, fun way H3 w0 w1 o3 B3 => ?_⟩
      have hS3 : H3 S = some (.lst vs) := (o3.stp bm).kp _ _ (fun m => Sb (List.mem_singleton.mp m)) (S2.kp _ _ nn hS1)
      refine ⟨_, rfl, _, rfl, S, vs, rfl, .inl (SqL.of hS3), _, _, rfl, rfl, b, _, 1, rfl, B3, by decide, by omega, by omega, fun back H4 b0 b1 o4 B4 => ?_⟩
      refine ⟨len2, fun t nt => ⟨t, _, rfl, SqT.of upd_same, rfl, _, _, rfl, _, _, rfl, rfl, ?_⟩⟩
      have S4 : Stp [b] H1 (upd H4 t (.tup [.int way, .int back])) := ((S2.nil.trans (o3.stp bm)).trans (o4.stp bm)).new' nt
      have B5 := B4.upd (o := .tup [.int way, .int back]) (B4.ne nt)
      generalize upd H4 t (.tup [.int way, .int back]) = H5 at *
      have hS5 : H5 S = some (.lst vs) := S4.kp _ _ (fun m => Sb (List.mem_singleton.mp m)) hS1
      refine ⟨_, rfl, .inl ⟨rfl, _, SqL.of hS5⟩, _, rfl, _, rfl, ?_⟩
      refine ⟨_, rfl, b, 2, 2, rfl, B5, by decide, by decide, by decide, fun z H6 z0 z1 o6 B6 => ?_⟩
      have S6 := S4.trans (o6.stp bm)
      refine ⟨_, _, rfl, rfl, ?_⟩
      refine ⟨1 + z, rfl, by omega, by omega, fun L nL => ?_⟩
      have P6 : Pool H6 p ls := ⟨S6.kp _ _ (fun m => pb (List.mem_singleton.mp m)) P1.1, P1.2⟩
      have hS6 : H6 S = some (.lst vs) := S6.kp _ _ (fun m => Sb (List.mem_singleton.mp m)) hS1
      have Lb : L ≠ b := (B6.ne nL).symm
      have Lp : L ≠ p := (ne_of_none P6.1 nL).symm
      have LS : L ≠ S := (ne_of_none hS6 nL).symm
      have nLm : L ∉ [b, p] := fun m => by
        simp at m
        rcases m with m | m
        · exact Lb m
        · exact Lp m
      have nSm : S ∉ [b, p] := fun m => by
        simp at m
        rcases m with m | m
        · exact Sb m
        · exact pS m.symm
      refine lc_range (lo := 0) (n := (1 + z).toNat) (fun i H4 => ∃ (ps : List Pr) (vs : List V) (ls' ls2 : List Txt), ps.length = i ∧ H4 L = some (.lst vs) ∧ RpL K H4 vs (ps.map prD) ∧ (∀ q ∈ ps, PrOk q ∧ q.1 ∈ ls' ∧ ∀ e, q.2 = some e → e ∈ ls') ∧ Stp [b, p] H6 H4 ∧ Bag H4 b (3 + 60 * i) ∧ Pool H4 p ls' ∧ ls' = ls ++ ls2 ∧ ls2.length ≤ 2 * i)
        ⟨[], [], ls, [], rfl, upd_same, .nil, fun q m => (nomatch m), Stp.new nL _, B6.upd Lb.symm, ⟨by rw [upd_ne Lp.symm]; exact P6.1, P6.2⟩, by simp, by simp⟩ ?_ ?_
      · rintro j H7 hj ⟨ps, ws, ls', ls2, hl, hL, rl, ok, S7, B7, P7, e7, l7⟩
        have j2 : j < 2 := by omega
        refine ⟨rfl, _, rfl, _, rfl, b, p, _, ls', rfl, B7, by omega, P7, by rw [e7, List.length_append]; omega, pb.symm, fun t pr ls3 H8 rt pk S8 B8 P8 l8 e8 => ?_⟩
        have hL8 : H8 L = some (.lst ws) := S8.kp _ _ nLm hL
        have L7 : Lsts H7 [b, p] := by
          obtain ⟨x, y, z, hb, _⟩ := B7
          exact .cons hb (.one P7.1)
        have s9 : Stp [L] H8 (upd H8 L (.lst (ws ++ [.ref t]))) := Stp.put (by simp)
        refine ⟨ws, hL8, ?_, ps ++ [pr], ws ++ [.ref t], ls3, ls2 ++ (pr.1 :: pr.2.toList), by simp [hl], upd_same, prs_one ((rl.stp S8 L7).stp s9 (.one hL8)) (rt.stp s9 (.one hL8)), fun q m => ?_, (S7.trans S8).mut nL, (B8.upd Lb.symm).mono (by omega), ⟨by rw [upd_ne Lp.symm]; exact P8.1, P8.2⟩, by rw [e8, e7, List.append_assoc], ?_⟩
        · rw [rl.len, List.length_map, hl]
          exact Nat.lt_of_le_of_lt (show j ≤ 1000 by omega) (by decide)
        · rw [e8]
          rcases List.mem_append.mp m with m | m
          · exact ⟨(ok q m).1, List.mem_append_left _ (ok q m).2.1, fun e he => List.mem_append_left _ ((ok q m).2.2 e he)⟩
          · rw [List.mem_singleton.mp m]
            refine ⟨pk, List.mem_append_right _ List.mem_cons_self, fun e he => List.mem_append_right _ (List.mem_cons_of_mem _ ?_)⟩
            rw [he]
            simp
        · rw [List.length_append, List.length_cons]
          have : pr.2.toList.length ≤ 1 := by cases pr.2 <;> simp
          omega
      · rintro H7 ⟨ps, ws, ls', ls2, hl, hL, rl, ok, S7, B7, P7, e7, l7⟩
        refine ⟨len3, fun t2 nt2 => ?_⟩
        have hS7 : H7 S = some (.lst vs) := S7.kp _ _ nSm hS6
        have St2 : S ≠ t2 := ne_of_none hS7 nt2
        have Lt2 : L ≠ t2 := ne_of_none hL nt2
        have pt2 : p ≠ t2 := ne_of_none P7.1 nt2
        have S8 : Stp [] H7 (upd H7 t2 (.tup [.int way, .int back, .ref L])) := Stp.new nt2 _
        have hS8 := S8.kp _ _ nn hS7
        have hL8 := S8.kp _ _ nn hL
        have P8 := S8.kp _ _ nn P7.1
        have ht8 : SqT K (upd H7 t2 (.tup [.int way, .int back, .ref L])) t2 [.int way, .int back, .ref L] := SqT.of upd_same
        have rl8 := rl.stp S8 Lsts.nil
        refine ⟨S, _, _, rfl, rfl, hS8, Nat.lt_of_le_of_lt (show vs.length ≤ 1000 by omega) (by decide), ?_⟩
        have sub1 : ∀ x ∈ ([b] : List Addr), x ∈ [b, p] := fun x m => by rw [List.mem_singleton.mp m]; simp
        have S18 : Stp [p] H1 (upd H7 t2 (.tup [.int way, .int back, .ref L])) := Stp.loc nb (((S6.sub sub1).trans S7).trans S8.nil)
        have S9 : Stp [S] (upd H7 t2 (.tup [.int way, .int back, .ref L])) (upd (upd H7 t2 (.tup [.int way, .int back, .ref L])) S (.lst (vs ++ [.ref t2]))) := Stp.put (List.mem_singleton.mpr rfl)
        generalize upd H7 t2 (.tup [.int way, .int back, .ref L]) = H8 at *
        have LS8 : Lsts H8 [S] := .one hS8
        have pnS : p ∉ [S] := fun m => pS (List.mem_singleton.mp m)
        have LnS : L ∉ [S] := fun m => LS (List.mem_singleton.mp m)
        refine ⟨_, _, _, _, vs ++ [.ref t2], ls', rfl, S9.kp _ _ (fun m => p3S (List.mem_singleton.mp m)) (S18.kp _ _ (fun m => p3p (List.mem_singleton.mp m)) h3), upd_same, by simp [lv], ⟨S9.kp _ _ pnS P8, P7.2⟩, by rw [e7, List.length_append]; omega, fun j v e => ?_⟩
        rw [List.getElem?_append] at e
        split at e
        · exact GoV.stp S9 LS8 (fun x m => by rw [List.mem_singleton.mp m]; simp) (fun z m => m) (GoV.stp S18 (.one P1.1) (fun x m => by rw [List.mem_singleton.mp m]; simp) (fun z m => by rw [e7]; exact List.mem_append_left _ m) (go j v e))
        · rename_i hj
          have ej : j = vs.length := by
            have := (List.getElem?_eq_some_iff.mp e).1
            simp at this
            omega
          subst ej
          simp at e
          subst e
          exact ⟨t2, L, ws, ps, way, back, rfl, sqt_stp S9 LS8 ht8, S9.kp _ _ LnS hL8, rl8.stp S9 LS8, fun m => by
            simp at m
            rcases m with m | m
            · exact Lp m
            · exact LS m, by omega, b0, by omega, ok⟩
    · rintro σ H1 ⟨x3, x4, x5, x6, vs, ls, rfl, h3, hS1, lv, P1, l1, go⟩
      rw [List.length_map] at lv l1
      have pl : ls.length ≤ 164 := by omega
      -- the points
      refine ⟨len1, fun q1 nq1 => ?_⟩
      have Sq1 : Stp [] H1 (upd H1 q1 (.lst [.str ""])) := Stp.new nq1 _
      refine ⟨_, rfl, q1, p, _, _, rfl, rfl, upd_same, Sq1.kp _ _ nn P1.1, ?_, fun q2 nq2 => ?_⟩
      · rw [List.length_map]
        exact Nat.le_trans (show [V.str ""].length + ls.length ≤ 1000 by simp; omega) (by decide)
      have el : [V.str ""] ++ ls.map Tx = (([] : Txt) :: ls).map Tx := by
        rw [List.map_cons, nil_lit]
        rfl
      rw [el]
      refine ⟨q2, _, rfl, SqL.of upd_same, by rw [List.length_cons]; omega, fun zs pt pw mem len npt => ?_⟩
      rw [List.length_cons] at len
      have m0 : ([] : Txt) ∈ zs := (mem []).mpr List.mem_cons_self
      have mls : ∀ z ∈ ls, z ∈ zs := fun z m => (mem z).mpr (List.mem_cons_of_mem _ m)
      have sh : ∀ z ∈ zs, Short z := fun z m => by
        rcases List.mem_cons.mp ((mem z).mp m) with rfl | m
        · exact short_nil
        · exact P1.2 z m
      have lz : zs.length ≤ 165 := by omega
      have S2 : Stp [] H1 (upd (upd (upd H1 q1 (.lst [.str ""])) q2 (.lst ((([] : Txt) :: ls).map Tx))) pt (.lst (zs.map Tx))) := (Sq1.new' nq2).new' npt
      have hpt : (upd (upd (upd H1 q1 (.lst [.str ""])) q2 (.lst ((([] : Txt) :: ls).map Tx))) pt (.lst (zs.map Tx))) pt = some (.lst (zs.map Tx)) := upd_same
      clear Sq1 nq1 nq2 npt
      generalize upd (upd (upd H1 q1 (.lst [.str ""])) q2 (.lst ((([] : Txt) :: ls).map Tx))) pt (.lst (zs.map Tx)) = H2 at *
      -- the marks
      refine ⟨_, rfl, pt, rfl, ⟨_, SqL.of hpt⟩, fun mk nmk => ?_⟩
      refine lc_mapL (K := K) (ds := (zs.map (inS [])).map Dt.bl) nmk (SqL.of hpt) (by simp) (by rw [List.length_map]; omega) (fun j x d H3 hx hd S3 Q2 q => ?_) fun ws H3 S3 h3 r3 => ?_
      · refine ⟨rfl, q _ _ (Stp.refl _ _) ?_⟩
        rw [List.getElem?_map, List.getElem?_map] at hd
        cases e : zs[j]? with
        | none => rw [e] at hd; cases hd
        | some z => rw [e] at hd; cases hd; exact .bl false
      obtain rfl := rpl_bls r3
      refine ⟨Nat.zero_le _, fun w0 nw0 => ?_⟩
      refine ⟨Nat.zero_le _, fun u0 nu0 => ?_⟩
      refine ⟨_, rfl, len2, fun u1 nu1 => ⟨len1, fun A nA => ⟨len2, fun t nt => ⟨t, _, rfl, SqT.of upd_same, rfl, _, _, rfl, _, _, rfl, rfl, ?_⟩⟩⟩⟩
      have Sw := Stp.new (o := .tup []) nw0 []
      have Su := Stp.new (o := .tup []) nu0 []
      have S1 := Stp.new (o := .tup [.ref u0, .ref mk]) nu1 []
      have SD : Stp [] H1 (upd (upd (upd H3 w0 (.tup [])) u0 (.tup [])) u1 (.tup [.ref u0, .ref mk])) := (((S2.trans S3).trans Sw).trans Su).trans S1
      have spw := (Spn.new (K := K) (ps := []) nw0 .nil .nil (by simp)).up Su |>.up S1
      have spu := (Spn.new (K := K) (ps := []) nu0 .nil .nil (by simp)).up S1
      have hu1 : SqT K (upd (upd (upd H3 w0 (.tup [])) u0 (.tup [])) u1 (.tup [.ref u0, .ref mk])) u1 [.ref u0, .ref mk] := SqT.of upd_same
      have hmk := ((Sw.trans Su).trans S1).kp _ _ nn h3
      have hptD := (((S3.trans Sw).trans Su).trans S1).kp _ _ nn hpt
      have hSD := SD.kp _ _ nn hS1
      have goD : ∀ j v, vs[j]? = some v → GoV K (upd (upd (upd H3 w0 (.tup [])) u0 (.tup [])) u1 (.tup [.ref u0, .ref mk])) p S ls j v := fun j v e => (go j v e).stp SD Lsts.nil (fun x m => nomatch m) (fun z m => m)
      have cs0 : Cst zs (inS []) := fun j z w _ _ _ => rfl
      clear S1 Su Sw nu1 nu0 nw0 SD
      generalize upd (upd (upd H3 w0 (.tup [])) u0 (.tup [])) u1 (.tup [.ref u0, .ref mk]) = HD at *
      have mkA : mk ≠ A := ne_of_none hmk nA
      have SE : Stp [] HD (upd (upd HD A (.lst [.ref u1])) t (.tup [.ref w0, .ref A])) := (Stp.new nA _).trans (Stp.new nt _)
      have hA : (upd (upd HD A (.lst [.ref u1])) t (.tup [.ref w0, .ref A])) A = some (.lst [.ref u1]) := by
        rw [upd_ne (ne_of_none upd_same nt)]
        exact upd_same
      have loc : ∀ {H'}, Stp [A] (upd (upd HD A (.lst [.ref u1])) t (.tup [.ref w0, .ref A])) H' → Stp [] HD H' := fun s => Stp.loc nA ((((Stp.new nA [A]).trans (Stp.new nt _))).trans s)
      generalize upd (upd HD A (.lst [.ref u1])) t (.tup [.ref w0, .ref A]) = HE at *
      refine ⟨_, rfl, S, rfl, ⟨_, SqL.of (SE.kp _ _ nn hSD)⟩, for_list (K := K) (a := S) (xs := vs) (fun i σ H' => ∃ (x3 x4 x5 x6 x11 x12 x13 x14 : Option V) (wh mk : Addr) (ds : List Pr) (qs : List V), σ = [some (.ref a), some (.ref p), some (.ref S), x3, x4, x5, x6, some (.ref pt), some (.ref mk), some (.ref wh), some (.ref A), x11, x12, x13, x14, none, none, none] ∧
        Stp [A] HE H' ∧ H' A = some (.lst qs) ∧ qs.length = i + 1 ∧ (∀ v ∈ qs, PastV K H' A zs v) ∧ Spn K H' wh ds ∧ H' mk = some (.lst ((zs.map (inS ds)).map V.bl)) ∧ mk ≠ A ∧ Cst zs (inS ds) ∧ ds.length ≤ 401)
        ⟨_, _, _, _, _, _, _, _, w0, mk, [], _, rfl, Stp.refl _ _, hA, rfl, fun v m => ?_, spw.up SE, SE.kp _ _ nn hmk, mkA, cs0, by simp⟩ (fun i σ H' _ ⟨_, _, _, _, _, _, _, _, _, _, _, _, _, s, _⟩ => SqL.of ((loc s).kp _ _ nn hSD)) ?_ ?_⟩
      · rw [List.mem_singleton.mp m]
        exact ⟨u1, u0, mk, [], rfl, sqt_stp SE Lsts.nil hu1, spu.up SE, SE.kp _ _ nn hmk, mkA, cs0, by simp⟩
      · rintro i y σ H4 hi ⟨y3, y4, y5, y6, y11, y12, y13, y14, wh, mk2, ds, qs, rfl, SS, hA4, lq, past, spD, hmk4, mkA4, cst, ld⟩
        obtain ⟨t2, L, xs, ps, way, back, rfl, ht2, hL, rl, nL, bk1, bk0, l2, ok⟩ := (goD i y hi).stp (loc SS) Lsts.nil (fun x m => nomatch m) (fun z m => m)
        refine ⟨t2, _, rfl, ht2, rfl, _, _, rfl, _, _, rfl, _, _, rfl, rfl, ?_⟩
        obtain ⟨n, rfl⟩ := Int.eq_ofNat_of_zero_le bk0
        have nq : n < qs.length := by omega
        obtain ⟨t5, c, m5, es, e5, ht5, spE, hm5, m5A, cstE, le⟩ := past _ (List.getElem_mem nq)
        refine ⟨_, rfl, _, rfl, A, qs, n, qs[n], rfl, rfl, SqL.of hA4, atI_nat (j := n) (List.getElem?_eq_getElem nq), ?_⟩
        refine ⟨t5, _, e5, ht5, rfl, _, _, rfl, _, _, rfl, rfl, ?_⟩
        have hpt4 := (loc SS).kp _ _ nn hptD
        have lx : xs.length ≤ 2 := by rw [rl.len, List.length_map]; exact l2
        -- inside
        refine ⟨_, rfl, pt, rfl, ⟨_, SqL.of hpt4⟩, fun I nI => ?_⟩
        refine lc_mapL (K := K) (ds := (zs.map (inS ps)).map Dt.bl) nI (SqL.of hpt4) (by simp) (by rw [List.length_map]; omega) (fun j x d H5 hx hd S5 Q2 q => ?_) fun ws H5 S5 h5 r5 => ?_
        · rw [List.getElem?_map] at hx
          rw [List.getElem?_map, List.getElem?_map] at hd
          cases e : zs[j]? with
          | none => rw [e] at hx; cases hx
          | some z =>
            rw [e] at hx hd
            cases hx
            cases hd
            exact ⟨rfl, _, rfl, _, rfl, L, xs, ps, z, rfl, S5.kp _ _ nn hL, rl.stp S5 Lsts.nil, fun q m => (ok q m).1.s, by omega, fun H6 S6 => q _ _ S6 (.bl _)⟩
        obtain rfl := rpl_bls r5
        have hpt5 := S5.kp _ _ nn hpt4
        -- the marks
        refine ⟨_, rfl, pt, _, rfl, .inl (SqL.of hpt5), _, rfl, by omega, ?_, fun M nM => ?_⟩
        · rw [List.length_map]
          omega
        refine lc_mapR (K := K) (n := _) (ds := (zs.map fun z => markB way (inS ds z) (inS ps z) (inS es z)).map Dt.bl) nM (by simp) (by simp; omega) (fun j d H6 hd S6 Q2 q => ?_) fun ws H6 S6 h6 r6 => ?_
        · rw [List.getElem?_map, List.getElem?_map] at hd
          cases e : zs[j]? with
          | none => rw [e] at hd; cases hd
          | some z =>
            rw [e] at hd
            cases hd
            have at' : ∀ {f : Txt → Bool}, atI ((zs.map f).map V.bl) ((0 : Int) + (j : Int)) = some (.bl (f z)) := by
              intro f
              rw [Int.zero_add]
              exact atI_nat (zs_at e)
            have S46 := S5.trans S6
            refine ⟨rfl, _, rfl, _, rfl, _, rfl, mk2, _, _, _, rfl, rfl, SqL.of (S46.kp _ _ nn hmk4), at', ?_⟩
            refine ⟨_, rfl, _, rfl, I, _, _, _, rfl, rfl, SqL.of (S6.kp _ _ nn h5), at', ?_⟩
            refine ⟨_, rfl, _, rfl, m5, _, _, _, rfl, rfl, SqL.of (S46.kp _ _ nn hm5), at', ?_⟩
            exact ⟨way, _, _, _, rfl, q _ _ (Stp.refl _ _) (.bl _)⟩
        obtain rfl := rpl_bls r6
        have S46 := S5.trans S6
        -- the step
        refine ⟨_, rfl, _, rfl, _, rfl, L, xs, rfl, .inl (SqL.of (S46.kp _ _ nn hL)), fun L2 nL2 => ?_⟩
        have S7 : Stp [] H4 (upd H6 L2 (.lst xs)) := S46.new' nL2
        have hL2 : (upd H6 L2 (.lst xs)) L2 = some (.lst xs) := upd_same
        have h7 := (Stp.new (o := .lst xs) nL2 []).kp _ _ nn h6
        generalize upd H6 L2 (.lst xs) = H7 at *
        refine ⟨L2, xs, ps, rfl, hL2, rl.stp S7 Lsts.nil, fun q m => (ok q m).1, by omega, fun r2 us H8 S8 sp8 eq8 => ?_⟩
        have lu := norm_len sp8.ok eq8
        have S48 := S7.trans S8
        refine ⟨_, rfl, way, wh, r2, c, ds, us, es, rfl, spD.up S48, sp8, spE.up S48, by omega, by omega, by omega, fun r ds' H9 S9 sp9 eq9 => ?_⟩
        have S49 := S48.trans S9
        have cps : Cst zs (inS ps) := fun j z w h1 h2 h3 => in_cell pw (fun x h => by
          rcases h with ⟨q, m, e⟩ | ⟨q, m, e⟩
          · rw [← e]
            exact mls _ (ok q m).2.1
          · exact mls _ ((ok q m).2.2 x e)) h1 h2 h3
        have eq' : inS ds' = fun w => markB way (inS ds w) (inS ps w) (inS es w) := funext fun w => by rw [eq9, eq8]
        have cst' : Cst zs (inS ds') := by
          rw [eq']
          exact cst.mark cps cstE
        have h9 : H9 M = some (.lst ((zs.map (inS ds')).map V.bl)) := by
          rw [eq']
          exact (S8.trans S9).kp _ _ nn h7
        have MA : A ≠ M := ne_of_none (S5.kp _ _ nn hA4) nM
        have hA9 := S49.kp _ _ nn hA4
        refine ⟨_, rfl, .inl ⟨rfl, _, SqL.of hA9⟩, _, rfl, _, rfl, len2, fun t6 nt6 => ?_⟩
        have S10 : Stp [] H9 (upd H9 t6 (.tup [.ref r, .ref M])) := Stp.new nt6 _
        have ht6 : SqT K (upd H9 t6 (.tup [.ref r, .ref M])) t6 [.ref r, .ref M] := SqT.of upd_same
        have hA10 := S10.kp _ _ nn hA9
        have h10 := S10.kp _ _ nn h9
        have sp10 := sp9.up S10
        have S410 := S49.trans S10
        generalize upd H9 t6 (.tup [.ref r, .ref M]) = H10 at *
        have i41 : i < 41 := by have := (List.getElem?_eq_some_iff.mp hi).1; omega
        refine ⟨A, _, _, rfl, rfl, hA10, Nat.lt_of_le_of_lt (show qs.length ≤ 1000 by omega) (by decide), ?_⟩
        have S11 : Stp [A] H10 (upd H10 A (.lst (qs ++ [.ref t6]))) := Stp.put (List.mem_singleton.mpr rfl)
        have hA11 : (upd H10 A (.lst (qs ++ [.ref t6]))) A = some (.lst (qs ++ [.ref t6])) := upd_same
        generalize upd H10 A (.lst (qs ++ [.ref t6])) = H11 at *
        have lA : Lsts H10 [A] := .one hA10
        have nMA : M ∉ [A] := fun m => MA (List.mem_singleton.mp m).symm
        have npA : pt ∉ [A] := fun m => ne_of_none hptD nA (List.mem_singleton.mp m)
        have S411 : Stp [A] H4 H11 := S410.nil.trans S11
        have sp11 := sp10.stp S11 lA
        have h11 := S11.kp _ _ nMA h10
        refine ⟨_, rfl, tn (spn_rep sp11 ⟨_, rfl, _, rfl, pt, M, zs, _, rfl, S411.kp _ _ npA hpt4, h11, by simp, pw, sh, by omega, fun c3 gs H12 S12 sp12 l12 me => ?_⟩)⟩
        obtain rfl : gs = ds' := span_uniq _ _ sp12.ok sp11.ok (cell_mem pw m0 cst' me)
        refine tn (spn_rep sp12 ⟨rfl, _, rfl, ite2 (fun h => absurd h (by simp)) (fun _ => ?_)⟩)
        refine ⟨_, _, _, _, _, _, _, _, r, M, gs, _, rfl, (SS.trans S411).trans S12.nil, S12.kp _ _ nn hA11, by simp [lq], fun v m => ?_, sp11.up S12, S12.kp _ _ nn h11, MA.symm, cst', l12⟩
        refine PastV.stp S12 Lsts.nil (fun x m => nomatch m) ?_
        rcases List.mem_append.mp m with m | m
        · exact PastV.stp S11 lA (fun x m => List.mem_singleton.mp m) (PastV.stp S410 Lsts.nil (fun x m => nomatch m) (past v m))
        · rw [List.mem_singleton.mp m]
          exact ⟨t6, r, M, gs, rfl, sqt_stp S11 lA ht6, sp11, h11, MA.symm, cst', l12⟩
      · rintro σ H4 ⟨y3, y4, y5, y6, y11, y12, y13, y14, wh, mk2, ds, qs, rfl, SS, hA4, lq, past, spD, hmk4, mkA4, cst, ld⟩
        have hpt4 := (loc SS).kp _ _ nn hptD
        have z0 : 0 < zs.length := List.length_pos_of_mem m0
        obtain ⟨ks, eks⟩ : ∃ ks : List Int, ks = (List.range 20).map fun k : Nat => ((0 : Int) + (k : Int)) * ((zs.map Tx).length : Int) / 20 := ⟨_, rfl⟩
        have lks : ks.length = 20 := by rw [eks]; simp
        refine ⟨20, rfl, by decide, by decide, fun B nB => ?_⟩
        refine lc_mapR (K := K) (n := 20) (ds := ks.map Dt.int) nB (by rw [List.length_map, lks]) (by decide) (fun j d H5 hd S5 Q2 q => ?_) fun ws H5 S5 h5 r5 => ?_
        · rw [eks, List.getElem?_map, List.getElem?_map] at hd
          have j20 : j < 20 := by
            by_cases c : j < 20
            · exact c
            · rw [List.getElem?_eq_none (by rw [List.length_range]; omega)] at hd
              cases hd
          rw [List.getElem?_range j20] at hd
          cases hd
          have b1 : (zs.map Tx).length < 2 ^ 10 := by rw [List.length_map]; omega
          exact ⟨rfl, _, rfl, _, rfl, pt, _, rfl, .inl (SqL.of (S5.kp _ _ nn hpt4)), _, _, rfl, rfl, cmul 5 10 (by omega) (by omega) (by omega) (by omega) (by decide) (by decide) (by decide), _, _, rfl, rfl, cdiv 5 (by decide) (by decide) (by decide) (by decide), q _ _ (Stp.refl _ _) (.int _)⟩
        obtain rfl := rpl_ints r5
        have kz : ∀ k ∈ ks, ∃ (n : Nat) (z : Txt), k = (n : Int) ∧ zs[n]? = some z := fun k m => by
          rw [eks] at m
          obtain ⟨j, mj, e⟩ := List.mem_map.mp m
          have j20 := List.mem_range.mp mj
          rw [List.length_map] at e
          have b0 : 0 ≤ k := by
            rw [← e]
            exact Int.ediv_nonneg (Int.mul_nonneg (by omega) (by omega)) (by decide)
          have b1 : k < (zs.length : Int) := by
            rw [← e]
            refine Int.ediv_lt_of_lt_mul (by decide) ?_
            have := Int.mul_le_mul_of_nonneg_right (show (0 : Int) + (j : Int) ≤ 19 by omega) (show (0 : Int) ≤ (zs.length : Int) by omega)
            omega
          obtain ⟨n, rfl⟩ := Int.eq_ofNat_of_zero_le b0
          exact ⟨n, zs[n]'(by omega), rfl, List.getElem?_eq_getElem _⟩
        -- has
        obtain ⟨bs, ebs⟩ : ∃ bs : List Bool, bs = ks.map fun k => inS ds ((zs[k.toNat]?).getD []) := ⟨_, rfl⟩
        have lbs : bs.length = 20 := by rw [ebs, List.length_map, lks]
        have get : ∀ {j : Nat} {x : V} {d : Dt}, (ks.map V.int)[j]? = some x → (bs.map Dt.bl)[j]? = some d → ∃ (n : Nat) (z : Txt), x = .int (n : Int) ∧ zs[n]? = some z ∧ d = Dt.bl (inS ds z) := fun {j x d} hx hd => by
          rw [List.getElem?_map] at hx
          rw [ebs, List.getElem?_map, List.getElem?_map] at hd
          cases e : ks[j]? with
          | none => rw [e] at hx; cases hx
          | some k =>
            rw [e] at hx hd
            obtain ⟨n, z, e1, e2⟩ := kz k (List.mem_of_getElem? e)
            subst e1
            refine ⟨n, z, (Option.some.inj hx).symm, e2, ?_⟩
            have := Option.some.inj hd
            rw [← this]
            show Dt.bl (inS ds ((zs[n]?).getD [])) = _
            rw [e2]
            rfl
        refine ⟨_, rfl, B, rfl, ⟨_, SqL.of h5⟩, fun L nL => ?_⟩
        refine lc_mapL (K := K) (ds := bs.map Dt.bl) nL (SqL.of h5) (by rw [List.length_map, List.length_map, lbs, lks]) (by rw [List.length_map, lks]; decide) (fun j x d H6 hx hd S6 Q2 q => ?_) fun ws H6 S6 h6 r6 => ?_
        · obtain ⟨n, z, rfl, hz, rfl⟩ := get hx hd
          have S46 := S5.trans S6
          exact ⟨rfl, _, rfl, _, rfl, _, rfl, pt, _, _, _, rfl, rfl, SqL.of (S46.kp _ _ nn hpt4), atI_nat (by rw [List.getElem?_map, hz]; rfl), wh, ds, z, rfl, spD.up S46, sh z (List.mem_of_getElem? hz), fun H7 S7 => q _ _ S7 (.bl _)⟩
        obtain rfl := rpl_bls r6
        refine tn (bls_rep h6 (by omega) ?_)
        have S46 := S5.trans S6
        refine ⟨_, rfl, B, rfl, ⟨_, SqL.of (S6.kp _ _ nn h5)⟩, fun L3 nL3 => ?_⟩
        refine lc_mapL (K := K) (ds := bs.map Dt.bl) nL3 (SqL.of (S6.kp _ _ nn h5)) (by rw [List.length_map, List.length_map, lbs, lks]) (by rw [List.length_map, lks]; decide) (fun j x d H7 hx hd S7 Q2 q => ?_) fun ws H7 S7 h7 r7 => ?_
        · obtain ⟨n, z, rfl, hz, rfl⟩ := get hx hd
          exact ⟨rfl, _, rfl, _, rfl, mk2, _, _, _, rfl, rfl, SqL.of ((S46.trans S7).kp _ _ nn hmk4), atI_nat (zs_at hz), q _ _ (Stp.refl _ _) (.bl _)⟩
        obtain rfl := rpl_bls r7
        refine tn (bls_rep h7 (by omega) ⟨rfl, ?_⟩)
        rw [decide_eq_true rfl]
        exact k _
/-! ### what the top has written, the head -/
theorem all_mk {l : PySem.W.OpenLaw} {w : World} {K : PySem.W.Frag} {h : Heap} {mg : Str → Option Value} {fa : Addr} (X : K.In h) (G : h.Ns mainGlobals mg) (hfa : mg "law" = some (.ref fa))
    {f0 : Addr} {od0 an0 : Option Addr} {sl0 : Array (Option Value)} {oc0 kV0 dc0 pm0 cd0 ct0 : Value}
    (a0 : PySem.W.nsIn K mainGlobals "is_text" = some (some (.ref f0))) (l0 : K.lookup f0 = some ⟨oc0, od0, .func (PySem.W.fnOf "is_text" "is_text" (defArgs s_is_text) (defBody s_is_text) (defScope s_is_text) .none kV0 dc0 pm0 an0 cd0 ct0), sl0⟩) (c0 : PySem.W.codeIn K cd0 "is_text" = true) (k0 : PySem.W.keepIn K (.ref f0) = true)
    {f1 : Addr} {od1 an1 : Option Addr} {sl1 : Array (Option Value)} {oc1 kV1 dc1 pm1 cd1 ct1 : Value}
    (a1 : PySem.W.nsIn K mainGlobals "is_range" = some (some (.ref f1))) (l1 : K.lookup f1 = some ⟨oc1, od1, .func (PySem.W.fnOf "is_range" "is_range" (defArgs s_is_range) (defBody s_is_range) (defScope s_is_range) .none kV1 dc1 pm1 an1 cd1 ct1), sl1⟩) (c1 : PySem.W.codeIn K cd1 "is_range" = true) (k1 : PySem.W.keepIn K (.ref f1) = true)
    {f2 : Addr} {od2 an2 : Option Addr} {sl2 : Array (Option Value)} {oc2 kV2 dc2 pm2 cd2 ct2 : Value}
    (a2 : PySem.W.nsIn K mainGlobals "is_span" = some (some (.ref f2))) (l2 : K.lookup f2 = some ⟨oc2, od2, .func (PySem.W.fnOf "is_span" "is_span" (defArgs s_is_span) (defBody s_is_span) (defScope s_is_span) .none kV2 dc2 pm2 an2 cd2 ct2), sl2⟩) (c2 : PySem.W.codeIn K cd2 "is_span" = true) (k2 : PySem.W.keepIn K (.ref f2) = true)
    {f3 : Addr} {od3 an3 : Option Addr} {sl3 : Array (Option Value)} {oc3 kV3 dc3 pm3 cd3 ct3 : Value}
    (a3 : PySem.W.nsIn K mainGlobals "reaches" = some (some (.ref f3))) (l3 : K.lookup f3 = some ⟨oc3, od3, .func (PySem.W.fnOf "reaches" "reaches" (defArgs s_reaches) (defBody s_reaches) (defScope s_reaches) .none kV3 dc3 pm3 an3 cd3 ct3), sl3⟩) (c3 : PySem.W.codeIn K cd3 "reaches" = true) (k3 : PySem.W.keepIn K (.ref f3) = true)
    {f4 : Addr} {od4 an4 : Option Addr} {sl4 : Array (Option Value)} {oc4 kV4 dc4 pm4 cd4 ct4 : Value}
    (a4 : PySem.W.nsIn K mainGlobals "check_text" = some (some (.ref f4))) (l4 : K.lookup f4 = some ⟨oc4, od4, .func (PySem.W.fnOf "check_text" "check_text" (defArgs s_check_text) (defBody s_check_text) (defScope s_check_text) .none kV4 dc4 pm4 an4 cd4 ct4), sl4⟩) (c4 : PySem.W.codeIn K cd4 "check_text" = true) (k4 : PySem.W.keepIn K (.ref f4) = true)
    {f5 : Addr} {od5 an5 : Option Addr} {sl5 : Array (Option Value)} {oc5 kV5 dc5 pm5 cd5 ct5 : Value}
    (a5 : PySem.W.nsIn K mainGlobals "check_span" = some (some (.ref f5))) (l5 : K.lookup f5 = some ⟨oc5, od5, .func (PySem.W.fnOf "check_span" "check_span" (defArgs s_check_span) (defBody s_check_span) (defScope s_check_span) .none kV5 dc5 pm5 an5 cd5 ct5), sl5⟩) (c5 : PySem.W.codeIn K cd5 "check_span" = true) (k5 : PySem.W.keepIn K (.ref f5) = true)
    {f6 : Addr} {od6 an6 : Option Addr} {sl6 : Array (Option Value)} {oc6 kV6 dc6 pm6 cd6 ct6 : Value}
    (a6 : PySem.W.nsIn K mainGlobals "check_ranges" = some (some (.ref f6))) (l6 : K.lookup f6 = some ⟨oc6, od6, .func (PySem.W.fnOf "check_ranges" "check_ranges" (defArgs s_check_ranges) (defBody s_check_ranges) (defScope s_check_ranges) .none kV6 dc6 pm6 an6 cd6 ct6), sl6⟩) (c6 : PySem.W.codeIn K cd6 "check_ranges" = true) (k6 : PySem.W.keepIn K (.ref f6) = true)
    {f7 : Addr} {od7 an7 : Option Addr} {sl7 : Array (Option Value)} {oc7 kV7 dc7 pm7 cd7 ct7 : Value}
    (a7 : PySem.W.nsIn K mainGlobals "later_end" = some (some (.ref f7))) (l7 : K.lookup f7 = some ⟨oc7, od7, .func (PySem.W.fnOf "later_end" "later_end" (defArgs s_later_end) (defBody s_later_end) (defScope s_later_end) .none kV7 dc7 pm7 an7 cd7 ct7), sl7⟩) (c7 : PySem.W.codeIn K cd7 "later_end" = true) (k7 : PySem.W.keepIn K (.ref f7) = true)
    {f8 : Addr} {od8 an8 : Option Addr} {sl8 : Array (Option Value)} {oc8 kV8 dc8 pm8 cd8 ct8 : Value}
    (a8 : PySem.W.nsIn K mainGlobals "ascending" = some (some (.ref f8))) (l8 : K.lookup f8 = some ⟨oc8, od8, .func (PySem.W.fnOf "ascending" "ascending" (defArgs s_ascending) (defBody s_ascending) (defScope s_ascending) .none kV8 dc8 pm8 an8 cd8 ct8), sl8⟩) (c8 : PySem.W.codeIn K cd8 "ascending" = true) (k8 : PySem.W.keepIn K (.ref f8) = true)
    {f9 : Addr} {od9 an9 : Option Addr} {sl9 : Array (Option Value)} {oc9 kV9 dc9 pm9 cd9 ct9 : Value}
    (a9 : PySem.W.nsIn K mainGlobals "span_of" = some (some (.ref f9))) (l9 : K.lookup f9 = some ⟨oc9, od9, .func (PySem.W.fnOf "span_of" "span_of" (defArgs s_span_of) (defBody s_span_of) (defScope s_span_of) .none kV9 dc9 pm9 an9 cd9 ct9), sl9⟩) (c9 : PySem.W.codeIn K cd9 "span_of" = true) (k9 : PySem.W.keepIn K (.ref f9) = true)
    {f10 : Addr} {od10 an10 : Option Addr} {sl10 : Array (Option Value)} {oc10 kV10 dc10 pm10 cd10 ct10 : Value}
    (a10 : PySem.W.nsIn K mainGlobals "has" = some (some (.ref f10))) (l10 : K.lookup f10 = some ⟨oc10, od10, .func (PySem.W.fnOf "has" "has" (defArgs s_has) (defBody s_has) (defScope s_has) .none kV10 dc10 pm10 an10 cd10 ct10), sl10⟩) (c10 : PySem.W.codeIn K cd10 "has" = true) (k10 : PySem.W.keepIn K (.ref f10) = true)
    {f11 : Addr} {od11 an11 : Option Addr} {sl11 : Array (Option Value)} {oc11 kV11 dc11 pm11 cd11 ct11 : Value}
    (a11 : PySem.W.nsIn K mainGlobals "opposite" = some (some (.ref f11))) (l11 : K.lookup f11 = some ⟨oc11, od11, .func (PySem.W.fnOf "opposite" "opposite" (defArgs s_opposite) (defBody s_opposite) (defScope s_opposite) .none kV11 dc11 pm11 an11 cd11 ct11), sl11⟩) (c11 : PySem.W.codeIn K cd11 "opposite" = true) (k11 : PySem.W.keepIn K (.ref f11) = true)
    {f12 : Addr} {od12 an12 : Option Addr} {sl12 : Array (Option Value)} {oc12 kV12 dc12 pm12 cd12 ct12 : Value}
    (a12 : PySem.W.nsIn K mainGlobals "joined" = some (some (.ref f12))) (l12 : K.lookup f12 = some ⟨oc12, od12, .func (PySem.W.fnOf "joined" "joined" (defArgs s_joined) (defBody s_joined) (defScope s_joined) .none kV12 dc12 pm12 an12 cd12 ct12), sl12⟩) (c12 : PySem.W.codeIn K cd12 "joined" = true) (k12 : PySem.W.keepIn K (.ref f12) = true)
    {f13 : Addr} {od13 an13 : Option Addr} {sl13 : Array (Option Value)} {oc13 kV13 dc13 pm13 cd13 ct13 : Value}
    (a13 : PySem.W.nsIn K mainGlobals "shared" = some (some (.ref f13))) (l13 : K.lookup f13 = some ⟨oc13, od13, .func (PySem.W.fnOf "shared" "shared" (defArgs s_shared) (defBody s_shared) (defScope s_shared) .none kV13 dc13 pm13 an13 cd13 ct13), sl13⟩) (c13 : PySem.W.codeIn K cd13 "shared" = true) (k13 : PySem.W.keepIn K (.ref f13) = true)
    {f14 : Addr} {od14 an14 : Option Addr} {sl14 : Array (Option Value)} {oc14 kV14 dc14 pm14 cd14 ct14 : Value}
    (a14 : PySem.W.nsIn K mainGlobals "_law_bag" = some (some (.ref f14))) (l14 : K.lookup f14 = some ⟨oc14, od14, .func (PySem.W.fnOf "_law_bag" "_law_bag" (defArgs s__law_bag) (defBody s__law_bag) (defScope s__law_bag) .none kV14 dc14 pm14 an14 cd14 ct14), sl14⟩) (c14 : PySem.W.codeIn K cd14 "_law_bag" = true) (k14 : PySem.W.keepIn K (.ref f14) = true)
    {f15 : Addr} {od15 an15 : Option Addr} {sl15 : Array (Option Value)} {oc15 kV15 dc15 pm15 cd15 ct15 : Value}
    (a15 : PySem.W.nsIn K mainGlobals "_law_draw" = some (some (.ref f15))) (l15 : K.lookup f15 = some ⟨oc15, od15, .func (PySem.W.fnOf "_law_draw" "_law_draw" (defArgs s__law_draw) (defBody s__law_draw) (defScope s__law_draw) .none kV15 dc15 pm15 an15 cd15 ct15), sl15⟩) (c15 : PySem.W.codeIn K cd15 "_law_draw" = true) (k15 : PySem.W.keepIn K (.ref f15) = true)
    {f16 : Addr} {od16 an16 : Option Addr} {sl16 : Array (Option Value)} {oc16 kV16 dc16 pm16 cd16 ct16 : Value}
    (a16 : PySem.W.nsIn K mainGlobals "_law_text" = some (some (.ref f16))) (l16 : K.lookup f16 = some ⟨oc16, od16, .func (PySem.W.fnOf "_law_text" "_law_text" (defArgs s__law_text) (defBody s__law_text) (defScope s__law_text) .none kV16 dc16 pm16 an16 cd16 ct16), sl16⟩) (c16 : PySem.W.codeIn K cd16 "_law_text" = true) (k16 : PySem.W.keepIn K (.ref f16) = true)
    {f17 : Addr} {od17 an17 : Option Addr} {sl17 : Array (Option Value)} {oc17 kV17 dc17 pm17 cd17 ct17 : Value}
    (a17 : PySem.W.nsIn K mainGlobals "_law_near" = some (some (.ref f17))) (l17 : K.lookup f17 = some ⟨oc17, od17, .func (PySem.W.fnOf "_law_near" "_law_near" (defArgs s__law_near) (defBody s__law_near) (defScope s__law_near) .none kV17 dc17 pm17 an17 cd17 ct17), sl17⟩) (c17 : PySem.W.codeIn K cd17 "_law_near" = true) (k17 : PySem.W.keepIn K (.ref f17) = true)
    {f18 : Addr} {od18 an18 : Option Addr} {sl18 : Array (Option Value)} {oc18 kV18 dc18 pm18 cd18 ct18 : Value}
    (a18 : PySem.W.nsIn K mainGlobals "_law_past" = some (some (.ref f18))) (l18 : K.lookup f18 = some ⟨oc18, od18, .func (PySem.W.fnOf "_law_past" "_law_past" (defArgs s__law_past) (defBody s__law_past) (defScope s__law_past) .none kV18 dc18 pm18 an18 cd18 ct18), sl18⟩) (c18 : PySem.W.codeIn K cd18 "_law_past" = true) (k18 : PySem.W.keepIn K (.ref f18) = true)
    {f19 : Addr} {od19 an19 : Option Addr} {sl19 : Array (Option Value)} {oc19 kV19 dc19 pm19 cd19 ct19 : Value}
    (a19 : PySem.W.nsIn K mainGlobals "_law_some" = some (some (.ref f19))) (l19 : K.lookup f19 = some ⟨oc19, od19, .func (PySem.W.fnOf "_law_some" "_law_some" (defArgs s__law_some) (defBody s__law_some) (defScope s__law_some) .none kV19 dc19 pm19 an19 cd19 ct19), sl19⟩) (c19 : PySem.W.codeIn K cd19 "_law_some" = true) (k19 : PySem.W.keepIn K (.ref f19) = true)
    {f20 : Addr} {od20 an20 : Option Addr} {sl20 : Array (Option Value)} {oc20 kV20 dc20 pm20 cd20 ct20 : Value}
    (a20 : PySem.W.nsIn K mainGlobals "_law_pair" = some (some (.ref f20))) (l20 : K.lookup f20 = some ⟨oc20, od20, .func (PySem.W.fnOf "_law_pair" "_law_pair" (defArgs s__law_pair) (defBody s__law_pair) (defScope s__law_pair) .none kV20 dc20 pm20 an20 cd20 ct20), sl20⟩) (c20 : PySem.W.codeIn K cd20 "_law_pair" = true) (k20 : PySem.W.keepIn K (.ref f20) = true)
    {f21 : Addr} {od21 an21 : Option Addr} {sl21 : Array (Option Value)} {oc21 kV21 dc21 pm21 cd21 ct21 : Value}
    (a21 : PySem.W.nsIn K mainGlobals "_law_in" = some (some (.ref f21))) (l21 : K.lookup f21 = some ⟨oc21, od21, .func (PySem.W.fnOf "_law_in" "_law_in" (defArgs s__law_in) (defBody s__law_in) (defScope s__law_in) .none kV21 dc21 pm21 an21 cd21 ct21), sl21⟩) (c21 : PySem.W.codeIn K cd21 "_law_in" = true) (k21 : PySem.W.keepIn K (.ref f21) = true)
    {f22 : Addr} {od22 an22 : Option Addr} {sl22 : Array (Option Value)} {oc22 kV22 dc22 pm22 cd22 ct22 : Value}
    (a22 : PySem.W.nsIn K mainGlobals "_law_pieces" = some (some (.ref f22))) (l22 : K.lookup f22 = some ⟨oc22, od22, .func (PySem.W.fnOf "_law_pieces" "_law_pieces" (defArgs s__law_pieces) (defBody s__law_pieces) (defScope s__law_pieces) .none kV22 dc22 pm22 an22 cd22 ct22), sl22⟩) (c22 : PySem.W.codeIn K cd22 "_law_pieces" = true) (k22 : PySem.W.keepIn K (.ref f22) = true)
    {f23 : Addr} {od23 an23 : Option Addr} {sl23 : Array (Option Value)} {oc23 kV23 dc23 pm23 cd23 ct23 : Value}
    (a23 : PySem.W.nsIn K mainGlobals "_law_step" = some (some (.ref f23))) (l23 : K.lookup f23 = some ⟨oc23, od23, .func (PySem.W.fnOf "_law_step" "_law_step" (defArgs s__law_step) (defBody s__law_step) (defScope s__law_step) .none kV23 dc23 pm23 an23 cd23 ct23), sl23⟩) (c23 : PySem.W.codeIn K cd23 "_law_step" = true) (k23 : PySem.W.keepIn K (.ref f23) = true)
    {f24 : Addr} {od24 an24 : Option Addr} {sl24 : Array (Option Value)} {oc24 kV24 dc24 pm24 cd24 ct24 : Value}
    (a24 : PySem.W.nsIn K mainGlobals "_law_mark" = some (some (.ref f24))) (l24 : K.lookup f24 = some ⟨oc24, od24, .func (PySem.W.fnOf "_law_mark" "_law_mark" (defArgs s__law_mark) (defBody s__law_mark) (defScope s__law_mark) .none kV24 dc24 pm24 an24 cd24 ct24), sl24⟩) (c24 : PySem.W.codeIn K cd24 "_law_mark" = true) (k24 : PySem.W.keepIn K (.ref f24) = true)
    {f25 : Addr} {od25 an25 : Option Addr} {sl25 : Array (Option Value)} {oc25 kV25 dc25 pm25 cd25 ct25 : Value}
    (a25 : PySem.W.nsIn K mainGlobals "law" = some (some (.ref f25))) (l25 : K.lookup f25 = some ⟨oc25, od25, .func (PySem.W.fnOf "law" "law" (defArgs s_law) (defBody s_law) (defScope s_law) .none kV25 dc25 pm25 an25 cd25 ct25), sl25⟩) (c25 : PySem.W.codeIn K cd25 "law" = true) (k25 : PySem.W.keepIn K (.ref f25) = true)
    (z0 : PySem.W.nsIn K mainGlobals "int" = some none)
    (z1 : PySem.W.nsIn K mainGlobals "len" = some none)
    (z2 : PySem.W.nsIn K mainGlobals "max" = some none)
    (z3 : PySem.W.nsIn K mainGlobals "range" = some none)
    (z4 : PySem.W.nsIn K mainGlobals "type" = some none)
    (z5 : PySem.W.nsIn K mainGlobals "tuple" = some none)
    (z6 : PySem.W.nsIn K mainGlobals "all" = some none)
    (z7 : PySem.W.nsIn K mainGlobals "any" = some none)
    (z8 : PySem.W.nsIn K mainGlobals "zip" = some none)
    (z9 : PySem.W.nsIn K mainGlobals "str" = some none)
    (z10 : PySem.W.nsIn K mainGlobals "sorted" = some none)
    (z11 : PySem.W.nsIn K mainGlobals "set" = some none)
    (z12 : PySem.W.nsIn K mainGlobals "repr" = some none)
    (z13 : PySem.W.nsIn K mainGlobals "list" = some none)
    : ∃ fd : FuncData, (∀ (s : Shared) (v : Value), BindsTo s fd ⟨[v], []⟩ [("script", v)]) ∧ ∀ base : Heap, K.In base → base.Ns mainGlobals mg → FnG l.prog w K mg base 8 fa fd ["script"] (spLaw K) := by
  have e := hfa.symm.trans (PySem.W.mg_of X G a25)
  cases e
  have F_is_text := fun_mk (st := s_is_text) l0 c0 k0
  have D_is_text : Df K mg "is_text" s_is_text ["value"] f0 _ := ⟨F_is_text, PySem.W.mg_of X G a0, F_is_text.binds (ps := ["value"]) fun _ _ _ _ _ _ us hl => match us, hl with | [_], _ => rfl⟩
  have F_is_range := fun_mk (st := s_is_range) l1 c1 k1
  have D_is_range : Df K mg "is_range" s_is_range ["value"] f1 _ := ⟨F_is_range, PySem.W.mg_of X G a1, F_is_range.binds (ps := ["value"]) fun _ _ _ _ _ _ us hl => match us, hl with | [_], _ => rfl⟩
  have F_is_span := fun_mk (st := s_is_span) l2 c2 k2
  have D_is_span : Df K mg "is_span" s_is_span ["value"] f2 _ := ⟨F_is_span, PySem.W.mg_of X G a2, F_is_span.binds (ps := ["value"]) fun _ _ _ _ _ _ us hl => match us, hl with | [_], _ => rfl⟩
  have F_reaches := fun_mk (st := s_reaches) l3 c3 k3
  have D_reaches : Df K mg "reaches" s_reaches ["end", "first"] f3 _ := ⟨F_reaches, PySem.W.mg_of X G a3, F_reaches.binds (ps := ["end", "first"]) fun _ _ _ _ _ _ us hl => match us, hl with | [_, _], _ => rfl⟩
  have F_check_text := fun_mk (st := s_check_text) l4 c4 k4
  have D_check_text : Df K mg "check_text" s_check_text ["text"] f4 _ := ⟨F_check_text, PySem.W.mg_of X G a4, F_check_text.binds (ps := ["text"]) fun _ _ _ _ _ _ us hl => match us, hl with | [_], _ => rfl⟩
  have F_check_span := fun_mk (st := s_check_span) l5 c5 k5
  have D_check_span : Df K mg "check_span" s_check_span ["span"] f5 _ := ⟨F_check_span, PySem.W.mg_of X G a5, F_check_span.binds (ps := ["span"]) fun _ _ _ _ _ _ us hl => match us, hl with | [_], _ => rfl⟩
  have F_check_ranges := fun_mk (st := s_check_ranges) l6 c6 k6
  have D_check_ranges : Df K mg "check_ranges" s_check_ranges ["ranges"] f6 _ := ⟨F_check_ranges, PySem.W.mg_of X G a6, F_check_ranges.binds (ps := ["ranges"]) fun _ _ _ _ _ _ us hl => match us, hl with | [_], _ => rfl⟩
  have F_later_end := fun_mk (st := s_later_end) l7 c7 k7
  have D_later_end : Df K mg "later_end" s_later_end ["end", "other_end"] f7 _ := ⟨F_later_end, PySem.W.mg_of X G a7, F_later_end.binds (ps := ["end", "other_end"]) fun _ _ _ _ _ _ us hl => match us, hl with | [_, _], _ => rfl⟩
  have F_ascending := fun_mk (st := s_ascending) l8 c8 k8
  have D_ascending : Df K mg "ascending" s_ascending ["texts"] f8 _ := ⟨F_ascending, PySem.W.mg_of X G a8, F_ascending.binds (ps := ["texts"]) fun _ _ _ _ _ _ us hl => match us, hl with | [_], _ => rfl⟩
  have F_span_of := fun_mk (st := s_span_of) l9 c9 k9
  have D_span_of : Df K mg "span_of" s_span_of ["ranges"] f9 _ := ⟨F_span_of, PySem.W.mg_of X G a9, F_span_of.binds (ps := ["ranges"]) fun _ _ _ _ _ _ us hl => match us, hl with | [_], _ => rfl⟩
  have F_has := fun_mk (st := s_has) l10 c10 k10
  have D_has : Df K mg "has" s_has ["span", "text"] f10 _ := ⟨F_has, PySem.W.mg_of X G a10, F_has.binds (ps := ["span", "text"]) fun _ _ _ _ _ _ us hl => match us, hl with | [_, _], _ => rfl⟩
  have F_opposite := fun_mk (st := s_opposite) l11 c11 k11
  have D_opposite : Df K mg "opposite" s_opposite ["span"] f11 _ := ⟨F_opposite, PySem.W.mg_of X G a11, F_opposite.binds (ps := ["span"]) fun _ _ _ _ _ _ us hl => match us, hl with | [_], _ => rfl⟩
  have F_joined := fun_mk (st := s_joined) l12 c12 k12
  have D_joined : Df K mg "joined" s_joined ["span", "other_span"] f12 _ := ⟨F_joined, PySem.W.mg_of X G a12, F_joined.binds (ps := ["span", "other_span"]) fun _ _ _ _ _ _ us hl => match us, hl with | [_, _], _ => rfl⟩
  have F_shared := fun_mk (st := s_shared) l13 c13 k13
  have D_shared : Df K mg "shared" s_shared ["span", "other_span"] f13 _ := ⟨F_shared, PySem.W.mg_of X G a13, F_shared.binds (ps := ["span", "other_span"]) fun _ _ _ _ _ _ us hl => match us, hl with | [_, _], _ => rfl⟩
  have F__law_bag := fun_mk (st := s__law_bag) l14 c14 k14
  have D__law_bag : Df K mg "_law_bag" s__law_bag ["cell"] f14 _ := ⟨F__law_bag, PySem.W.mg_of X G a14, F__law_bag.binds (ps := ["cell"]) fun _ _ _ _ _ _ us hl => match us, hl with | [_], _ => rfl⟩
  have F__law_draw := fun_mk (st := s__law_draw) l15 c15 k15
  have D__law_draw : Df K mg "_law_draw" s__law_draw ["bag", "upto"] f15 _ := ⟨F__law_draw, PySem.W.mg_of X G a15, F__law_draw.binds (ps := ["bag", "upto"]) fun _ _ _ _ _ _ us hl => match us, hl with | [_, _], _ => rfl⟩
  have F__law_text := fun_mk (st := s__law_text) l16 c16 k16
  have D__law_text : Df K mg "_law_text" s__law_text ["bag"] f16 _ := ⟨F__law_text, PySem.W.mg_of X G a16, F__law_text.binds (ps := ["bag"]) fun _ _ _ _ _ _ us hl => match us, hl with | [_], _ => rfl⟩
  have F__law_near := fun_mk (st := s__law_near) l17 c17 k17
  have D__law_near : Df K mg "_law_near" s__law_near ["bag", "word"] f17 _ := ⟨F__law_near, PySem.W.mg_of X G a17, F__law_near.binds (ps := ["bag", "word"]) fun _ _ _ _ _ _ us hl => match us, hl with | [_, _], _ => rfl⟩
  have F__law_past := fun_mk (st := s__law_past) l18 c18 k18
  have D__law_past : Df K mg "_law_past" s__law_past ["word"] f18 _ := ⟨F__law_past, PySem.W.mg_of X G a18, F__law_past.binds (ps := ["word"]) fun _ _ _ _ _ _ us hl => match us, hl with | [_], _ => rfl⟩
  have F__law_some := fun_mk (st := s__law_some) l19 c19 k19
  have D__law_some : Df K mg "_law_some" s__law_some ["bag", "pool"] f19 _ := ⟨F__law_some, PySem.W.mg_of X G a19, F__law_some.binds (ps := ["bag", "pool"]) fun _ _ _ _ _ _ us hl => match us, hl with | [_, _], _ => rfl⟩
  have F__law_pair := fun_mk (st := s__law_pair) l20 c20 k20
  have D__law_pair : Df K mg "_law_pair" s__law_pair ["bag", "pool"] f20 _ := ⟨F__law_pair, PySem.W.mg_of X G a20, F__law_pair.binds (ps := ["bag", "pool"]) fun _ _ _ _ _ _ us hl => match us, hl with | [_, _], _ => rfl⟩
  have F__law_in := fun_mk (st := s__law_in) l21 c21 k21
  have D__law_in : Df K mg "_law_in" s__law_in ["pairs", "word"] f21 _ := ⟨F__law_in, PySem.W.mg_of X G a21, F__law_in.binds (ps := ["pairs", "word"]) fun _ _ _ _ _ _ us hl => match us, hl with | [_, _], _ => rfl⟩
  have F__law_pieces := fun_mk (st := s__law_pieces) l22 c22 k22
  have D__law_pieces : Df K mg "_law_pieces" s__law_pieces ["points", "marks"] f22 _ := ⟨F__law_pieces, PySem.W.mg_of X G a22, F__law_pieces.binds (ps := ["points", "marks"]) fun _ _ _ _ _ _ us hl => match us, hl with | [_, _], _ => rfl⟩
  have F__law_step := fun_mk (st := s__law_step) l23 c23 k23
  have D__law_step : Df K mg "_law_step" s__law_step ["way", "whole", "part", "elder"] f23 _ := ⟨F__law_step, PySem.W.mg_of X G a23, F__law_step.binds (ps := ["way", "whole", "part", "elder"]) fun _ _ _ _ _ _ us hl => match us, hl with | [_, _, _, _], _ => rfl⟩
  have F__law_mark := fun_mk (st := s__law_mark) l24 c24 k24
  have D__law_mark : Df K mg "_law_mark" s__law_mark ["way", "mine", "yours", "elder"] f24 _ := ⟨F__law_mark, PySem.W.mg_of X G a24, F__law_mark.binds (ps := ["way", "mine", "yours", "elder"]) fun _ _ _ _ _ _ us hl => match us, hl with | [_, _, _, _], _ => rfl⟩
  have F_law := fun_mk (st := s_law) l25 c25 k25
  have D_law : Df K mg "law" s_law ["script"] fa _ := ⟨F_law, PySem.W.mg_of X G a25, F_law.binds (ps := ["script"]) fun _ _ _ _ _ _ us hl => match us, hl with | [_], _ => rfl⟩
  have T : Nm mg := ⟨PySem.W.mg_none_of X G z0, PySem.W.mg_none_of X G z1, PySem.W.mg_none_of X G z2, PySem.W.mg_none_of X G z3, PySem.W.mg_none_of X G z4, PySem.W.mg_none_of X G z5, PySem.W.mg_none_of X G z6, PySem.W.mg_none_of X G z7, PySem.W.mg_none_of X G z8, PySem.W.mg_none_of X G z9, PySem.W.mg_none_of X G z10, PySem.W.mg_none_of X G z11, PySem.W.mg_none_of X G z12, PySem.W.mg_none_of X G z13⟩
  refine ⟨PySem.W.fnOf "law" "law" (defArgs s_law) (defBody s_law) (defScope s_law) .none kV25 dc25 pm25 an25 cd25 ct25, fun s v => .of_eq rfl, fun base _ _ => ?_⟩
  have c_bag := cl__law_bag (P := l.prog) (w := w) (base := base) D__law_bag T
  have c_draw := cl__law_draw (P := l.prog) (w := w) (base := base) D__law_draw T
  have c_text := cl__law_text D__law_text T c_draw
  have c_near := cl__law_near D__law_near T c_draw
  have c_some := cl__law_some D__law_some T c_draw c_near c_text
  have c_past := cl__law_past (P := l.prog) (w := w) (base := base) D__law_past T
  have c_pair := cl__law_pair D__law_pair T c_draw c_some c_past
  have c_inL := cl__law_inL (P := l.prog) (w := w) (base := base) D__law_in T
  have c_pieces := cl__law_pieces (P := l.prog) (w := w) (base := base) D__law_pieces T
  have c_ist := cl_is_text (P := l.prog) (w := w) (base := base) D_is_text T
  have c_isr := cl_is_range D_is_range T c_ist
  have c_reaG := cl_reachesG (P := l.prog) (w := w) (base := base) D_reaches T
  have c_lat := cl_later_end (P := l.prog) (w := w) (base := base) D_later_end T
  have c_asc := cl_ascending (P := l.prog) (w := w) (base := base) D_ascending T
  have c_ckr := cl_check_ranges D_check_ranges T c_isr
  have c_spanof := cl_span_of D_span_of T c_ckr c_lat c_asc c_reaG
  have c_rea := cl_reaches (P := l.prog) (w := w) (base := base) D_reaches T
  have c_iss := cl_is_span D_is_span T c_isr c_rea
  have c_cks := cl_check_span D_check_span T c_iss
  have c_opp := cl_opposite D_opposite T c_cks
  have c_jn := cl_joined D_joined T c_cks c_spanof
  have c_sh := cl_shared D_shared T c_opp c_jn
  have c_ckt := cl_check_text D_check_text T c_ist
  have c_has := cl_has D_has T c_cks c_ckt
  have c_step := cl__law_step D__law_step T c_opp c_jn c_sh
  have c_mark := cl__law_mark (P := l.prog) (w := w) (base := base) D__law_mark T
  exact cl_law D_law T c_bag c_draw c_pair c_inL c_mark c_step c_spanof c_pieces c_has
end
end Kq
open PySem PySem.W PyProof.Rows in
set_option maxRecDepth 100000 in
set_option maxHeartbeats 0 in
theorem PySem.Challenge.cw_pageskips_k09_whole_sets_of_texts_holds : PySem.Challenge.rw_pageskips_k09_whole_sets_of_texts.Holds := by
  w_on; o_law; k_head; (case hw => w_witness2)
  k_fill
  refine Pg.walk_g (l := PySem.Challenge.rw_pageskips_k09_whole_sets_of_texts) (n := 63) (k := 8) (x := "script") (sp := fun w => Kq.spLaw _) rfl (by decide) rfl ⟨rfl, by decide, by decide⟩ (fun w h Y => PySem.W.kIn_of Y) ?F (fun _ _ a ns hl _ hS => ⟨a, ns, rfl, hS, hl, fun _ => rfl⟩)
  case F =>
    intro w mg fa h KX G hmg
    refine' Kq.all_mk KX G hmg ?a0 ?l0 ?c0 ?k0 ?a1 ?l1 ?c1 ?k1 ?a2 ?l2 ?c2 ?k2 ?a3 ?l3 ?c3 ?k3 ?a4 ?l4 ?c4 ?k4 ?a5 ?l5 ?c5 ?k5 ?a6 ?l6 ?c6 ?k6 ?a7 ?l7 ?c7 ?k7 ?a8 ?l8 ?c8 ?k8 ?a9 ?l9 ?c9 ?k9 ?a10 ?l10 ?c10 ?k10 ?a11 ?l11 ?c11 ?k11 ?a12 ?l12 ?c12 ?k12 ?a13 ?l13 ?c13 ?k13 ?a14 ?l14 ?c14 ?k14 ?a15 ?l15 ?c15 ?k15 ?a16 ?l16 ?c16 ?k16 ?a17 ?l17 ?c17 ?k17 ?a18 ?l18 ?c18 ?k18 ?a19 ?l19 ?c19 ?k19 ?a20 ?l20 ?c20 ?k20 ?a21 ?l21 ?c21 ?k21 ?a22 ?l22 ?c22 ?k22 ?a23 ?l23 ?c23 ?k23 ?a24 ?l24 ?c24 ?k24 ?a25 ?l25 ?c25 ?k25 ?z0 ?z1 ?z2 ?z3 ?z4 ?z5 ?z6 ?z7 ?z8 ?z9 ?z10 ?z11 ?z12 ?z13
    (case a0 => k_is)
    (case l0 => k_is)
    (case c0 => k_is)
    (case k0 => k_is)
    (case a1 => k_is)
    (case l1 => k_is)
    (case c1 => k_is)
    (case k1 => k_is)
    (case a2 => k_is)
    (case l2 => k_is)
    (case c2 => k_is)
    (case k2 => k_is)
    (case a3 => k_is)
    (case l3 => k_is)
    (case c3 => k_is)
    (case k3 => k_is)
    (case a4 => k_is)
    (case l4 => k_is)
    (case c4 => k_is)
    (case k4 => k_is)
    (case a5 => k_is)
    (case l5 => k_is)
    (case c5 => k_is)
    (case k5 => k_is)
    (case a6 => k_is)
    (case l6 => k_is)
    (case c6 => k_is)
    (case k6 => k_is)
    (case a7 => k_is)
    (case l7 => k_is)
    (case c7 => k_is)
    (case k7 => k_is)
    (case a8 => k_is)
    (case l8 => k_is)
    (case c8 => k_is)
    (case k8 => k_is)
    (case a9 => k_is)
    (case l9 => k_is)
    (case c9 => k_is)
    (case k9 => k_is)
    (case a10 => k_is)
    (case l10 => k_is)
    (case c10 => k_is)
    (case k10 => k_is)
    (case a11 => k_is)
    (case l11 => k_is)
    (case c11 => k_is)
    (case k11 => k_is)
    (case a12 => k_is)
    (case l12 => k_is)
    (case c12 => k_is)
    (case k12 => k_is)
    (case a13 => k_is)
    (case l13 => k_is)
    (case c13 => k_is)
    (case k13 => k_is)
    (case a14 => k_is)
    (case l14 => k_is)
    (case c14 => k_is)
    (case k14 => k_is)
    (case a15 => k_is)
    (case l15 => k_is)
    (case c15 => k_is)
    (case k15 => k_is)
    (case a16 => k_is)
    (case l16 => k_is)
    (case c16 => k_is)
    (case k16 => k_is)
    (case a17 => k_is)
    (case l17 => k_is)
    (case c17 => k_is)
    (case k17 => k_is)
    (case a18 => k_is)
    (case l18 => k_is)
    (case c18 => k_is)
    (case k18 => k_is)
    (case a19 => k_is)
    (case l19 => k_is)
    (case c19 => k_is)
    (case k19 => k_is)
    (case a20 => k_is)
    (case l20 => k_is)
    (case c20 => k_is)
    (case k20 => k_is)
    (case a21 => k_is)
    (case l21 => k_is)
    (case c21 => k_is)
    (case k21 => k_is)
    (case a22 => k_is)
    (case l22 => k_is)
    (case c22 => k_is)
    (case k22 => k_is)
    (case a23 => k_is)
    (case l23 => k_is)
    (case c23 => k_is)
    (case k23 => k_is)
    (case a24 => k_is)
    (case l24 => k_is)
    (case c24 => k_is)
    (case k24 => k_is)
    (case a25 => k_is)
    (case l25 => k_is)
    (case c25 => k_is)
    (case k25 => k_is)
    (case z0 => k_is)
    (case z1 => k_is)
    (case z2 => k_is)
    (case z3 => k_is)
    (case z4 => k_is)
    (case z5 => k_is)
    (case z6 => k_is)
    (case z7 => k_is)
    (case z8 => k_is)
    (case z9 => k_is)
    (case z10 => k_is)
    (case z11 => k_is)
    (case z12 => k_is)
    (case z13 => k_is)
