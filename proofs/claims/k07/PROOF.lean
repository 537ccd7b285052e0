import PyProof.Rows.All
import Wide.All
import OpenK.AllK
import Wide.FinOn
import HandS.ForMost
import HandS.Defaults
import HandS.Codes
import HandS.IsInst
import HandS.NoneIn
import HandS.Replace
import HandS.Walk
import HandS.Head0
import HandS.Head1
import HandS.Head2
import HandS.HeadEnd
import HandS.HeadHook1
import HandS.HeadHook2
import HandS.MakeKw
import HandS.MakeKwOnly
import HandS.FStr
import HandS.Deep
import HandS.StrMore
import HandS.Steps
import PyProof.MeetsStr3
import PyProof.Rows.StrNews2
import PyProof.Rows.StrLast
import PyProof.Rows.StrCountLaw
import HandS.SetKeys
import HandS.Strs
import HandS.ExcInit
import HandS.ExcIs
import HandS.ExcField
import HandS.ExcCtx
import HandS.ClsMeth
import HandS.Nested
import KE.KExcSuper
import KE.KExcIs
import KE.KIsAll
import HandS.WordsExc
import PySem.Challenge.RW_trunkland_k07_replies_of_legs
set_option Elab.async false
set_option linter.all false
set_option maxRecDepth 100000
set_option maxHeartbeats 4000000
/-! Helpers of mine over the hand layer, the same for every law of this program. -/
namespace TK
open PySem PySem.Spec PyProof.Rows L2 C8 SX
section
variable {X : Cx} {x : Str} {pos p : Pos} {k j : Nat} {sp : Sp} {dvs : List V}
theorem pgI {i : Int} (h : ∃ t, X.mg x = some (.int i t)) (hg : Gl X x := by rfl) (hd : (x == ("__debug__" : Str)) = false := by decide) : PE X (.Name x pos) (tC (.int i)) := by
  obtain ⟨t, e⟩ := h
  exact pe_glob hg e ⟨t, rfl⟩ hd
theorem pgS {z : Str} (h : ∃ t, X.mg x = some (.str z t)) (hg : Gl X x := by rfl) (hd : (x == ("__debug__" : Str)) = false := by decide) : PE X (.Name x pos) (tC (.str z)) := by
  obtain ⟨t, e⟩ := h
  exact pe_glob hg e ⟨t, rfl⟩ hd
theorem pgR {a : Addr} (h : X.mg x = some (.ref a)) (hg : Gl X x := by rfl) (hd : (x == ("__debug__" : Str)) = false := by decide) : PE X (.Name x pos) (tC (.ref a)) := pe_glob hg h rfl hd
theorem pe_c0 (c : Cal X.prog X.w X.K X.mg X.base k x sp dvs) (hr : Room j X.A) (hk : k ≤ j) (hg : Gl X x) (hdb : (x == ("__debug__" : Str)) = false := by decide) :
    PE X (.Call (.Name x p) [] [] pos) (tCall sp dvs L2.E0 tNil) := by
  obtain ⟨f, fd, ps, ds, F, hm, kp, b, d⟩ := c.ex
  exact pe_call0 F (hr.mono hk) hg hm kp b d L2.pass0 hdb
end
section
variable {P : Program} {w : World} {K : PySem.W.Frag} {mg : Str → Option Value} {base : Heap}
/-- a def without defaults, as callers want it -/
theorem cal_of {x qual : Str} {params : Arguments} {body : List Stmt} {scope : Scope} {f : Addr} {fd : FuncData} {ps : List Str} {k : Nat} {sp : Sp} (F : FunD K x qual params body scope [] [] f fd) (G : FnOk P w K mg base L2.CX0 k f fd ps sp) (hm : mg x = some (.ref f))
    (h : ∀ (kV doc pm : Value) (an : Option Addr) (cdv ct : Value) (us : List Value), us.length = ps.length → bindArgs (PySem.W.fnOf x qual params body scope .none kV doc pm an cdv ct) ⟨us, []⟩ = pure (ps.zip us)) : Cal P w K mg base k x sp [] :=
  ⟨f, fd, ps, [], G, hm, F.kp, F.bindsN h, .nil⟩
end
/-! ### heaps -/
/-- all that was tracked is as it was, but what stands at two places -/
def Keep (H H' : Hp) (a c : Addr) : Prop := ∀ b o, H b = some o → b ≠ a → b ≠ c → H' b = some o
theorem Keep.refl (H : Hp) (a c : Addr) : Keep H H a c := fun _ _ h _ _ => h
theorem Keep.trans {H H1 H2 : Hp} {a c : Addr} (h : Keep H H1 a c) (k : Keep H1 H2 a c) : Keep H H2 a c := fun b o e h1 h2 => k b o (h b o e h1 h2) h1 h2
theorem Keep.of_same {H H' : Hp} {a c : Addr} (h : Same H H') : Keep H H' a c := fun b o e _ _ => h b o e
theorem same_upd {H : Hp} {p : Addr} {o : HO} (h : H p = none) : Same H (upd H p o) := fun b u e => by
  rw [upd_ne (ne_of_none e h)]
  exact e
/-- the law's source of draws: a list of a list of cells and a seed -/
structure StAt (H : Hp) (s c : Addr) : Prop where
  ne : s ≠ c
  at_ : ∃ n : Int, H s = some (.lst [.ref c, .int n])
  cells : ∃ ns : List Int, H c = some (.lst (ns.map V.int)) ∧ ns.length ≤ 63
theorem StAt.same {H H' : Hp} {s c : Addr} (h : StAt H s c) (e : Same H H') : StAt H' s c := by
  obtain ⟨ne, ⟨n, h1⟩, ns, h2, h3⟩ := h
  exact ⟨ne, ⟨n, e _ _ h1⟩, ns, e _ _ h2, h3⟩
end TK
namespace TK
open PySem PySem.Spec PyProof.Rows L2 C8 SX
/-! ### comprehensions whose elements leave the heap alone -/
theorem lc_pure {J : It} {n : Nat} {G : Hp → Prop} {Y : Nat → Hp → V → Hp → Prop} (w : Walk J n G Y) (f : Nat → V) {g : TG} {tt : TT} {te : TE} {vs : List Nat} {σ : L2.St} {H1 : Hp} {D : Addr} {Qd : Hp → Prop} (hn : n ≤ sizeLine)
    (hG : ∀ i, i ≤ n → G (upd H1 D (.lst ((List.range i).map f))))
    (hs : ∀ (i : Nat) (x : V) (H' : Hp) (k : V → Hp → Prop), i < n → Y i (upd H1 D (.lst ((List.range i).map f))) x H' → k (f i) (upd H1 D (.lst ((List.range i).map f))) →
      g x (wipe σ vs) H' fun σ2 H2 => wipe σ2 vs = wipe σ vs ∧ tt σ2 H2 fun b H3 => b = true ∧ te σ2 H3 k)
    (ht : ∀ σ H Q Q', (∀ b H', Q b H' → Q' b H') → tt σ H Q → tt σ H Q') (hg : ∀ x σ H Q Q', (∀ σ' H', Q σ' H' → Q' σ' H') → g x σ H Q → g x σ H Q')
    (hd : Qd (upd H1 D (.lst ((List.range n).map f)))) :
    ∃ W : Nat → Nat → Hp → Prop, (∃ m, W 0 m (upd H1 D (.lst []))) ∧ ∀ i m H, W i m H →
      (J.stop i H ∧ Qd H) ∨ (J.go i H ∧ ∃ Nx : Hp → Prop, (∀ H', Nx H' → ∃ m', m' < m ∧ W (i + 1) m' H') ∧ ∀ x H', J.yld i H x H' → g x (wipe σ vs) H' fun σ2 H2 => wipe σ2 vs = wipe σ vs ∧ tt σ2 H2 fun b H3 =>
        if b = true then te σ2 H3 fun y H4 => ∃ acc, H4 D = some (.lst acc) ∧ acc.length < sizeLine ∧ Nx (upd H4 D (.lst (acc ++ [y]))) else Nx H3) := by
  refine lc_it w (fun i H => H = upd H1 D (.lst ((List.range i).map f))) rfl (fun i H hi e => e ▸ hG i hi) (fun i x H H' hi e y => ?_) (fun H e => e ▸ hd)
  subst e
  refine hg _ _ _ _ _ (fun σ2 H2 q => ⟨q.1, ht _ _ _ _ (fun b H3 r => ?_) q.2⟩) (hs i x H' (fun y H4 => ∃ acc, H4 D = some (.lst acc) ∧ acc.length < sizeLine ∧ upd H4 D (.lst (acc ++ [y])) = upd H1 D (.lst ((List.range (i + 1)).map f))) hi y ⟨_, upd_same, ?_, ?_⟩)
  · rw [if_pos r.1]
    exact r.2
  · rw [List.length_map, List.length_range]
    omega
  · rw [upd_upd, List.range_succ, List.map_append]
    rfl
/-- the usual target and no test -/
theorem lc_pureN {J : It} {n : Nat} {G : Hp → Prop} {Y : Nat → Hp → V → Hp → Prop} (w : Walk J n G Y) (f : Nat → V) {j : Nat} {te : TE} {vs : List Nat} {σ : L2.St} {H1 : Hp} {D : Addr} {Qd : Hp → Prop} (hn : n ≤ sizeLine)
    (hG : ∀ i, i ≤ n → G (upd H1 D (.lst ((List.range i).map f))))
    (hs : ∀ (i : Nat) (x : V) (H' : Hp) (k : V → Hp → Prop), i < n → Y i (upd H1 D (.lst ((List.range i).map f))) x H' → k (f i) (upd H1 D (.lst ((List.range i).map f))) →
      wipe ((wipe σ vs).set j (some x)) vs = wipe σ vs ∧ te ((wipe σ vs).set j (some x)) H' k)
    (hd : Qd (upd H1 D (.lst ((List.range n).map f)))) :
    ∃ W : Nat → Nat → Hp → Prop, (∃ m, W 0 m (upd H1 D (.lst []))) ∧ ∀ i m H, W i m H →
      (J.stop i H ∧ Qd H) ∨ (J.go i H ∧ ∃ Nx : Hp → Prop, (∀ H', Nx H' → ∃ m', m' < m ∧ W (i + 1) m' H') ∧ ∀ x H', J.yld i H x H' → gName j x (wipe σ vs) H' fun σ2 H2 => wipe σ2 vs = wipe σ vs ∧ tYes σ2 H2 fun b H3 =>
        if b = true then te σ2 H3 fun y H4 => ∃ acc, H4 D = some (.lst acc) ∧ acc.length < sizeLine ∧ Nx (upd H4 D (.lst (acc ++ [y]))) else Nx H3) :=
  lc_pure w f hn hG (fun i x H' k hi y q => ⟨(hs i x H' k hi y q).1, rfl, (hs i x H' k hi y q).2⟩) (fun _ _ _ _ h q => h _ _ q) (fun _ _ _ _ _ h q => h _ _ q) hd
theorem size_tl (z : Str) : z.cps.size = (TL.tl z).length := by simp [TL.tl]
theorem len_eq (z : Str) : z.length = (TL.tl z).length := TL.len_tl z
theorem range_map_getD {α β : Type} (l : List α) (d : α) (f : α → β) : (List.range l.length).map (fun i => f (l.getD i d)) = l.map f := by
  apply List.ext_getElem
  · simp
  · intro i h1 h2
    simp at h1
    simp [h1]
end TK
namespace TK
open PySem PySem.Spec PyProof.Rows L2 SX
theorem ef {b : Bool} (h : ¬ b = true) : b = false := Bool.eq_false_iff.mpr h
/-! ### places in texts -/
theorem at0 {α : Type} {l : List α} (d : α) (h : 0 < l.length) : atI l 0 = some (l.getD 0 d) := by
  cases l with
  | nil => exact absurd h (Nat.lt_irrefl 0)
  | cons a r =>
    show ((if (0 : Int) ≤ 0 then (if (0 : Int) < ((a :: r).length : Nat) then some (0 : Int).toNat else none) else _) : Option Nat).bind _ = _
    rw [if_pos (Int.le_refl 0), if_pos (by rw [List.length_cons]; omega)]
    rfl
theorem atN {α : Type} {l : List α} {i : Int} (d : α) (h0 : 0 ≤ i) (h : i < l.length) : atI l i = some (l.getD i.toNat d) := by
  show ((if (0 : Int) ≤ i then (if i < (l.length : Nat) then some i.toNat else none) else _) : Option Nat).bind _ = _
  rw [if_pos h0, if_pos h]
  show l[i.toNat]? = _
  rw [List.getD_eq_getElem?_getD, List.getElem?_eq_getElem (by omega)]
  rfl
theorem atC {α : Type} (a : α) (r : List α) : atI (a :: r) 0 = some a := at0 a (by simp)
theorem ixP {n : Nat} {i : Int} (h0 : 0 ≤ i) (h : i < n) : ixN n i = some i.toNat := by
  unfold ixN
  rw [if_pos h0, if_pos h]
theorem sqP {n : Nat} {i : Int} (h0 : 0 ≤ i) (h : i < n) : seqIndex? i n = some i.toNat := (ixN_seq (ixP h0 h)).1
theorem ixC {α : Type} (a : α) (r : List α) : ixN (a :: r).length 0 = some 0 := ixP (by decide) (by rw [List.length_cons]; omega)
theorem sqC {α : Type} (a : α) (r : List α) : seqIndex? 0 (a :: r).length = some 0 := sqP (by decide) (by rw [List.length_cons]; omega)
/-- the first place of a sign -/
theorem occ_first1 {l : List Nat} {c : Nat} (h : c ∈ l) : ∃ rest, Builtin.Str.occurrences (S l) (S [c]) 0 (S l).length 1 = l.idxOf c :: rest := by
  have at_iff : ∀ i, StrLaws.At (S l) (S [c]) (S l).length i ↔ l[i]? = some c := by
    intro i
    have e := TL.at_iff (x := S l) (y := S [c]) (by show [c] ≠ []; simp) i
    refine e.trans ?_
    show (((l.drop i).take 1 == [c]) = true) ↔ _
    rw [beq_iff_eq]
    constructor
    · intro q
      cases e2 : l.drop i with
      | nil =>
        rw [e2] at q
        cases q
      | cons a r =>
        rw [e2] at q
        have e3 : a = c := by
          simpa using q
        rw [← e3]
        have e4 : (l.drop i)[0]? = some a := by rw [e2]; rfl
        rw [List.getElem?_drop] at e4
        exact e4
    · intro q
      have hi : i < l.length := (List.getElem?_eq_some_iff.mp q).1
      rw [List.drop_eq_getElem_cons hi]
      have e3 : l[i] = c := (List.getElem?_eq_some_iff.mp q).2
      rw [e3]
      rfl
  rcases StrLaws.occ_head (S l) (S [c]) 1 (Nat.le_refl 1) with ⟨_, hn⟩ | ⟨i, r, e, ha, hn⟩
  · obtain ⟨i, hi, e⟩ := List.mem_iff_getElem.mp h
    exact absurd ((at_iff i).mpr (by rw [List.getElem?_eq_getElem hi, e])) (hn i)
  · refine ⟨r, ?_⟩
    rw [e]
    congr 1
    have h1 := (at_iff i).mp ha
    have hi : i < l.length := (List.getElem?_eq_some_iff.mp h1).1
    have e1 : l[i] = c := (List.getElem?_eq_some_iff.mp h1).2
    have hj : l.idxOf c < l.length := List.idxOf_lt_length_iff.mpr h
    have e2 : l[l.idxOf c] = c := List.getElem_idxOf hj
    rcases Nat.lt_trichotomy i (l.idxOf c) with z | z | z
    · exfalso
      have := List.not_of_lt_findIdx (p := (· == c)) (xs := l) (i := i) z
      simp [e1] at this
    · exact z
    · exfalso
      exact hn _ z ((at_iff _).mpr (by rw [List.getElem?_eq_getElem hj, e2]))
/-- a list cut at the first sign c -/
theorem cut_first {l : List Nat} {c : Nat} (h : c ∈ l) : l = l.take (l.idxOf c) ++ c :: l.drop (l.idxOf c + 1) ∧ c ∉ l.take (l.idxOf c) := by
  have hj : l.idxOf c < l.length := List.idxOf_lt_length_iff.mpr h
  refine ⟨?_, ?_⟩
  · have e2 : l[l.idxOf c] = c := List.getElem_idxOf hj
    have e3 := List.drop_eq_getElem_cons hj
    rw [e2] at e3
    rw [← e3, List.take_append_drop]
  · intro hm
    obtain ⟨i, hi, e⟩ := List.mem_iff_getElem.mp hm
    rw [List.length_take] at hi
    have hi1 : i < l.idxOf c := by omega
    have := List.not_of_lt_findIdx (p := (· == c)) (xs := l) (i := i) hi1
    rw [List.getElem_take] at e
    simp [e] at this
theorem cut_unique {a b a' b' : List Nat} {c : Nat} (h : a ++ c :: b = a' ++ c :: b') (ha : c ∉ a) (ha' : c ∉ a') : a = a' ∧ b = b' := by
  induction a generalizing a' with
  | nil =>
    cases a' with
    | nil => exact ⟨rfl, by simpa using h⟩
    | cons d r =>
      have e : c = d := by simpa using (List.cons.inj h).1
      exact absurd (List.mem_cons.mpr (.inl e)) ha'
  | cons d r ih =>
    cases a' with
    | nil =>
      have e : d = c := by simpa using (List.cons.inj h).1
      exact absurd (List.mem_cons.mpr (.inl e.symm)) ha
    | cons d' r' =>
      obtain ⟨e1, e2⟩ := List.cons.inj h
      obtain ⟨e3, e4⟩ := ih e2 (fun z => ha (List.mem_cons_of_mem _ z)) (fun z => ha' (List.mem_cons_of_mem _ z))
      exact ⟨by rw [e1, e3], e4⟩
end TK
namespace TK
open PySem PySem.Spec PyProof.Rows L2 SX
theorem Keep.upd {H H' : Hp} {s c D : Addr} {o : HO} (k : Keep H H' s c) (hD : H D = none) : Keep H (upd H' D o) s c := fun b u e h1 h2 => by
  rw [upd_ne (ne_of_none e hD)]
  exact k b u e h1 h2
theorem StAt.upd {H : Hp} {s c D : Addr} {o : HO} (h : StAt H s c) (h1 : D ≠ s) (h2 : D ≠ c) : StAt (upd H D o) s c := by
  obtain ⟨ne, ⟨n, a⟩, ns, b, l⟩ := h
  exact ⟨ne, ⟨n, by rw [upd_ne h1.symm]; exact a⟩, ns, by rw [upd_ne h2.symm]; exact b, l⟩
theorem StAt.tracked {H : Hp} {s c D : Addr} (h : StAt H s c) (hD : H D = none) : D ≠ s ∧ D ≠ c := by
  obtain ⟨ne, ⟨n, a⟩, ns, b, l⟩ := h
  exact ⟨fun e => (by rw [e, a] at hD; cases hD), fun e => (by rw [e, b] at hD; cases hD)⟩
theorem Keep.none {H H' : Hp} {s c b : Addr} (k : Keep H H' s c) (h : H' b = Option.none) (h1 : b ≠ s) (h2 : b ≠ c) : H b = Option.none := by
  cases e : H b with
  | none => rfl
  | some o =>
    rw [k b o e h1 h2] at h
    cases h
theorem joinL_nil : ∀ l : List (List Nat), TL.joinL [] l = l.flatten
  | [] => rfl
  | [p] => by simp [TL.joinL]
  | p :: q :: r => by
    show p ++ ([] ++ TL.joinL [] (q :: r)) = _
    rw [joinL_nil (q :: r)]
    rfl
/-- texts of one sign, joined -/
theorem join_ones {ys : List Str} (h : ∀ z ∈ ys, z.length = 1) : (Txt.join "" ys).length = ys.length := by
  have e : (Txt.join ("" : Str) ys) = Str.join "" ys := TL.join_eq "" ys
  rw [e, len_eq, TL.tl_join, show TL.tl ("" : Str) = [] by decide +kernel, joinL_nil]
  induction ys with
  | nil => rfl
  | cons a r ih =>
    have h1 := h a (List.mem_cons_self ..)
    rw [len_eq] at h1
    rw [List.map_cons, List.flatten_cons, List.length_append, ih (fun z hz => h z (List.mem_cons_of_mem _ hz)) (TL.join_eq "" r), List.length_cons, h1]
    omega
theorem sum_ones {ys : List Str} (h : ∀ z ∈ ys, z.length = 1) : (ys.map (·.length)).sum = ys.length := by
  induction ys with
  | nil => rfl
  | cons a r ih =>
    rw [List.map_cons, List.sum_cons, ih (fun z hz => h z (List.mem_cons_of_mem _ hz)), h a (List.mem_cons_self ..), List.length_cons]
    omega
theorem cat_len (a b : Str) : (a ++ b).length = a.length + b.length := by
  rw [len_eq, TL.tl_append, List.length_append, ← len_eq, ← len_eq]
end TK
namespace TK
open PySem PySem.Spec PyProof.Rows L2 SX
/-- lc_it with a plain name as target and no test -/
theorem lc_itN {J : It} {n : Nat} {G : Hp → Prop} {Y : Nat → Hp → V → Hp → Prop} (w : Walk J n G Y) {j : Nat} {te : TE} {vs : List Nat} {σ : L2.St} {H1 : Hp} {D : Addr} {Qd : Hp → Prop} (Pv : Nat → Hp → Prop) (h0 : Pv 0 (upd H1 D (.lst []))) (hG : ∀ i H, i ≤ n → Pv i H → G H)
    (hs : ∀ i x H H', i < n → Pv i H → Y i H x H' → wipe ((wipe σ vs).set j (some x)) vs = wipe σ vs ∧ te ((wipe σ vs).set j (some x)) H' fun y H4 => ∃ acc, H4 D = some (.lst acc) ∧ acc.length < sizeLine ∧ Pv (i + 1) (upd H4 D (.lst (acc ++ [y])))) (hd : ∀ H, Pv n H → Qd H) :
    ∃ W : Nat → Nat → Hp → Prop, (∃ m, W 0 m (upd H1 D (.lst []))) ∧ ∀ i m H, W i m H →
      (J.stop i H ∧ Qd H) ∨ (J.go i H ∧ ∃ Nx : Hp → Prop, (∀ H', Nx H' → ∃ m', m' < m ∧ W (i + 1) m' H') ∧ ∀ x H', J.yld i H x H' → gName j x (wipe σ vs) H' fun σ2 H2 => wipe σ2 vs = wipe σ vs ∧ tYes σ2 H2 fun b H3 =>
        if b = true then te σ2 H3 fun y H4 => ∃ acc, H4 D = some (.lst acc) ∧ acc.length < sizeLine ∧ Nx (upd H4 D (.lst (acc ++ [y]))) else Nx H3) :=
  lc_it w Pv h0 hG (fun i x H H' hi p y => ⟨(hs i x H H' hi p y).1, (hs i x H H' hi p y).2⟩) hd
end TK
namespace TK
open PySem PySem.Spec PyProof.Rows L2 SX
theorem slTo (z : Str) {i : Int} (h : 0 ≤ i) : Txt.slice z none (some i) = S ((TL.tl z).take i.toNat) := slice_to (a := TL.tl z) h
theorem slFrom (z : Str) {i : Int} (h : 0 ≤ i) : Txt.slice z (some i) none = S ((TL.tl z).drop i.toNat) := slice_from (a := TL.tl z) h
theorem log_small {i : Int} (h : i.natAbs < 2 ^ 1900) : i.natAbs.log2 < 1920 := by
  by_cases h0 : i.natAbs = 0
  · rw [h0]
    decide
  · exact (Nat.log2_lt h0).mpr (Nat.lt_of_lt_of_le h (Nat.pow_le_pow_right (by decide) (by decide)))
end TK
namespace TK
open PySem PySem.Spec PyProof.Rows L2 SX
/-! ### comprehensions with a test, the heap left alone -/
theorem lc_filt {J : It} {n : Nat} {G : Hp → Prop} {Y : Nat → Hp → V → Hp → Prop} (w : Walk J n G Y) (f : Nat → V) (b : Nat → Bool) {j : Nat} {tt : TT} {te : TE} {vs : List Nat} {σ : L2.St} {H1 : Hp} {D : Addr} {Qd : Hp → Prop} (hn : n ≤ sizeLine)
    (hG : ∀ i, i ≤ n → G (upd H1 D (.lst (((List.range i).filter b).map f))))
    (ht : ∀ (i : Nat) (x : V) (H' : Hp) (k : Bool → Hp → Prop), i < n → Y i (upd H1 D (.lst (((List.range i).filter b).map f))) x H' → k (b i) (upd H1 D (.lst (((List.range i).filter b).map f))) →
      wipe ((wipe σ vs).set j (some x)) vs = wipe σ vs ∧ tt ((wipe σ vs).set j (some x)) H' k)
    (he : ∀ (i : Nat) (x : V) (H' : Hp) (k : V → Hp → Prop), i < n → b i = true → Y i (upd H1 D (.lst (((List.range i).filter b).map f))) x H' → k (f i) (upd H1 D (.lst (((List.range i).filter b).map f))) →
      te ((wipe σ vs).set j (some x)) (upd H1 D (.lst (((List.range i).filter b).map f))) k)
    (hd : Qd (upd H1 D (.lst (((List.range n).filter b).map f)))) :
    ∃ W : Nat → Nat → Hp → Prop, (∃ m, W 0 m (upd H1 D (.lst []))) ∧ ∀ i m H, W i m H →
      (J.stop i H ∧ Qd H) ∨ (J.go i H ∧ ∃ Nx : Hp → Prop, (∀ H', Nx H' → ∃ m', m' < m ∧ W (i + 1) m' H') ∧ ∀ x H', J.yld i H x H' → gName j x (wipe σ vs) H' fun σ2 H2 => wipe σ2 vs = wipe σ vs ∧ tt σ2 H2 fun b H3 =>
        if b = true then te σ2 H3 fun y H4 => ∃ acc, H4 D = some (.lst acc) ∧ acc.length < sizeLine ∧ Nx (upd H4 D (.lst (acc ++ [y]))) else Nx H3) := by
  refine lc_it w (fun i H => H = upd H1 D (.lst (((List.range i).filter b).map f))) rfl (fun i H hi e => e ▸ hG i hi) (fun i x H H' hi e y => ?_) (fun H e => e ▸ hd)
  subst e
  refine ht i x H' _ hi y ?_
  cases hb : b i with
  | true =>
    refine iteT (he i x H' _ hi hb y ⟨_, upd_same, ?_, ?_⟩)
    · rw [List.length_map]
      exact Nat.lt_of_le_of_lt (List.length_filter_le _ _) (by rw [List.length_range]; omega)
    · rw [upd_upd, List.range_succ, List.filter_append, List.map_append, List.filter_cons_of_pos hb]
      rfl
  | false =>
    refine iteF ?_
    rw [List.range_succ, List.filter_append, List.filter_cons_of_neg (by rw [hb]; exact Bool.false_ne_true), List.filter_nil, List.append_nil]
theorem range_filter_getD {α β : Type} (l : List α) (d : α) (p : α → Bool) (f : α → β) : ((List.range l.length).filter (fun i => p (l.getD i d))).map (fun i => f (l.getD i d)) = (l.filter p).map f := by
  have e := range_map_getD l d (fun x => x)
  rw [List.map_id'] at e
  have h : (l.filter p).map f = (((List.range l.length).map (fun i => l.getD i d)).filter p).map f := by rw [e]
  rw [h, List.filter_map, List.map_map]
  rfl
theorem getD_at {α : Type} {l : List α} {i : Nat} {x : α} (d : α) (h : l[i]? = some x) : l.getD i d = x := by
  rw [List.getD_eq_getElem?_getD, h]
  rfl
/-! ### heads with tables -/
def obsX (n : Nat) (fa : List He.Fa) (fn : List He.DefD) (ex : PySem.W.Frag → List Bool) (g : Addr → Option Obj) : He.AlD :=
  ((He.obsD fa fn (He.frG g (He.asD g n))).1 && (ex (He.frG g (He.asD g n))).all id, (He.obsD fa fn (He.frG g (He.asD g n))).2)
def hookX (n : Nat) (fa : List He.Fa) (fn : List He.DefD) (ex : PySem.W.Frag → List Bool) : PySem.W.Hook where
  α := He.AlD
  obs s := obsX n fa fn ex s.heap.get?
  val _ := He.valD fn
  says _ h := ∃ K : PySem.W.Frag, K.In h ∧ He.SaysD fa fn K ∧ (ex K).all id = true
  of _ _ e := by
    have e1 := congrArg (fun z : He.AlD => z.1) e
    have e2 := congrArg (fun z : He.AlD => z.2) e
    obtain ⟨a, b⟩ := Bool.and_eq_true_iff.mp e1
    exact ⟨_, He.frG_in, Prod.ext a e2, b⟩
  keeps _ _ _ c k := let ⟨K, hK, c1, c2⟩ := c; ⟨K, PySem.W.Frag.In.keeps hK k, c1, c2⟩
theorem obsX_eq {n : Nat} {fa : List He.Fa} {fn : List He.DefD} {ex : PySem.W.Frag → List Bool} {g : Addr → Option Obj} {s : Shared} (h : ∀ a, g a = s.heap.get? a) : obsX n fa fn ex g = (hookX n fa fn ex).obs s := by
  obtain rfl : g = s.heap.get? := funext h
  rfl
theorem exAt {l : List Bool} (h : l.all id = true) (i : Nat) {b : Bool} (e : l[i]? = some b) : b = true := List.all_eq_true.mp h b (List.mem_of_getElem? e)
end TK
namespace TK
open PySem PySem.Spec PyProof.Rows L2 SX
/-! ### rules that name the written part, for use within a comprehension -/
section
variable {X : Cx}
theorem inSeqK (K : PySem.W.Frag) (e : X.K = K) : OpR X (compareOp .In) (rIn K false) := by
  subst e
  exact op_in_seq
theorem notInSeqK (K : PySem.W.Frag) (e : X.K = K) : OpR X (compareOp .NotIn) (rIn K true) := by
  subst e
  exact op_notIn_seq
theorem ixListK (K : PySem.W.Frag) (e : X.K = K) : IxR X (rIxL K) := by
  subst e
  exact ix_list
theorem ixTupK (K : PySem.W.Frag) (e : X.K = K) : IxR X (rIxT K) := by
  subst e
  exact ix_tup
theorem isiK (K : PySem.W.Frag) (e : X.K = K) : CallR X (.builtin "isinstance") (rIsi K) := by
  subst e
  exact call_isi
end
end TK
set_option maxHeartbeats 4000000
namespace TK
open PySem PySem.Spec PyProof.Rows L2 SX
theorem same_upd2 {H H' : Hp} {D : Addr} {o : HO} (s : Same H H') (hD : H D = none) : Same H (upd H' D o) := fun b u e => by
  rw [upd_ne (ne_of_none e hD)]
  exact s b u e
theorem joinL_len (y : List Nat) : ∀ l : List (List Nat), (TL.joinL y l).length ≤ (l.map (·.length)).sum + l.length * y.length
  | [] => by simp [TL.joinL]
  | [p] => by simp [TL.joinL]
  | p :: q :: r => by
    have ih := joinL_len y (q :: r)
    show (p ++ (y ++ TL.joinL y (q :: r))).length ≤ _
    rw [List.length_append, List.length_append, List.map_cons, List.sum_cons, List.length_cons (a := p), Nat.succ_mul]
    omega
theorem join_len (y : Str) (ys : List Str) : (Txt.join y ys).length ≤ (ys.map (·.length)).sum + ys.length * y.length := by
  rw [show Txt.join y ys = Str.join y ys from TL.join_eq y ys, len_eq, TL.tl_join]
  have q := joinL_len (TL.tl y) (ys.map TL.tl)
  rw [List.length_map, List.map_map] at q
  have e : (ys.map (fun x : Str => x.length)) = ys.map ((fun x : List Nat => x.length) ∘ TL.tl) := List.map_congr_left fun x _ => len_eq x
  rw [e, len_eq y]
  exact q
theorem sum_le {m : Nat} : ∀ {ys : List Str}, (∀ z ∈ ys, z.length ≤ m) → (ys.map (·.length)).sum ≤ ys.length * m
  | [], _ => Nat.zero_le _
  | a :: r, h => by
    have ih := sum_le (ys := r) fun z hz => h z (List.mem_cons_of_mem _ hz)
    have h1 := h a (List.mem_cons_self ..)
    rw [List.map_cons, List.sum_cons, List.length_cons, Nat.succ_mul]
    omega
theorem nodup_inr : ∀ ys : List Str, (ys.map (Sum.inr : Str → Key)).Nodup ↔ ys.Nodup
  | [] => by simp
  | a :: r => by
    rw [List.map_cons, List.nodup_cons, List.nodup_cons, nodup_inr r, List.mem_map]
    constructor
    · intro q
      exact ⟨fun m => q.1 ⟨a, m, rfl⟩, q.2⟩
    · intro q
      exact ⟨fun ⟨b, m, e⟩ => q.1 (Sum.inr.inj e ▸ m), q.2⟩
theorem key_strs (ys : List Str) : (ys.map (Sum.inr : Str → Key)).map kV = ys.map V.str := by
  rw [List.map_map]
  rfl
/-- the parts of a text are no longer than the text -/
theorem part_len {z y p : Str} (h : p ∈ Txt.split z y) : p.length ≤ z.length := by
  have j := StrLaws.join_split z y
  have sub : ∀ (l : List (List Nat)) (s : List Nat), ∀ x ∈ l, x.length ≤ (TL.joinL s l).length := by
    intro l s
    induction l with
    | nil => exact fun x hx => nomatch hx
    | cons a r ih =>
      intro x hx
      cases r with
      | nil =>
        rw [List.mem_singleton.mp hx]
        exact Nat.le_refl _
      | cons b r =>
        show x.length ≤ (a ++ (s ++ TL.joinL s (b :: r))).length
        rw [List.length_append, List.length_append]
        rcases List.mem_cons.mp hx with q | q
        · rw [q]
          omega
        · have := ih x q
          omega
  have q := sub ((Txt.split z y).map TL.tl) (TL.tl y) (TL.tl p) (List.mem_map.mpr ⟨p, h, rfl⟩)
  rw [← TL.tl_join, j] at q
  rw [len_eq, len_eq]
  exact q
end TK
namespace TK
open PySem PySem.Spec PyProof.Rows L2 SX
/-! ### a word between an expression and what follows -/
def tCutE (t : TE) : TE := fun σ H Q => ∃ Mid : VK, t σ H Mid ∧ ∀ v H', Mid v H' → Q v H'
def tCutT (t : TT) : TT := fun σ H Q => ∃ Mid : Bool → Hp → Prop, t σ H Mid ∧ ∀ b H', Mid b H' → Q b H'
section
variable {X : Cx} {e : Expr}
theorem pe_cut {t : TE} (h : PE X e t) : PE X e (tCutE t) := ⟨fun pins s σ H _ I ⟨Mid, hm, hq⟩ => thn (h.run pins s σ H Mid I hm) fun _ _ ⟨v, H', I', r, q⟩ => ⟨v, H', I', r, hq v H' q⟩⟩
theorem pt_cut {t : TT} (h : PT X e t) : PT X e (tCutT t) := ⟨fun pins s σ H _ I ⟨Mid, hm, hq⟩ => thn (h.run pins s σ H Mid I hm) fun b _ ⟨H', I', q⟩ => ⟨H', I', hq b H' q⟩⟩
end
end TK
set_option maxHeartbeats 4000000
/-! Own classes: rules that name the class, makers and methods by their promises. -/
namespace TK
open PySem PySem.Spec PyProof.Rows L2 SX
def tFldC (C : Addr) (ta : TE) (f : Str) : TE := fun σ H Q => ta σ H fun x H1 => ∃ a dx fs v, x = .ref a ∧ H1 a = some (.ins C dx fs) ∧ fs.lookup f = some v ∧ Q v H1
def sFldC (C : Addr) (ta tv : TE) (f : Str) : TS := fun D σ H => tv σ H fun y H1 => ta σ H1 fun x H2 => ∃ a dx fs, x = .ref a ∧ H2 a = some (.ins C dx fs) ∧ fs.length < 1000 ∧ D.nx σ (upd H2 a (.ins C dx (putF f y fs)))
section
variable {X : Cx} {K : PySem.W.Frag} {C : Addr} {e o value : Expr} {f : Str} {pos pos' : Pos} {ta tv : TE}
theorem pe_fldC (eK : X.K = K) (c : Cls K C) (n : NoAttr K C f) (he : PE X e ta) (hb : attributeBase e f X.env (eval e X.env) = eval e X.env) : PE X (.Attribute e f pos) (tFldC C ta f) := by
  subst eK
  exact ⟨fun pins s σ H Q I h => (pe_fld (pe_cut he) hb).run pins s σ H Q I ⟨_, h, fun v H' ⟨a, dx, fs, w, e1, e2, e3, q⟩ => ⟨a, C, dx, fs, w, e1, e2, c, n, e3, q⟩⟩⟩
theorem ps_fldC (eK : X.K = K) (c : Cls K C) (n : NoAttr K C f) (ha : PE X o ta) (hv : PE X value tv) (hs : swapsWith value (some (.Attribute o f pos')) pos.line X.env = pure false) : PS X (.Assign [.Attribute o f pos'] value pos) (sFldC C ta tv f) := by
  subst eK
  exact ⟨fun pins s σ H D I h => (ps_fld (pe_cut ha) (pe_cut hv) hs).run pins s σ H D I ⟨_, h, fun v H' h2 => ⟨_, h2, fun x H2 ⟨a, dx, fs, e1, e2, e3, q⟩ => ⟨a, C, dx, fs, e1, e2, c, n, e3, q⟩⟩⟩⟩
end
/-! ### few attributes -/
class SmallF (fs : List (Str × V)) (n : outParam Nat) : Prop where
  le : fs.length ≤ n
instance : SmallF [] 0 := ⟨Nat.le_refl _⟩
instance {x : Str × V} {l : List (Str × V)} {n : Nat} [h : SmallF l n] : SmallF (x :: l) (n + 1) := ⟨Nat.succ_le_succ h.le⟩
theorem putF_len {f : Str} {v : V} : ∀ fs : List (Str × V), (putF f v fs).length ≤ fs.length + 1
  | [] => Nat.le_refl _
  | (g, x) :: r => by
    show (if g = f then (g, v) :: r else (g, x) :: putF f v r).length ≤ _
    by_cases h : g = f
    · rw [if_pos h]
      exact Nat.le_succ _
    · rw [if_neg h]
      exact Nat.succ_le_succ (putF_len r)
instance {f : Str} {v : V} {l : List (Str × V)} {n : Nat} [h : SmallF l n] : SmallF (putF f v l) (n + 1) := ⟨Nat.le_trans (putF_len l) (Nat.succ_le_succ h.le)⟩
theorem sm {fs : List (Str × V)} {n : Nat} [h : SmallF fs n] (hn : n < 1000 := by decide) : fs.length < 1000 := Nat.lt_of_le_of_lt h.le hn
/-! ### makers -/
section
variable {P : Program} {w : World} {K : PySem.W.Frag} {mg : Str → Option Value} {base : Heap}
structure MakK (P : Program) (w : World) (K : PySem.W.Frag) (mg : Str → Option Value) (base : Heap) (k : Nat) (x : Str) (C : Addr) (sp : Sp) (n : Nat) (ks : List Str) (gV : List V → List V → List V) : Prop where
  ex : ∃ (f : Addr) (fd : FuncData) (ps : List Str) (g : List Value → List Value → List Value), Mk K C f ∧ FnOk P w K mg base L2.CX0 k f fd ps sp ∧ mg x = some (.ref C) ∧ KBn K fd ps (n + 1) ks g gV
theorem mak_of {C : Addr} {x n qual : Str} {params : Arguments} {body : List Stmt} {scope : Scope} {f : Addr} {fd : FuncData} {ps : List Str} {k : Nat} {sp : Sp} (M : Mk K C f) (hm : mg x = some (.ref C)) (F : FunD K n qual params body scope [] [] f fd) (G : FnOk P w K mg base L2.CX0 k f fd ps sp)
    (h : ∀ (kV doc pm : Value) (an : Option Addr) (cdv ct : Value) (us : List Value), us.length = ps.length → bindArgs (PySem.W.fnOf n qual params body scope .none kV doc pm an cdv ct) ⟨us, []⟩ = pure (ps.zip us)) : C8.Mak P w K mg base k x C sp [] :=
  ⟨f, fd, ps, [], M, G, hm, F.bindsN h, .nil⟩
theorem met_of {C : Addr} {n qual : Str} {params : Arguments} {body : List Stmt} {scope : Scope} {f : Addr} {fd : FuncData} {ps : List Str} {k : Nat} {sp : Sp} (c : Cls K C) (m : Meth K C n f) (F : FunD K n qual params body scope [] [] f fd) (G : FnOk P w K mg base L2.CX0 k f fd ps sp)
    (h : ∀ (kV doc pm : Value) (an : Option Addr) (cdv ct : Value) (us : List Value), us.length = ps.length → bindArgs (PySem.W.fnOf n qual params body scope .none kV doc pm an cdv ct) ⟨us, []⟩ = pure (ps.zip us)) : C8.Met P w K mg base k C n sp [] :=
  ⟨f, fd, ps, [], c, m, G, F.bindsN h, .nil⟩
theorem metD_of {C : Addr} {n qual : Str} {params : Arguments} {body : List Stmt} {scope : Scope} {dvs : List V} {f : Addr} {fd : FuncData} {ps : List Str} {k : Nat} {sp : Sp} (c : Cls K C) (m : Meth K C n f) (F : FunD K n qual params body scope dvs [] f fd) (G : FnOk P w K mg base L2.CX0 k f fd ps sp) (hd : dvs ≠ []) (hn : dvs.length ≤ ps.length)
    (h : ∀ (T : Addr) (kV doc pm : Value) (an : Option Addr) (cdv ct : Value) (us its : List Value), us.length = ps.length - dvs.length → its.length = dvs.length →
      ∃ k, bindArgs (PySem.W.fnOf n qual params body scope (.ref T) kV doc pm an cdv ct) ⟨us, []⟩ = seqItems? (.ref T) >>= k ∧ k (some its.toArray) = pure (ps.zip (us ++ its.drop 0))) : C8.Met P w K mg base k C n sp dvs := by
  obtain ⟨ds, h1, h2⟩ := F.binds1 (ps := ps) (ps.length - dvs.length) 0 hd (by omega) h
  exact ⟨f, fd, ps, ds, c, m, G, h2, by simpa using h1⟩
end
section
variable {X : Cx} {k j n : Nat} {C : Addr} {x : Str} {sp : Sp} {p pos : Pos} {e : Expr} {es : List Expr} {kws : List Keyword} {ks : List Str} {t tk : TA} {gV : List V → List V → List V}
theorem pe_mk0 {dvs : List V} (c : C8.Mak X.prog X.w X.K X.mg X.base k x C sp dvs) (hr : Room j X.A) (hk : k + 1 ≤ j) (hg : Gl X x) (hdb : (x == ("__debug__" : Str)) = false := by decide) : PE X (.Call (.Name x p) [] [] pos) (tMake C sp dvs L2.E0 tNil) := by
  obtain ⟨f, fd, ps, ds, M, F, hm, b, d⟩ := c.ex
  exact pe_make0 M F (hr.mono hk) hg hm b d L2.pass0 hdb
theorem pe_mkK0 (c : MakK X.prog X.w X.K X.mg X.base k x C sp 0 ks gV) (hr : Room j X.A) (hk : k + 1 ≤ j) (hg : Gl X x) (hkw : PK X kws tk)
    (hall : (backToKw pos (keywordEach kws X.env)).all (·.1.isSome) = true := by rfl) (hks : (backToKw pos (keywordEach kws X.env)).filterMap (·.1) = ks := by rfl) (hdb : (x == ("__debug__" : Str)) = false := by decide)
    (hpl : ((backTo pos (starEach [] X.env)).any (·.1) || (backToKw pos (keywordEach kws X.env)).any (·.1.isNone)) = false := by rfl) :
    PE X (.Call (.Name x p) [] kws pos) (tMakeK C 0 ks.length sp gV L2.E0 tNil tk) := by
  obtain ⟨f, fd, ps, g, M, F, hm, b⟩ := c.ex
  exact pe_makeK0 M F (hr.mono hk) hg hm b L2.pass0 hkw hall hks hdb hpl
end
/-! ### new objects -/
theorem same_own {H : Hp} {x dx C : Addr} {fs : List (Str × V)} (hx : H x = none) (hd : H dx = none) : Same H (upd (upd H dx (.own x)) x (.ins C dx fs)) := fun b o e => by
  rw [upd_ne (ne_of_none e hx), upd_ne (ne_of_none e hd)]
  exact e
theorem Same.upd_of {H H' : Hp} {a : Addr} {o : HO} (s : Same H H') (h : H a = none) : Same H (upd H' a o) := fun b u e => by
  rw [upd_ne (ne_of_none e h)]
  exact s b u e
/-! ### texts that can be laid -/
theorem ok_iff {z : Str} : PyData.strOk z = true ↔ ∀ c ∈ TL.tl z, c < 0x110000 := by
  unfold PyData.strOk TL.tl
  rw [Array.all_eq_true']
  constructor
  · intro h c hc
    simpa using h c (by simpa using hc)
  · intro h c hc
    simpa using h c (by simpa using hc)
theorem ok_cat {a b : Str} (ha : PyData.strOk a = true) (hb : PyData.strOk b = true) : PyData.strOk (a ++ b) = true := by
  rw [ok_iff] at *
  intro c hc
  rw [TL.tl_append, List.mem_append] at hc
  exact hc.elim (ha c) (hb c)
theorem joinL_mem {s : List Nat} {c : Nat} : ∀ l : List (List Nat), c ∈ TL.joinL s l → c ∈ s ∨ ∃ p ∈ l, c ∈ p
  | [], h => by simp [TL.joinL] at h
  | [p], h => .inr ⟨p, List.mem_singleton.mpr rfl, by simpa [TL.joinL] using h⟩
  | p :: q :: r, h => by
    have h2 : c ∈ p ++ (s ++ TL.joinL s (q :: r)) := h
    rw [List.mem_append, List.mem_append] at h2
    rcases h2 with h2 | h2 | h2
    · exact .inr ⟨p, List.mem_cons_self .., h2⟩
    · exact .inl h2
    · rcases joinL_mem (q :: r) h2 with h3 | ⟨x, h3, h4⟩
      · exact .inl h3
      · exact .inr ⟨x, List.mem_cons_of_mem _ h3, h4⟩
theorem ok_join {y : Str} {l : List Str} (hy : PyData.strOk y = true) (hl : ∀ z ∈ l, PyData.strOk z = true) : PyData.strOk (Txt.join y l) = true := by
  rw [TL.join_eq, ok_iff]
  intro c hc
  rw [TL.tl_join] at hc
  rcases joinL_mem _ hc with h | ⟨p, hp, h⟩
  · exact ok_iff.mp hy c h
  · obtain ⟨z, hz, rfl⟩ := List.mem_map.mp hp
    exact ok_iff.mp (hl z hz) c h
def numS (i : Int) : Str := Str.ofString (toString i)
theorem numS_tl {i : Int} (h : 0 ≤ i) : TL.tl (numS i) = TL.numL i.toNat := by
  have e : i = ((i.toNat : Nat) : Int) := (Int.toNat_of_nonneg h).symm
  rw [e]
  exact TL.tl_num _
theorem ok_num {i : Int} (h : 0 ≤ i) : PyData.strOk (numS i) = true := by
  rw [ok_iff, numS_tl h]
  intro c hc
  exact Nat.lt_of_not_le fun q => TL.numL_free (n := i.toNat) (s := c) (.inr (by omega)) hc
theorem numS_len {i : Int} (h : i.natAbs < 1000000000) : (numS i).length ≤ 10 := by
  have e := int_text_length_le10 (a := i) (k := 9) (by decide) (by omega)
  show (Str.ofString (toString i)).length ≤ 10
  rw [PySem.ofString_length]
  omega
theorem numS_log {i : Int} (h : i.natAbs < 1000000000) : i.natAbs.log2 < 1920 := log_small (Nat.lt_of_lt_of_le h (by decide))
theorem szl {z : Str} (h : z.length ≤ 100000) : z.length ≤ sizeLine := Nat.le_trans h (by decide)
theorem ne_ins {H : Hp} {a b C C' dx dx' : Addr} {fs fs' : List (Str × V)} (h : H a = some (.ins C dx fs)) (h' : H b = some (.ins C' dx' fs')) (n : fs.length ≠ fs'.length) : a ≠ b :=
  ne_of h h' fun e => by
    injection e with _ _ e2
    exact n (congrArg List.length e2)
/-- only what stands at A has changed -/
def Fr (A : List Addr) (H H' : Hp) : Prop := ∀ b o, H b = some o → b ∉ A → H' b = some o
theorem Fr.of_same {A : List Addr} {H H' : Hp} (s : Same H H') : Fr A H H' := fun b o e _ => s b o e
theorem Fr.refl (A : List Addr) (H : Hp) : Fr A H H := fun _ _ e _ => e
theorem Fr.trans {A : List Addr} {H H1 H2 : Hp} (s : Fr A H H1) (t : Fr A H1 H2) : Fr A H H2 := fun b o e n => t b o (s b o e n) n
theorem Fr.trans_new {A A' : List Addr} {H H1 H2 : Hp} (s : Fr A H H1) (t : Fr A' H1 H2) (n : ∀ b ∈ A', b ∈ A ∨ H b = none) : Fr A H H2 := fun b o e hn => t b o (s b o e hn) fun m => (n b m).elim hn fun z => by rw [e] at z; cases z
end TK
set_option maxHeartbeats 1000000
/-! Calls with keywords of defs with many keyword-only parameters: the binding by names, without unfolding it at each name. -/
namespace TK
open PySem PySem.Spec PyProof.Rows L2
open PySem.W (Looks)
theorem forIn_looks {M : Model} {h : Heap} {α β : Type} {f : α → β → Sem (ForInStep β)} {g : β → α → β} : ∀ (l : List α) (b : β), (∀ pre a post, l = pre ++ a :: post → Looks M h (f a (pre.foldl g b)) (.yield (g (pre.foldl g b) a))) → Looks M h (forIn l b f) (l.foldl g b)
  | [], b, _ => by rw [List.forIn_nil]; exact Looks.of_pure rfl
  | a :: r, b, H => by
    rw [List.forIn_cons]
    exact Looks.andThen (H [] a r rfl) (forIn_looks r (g b a) fun pre c post e => H (a :: pre) c post (by rw [e]; rfl))
abbrev Sl : Type := List (Str × Value)
def g1 (s : Sl × Sl) (p : Str × Value) : Sl × Sl := (s.1 ++ [(p.1, p.2)], s.2)
theorem fold1 : ∀ (l : Sl) (s : Sl × Sl), l.foldl g1 s = (s.1 ++ l, s.2)
  | [], s => by rw [List.foldl_nil, List.append_nil]
  | p :: r, s => by
    rw [List.foldl_cons, fold1 r]
    unfold g1
    rw [List.append_assoc]
    rfl
theorem lookup_none {k : Str} : ∀ {l : Sl}, k ∉ l.map (·.1) → l.lookup k = none
  | [], _ => rfl
  | (a, b) :: r, h => by
    rw [List.map_cons, List.mem_cons, not_or] at h
    rw [List.lookup_cons, show (k == a) = false from beq_eq_false_iff_ne.mpr h.1]
    exact lookup_none h.2
theorem lookup_some {k : Str} : ∀ {l : Sl}, k ∈ l.map (·.1) → ∃ v, l.lookup k = some v
  | [], h => by cases h
  | (a, b) :: r, h => by
    rw [List.lookup_cons]
    by_cases e : (k == a) = true
    · rw [e]
      exact ⟨b, rfl⟩
    · rw [show (k == a) = false by simpa using e]
      rw [List.map_cons, List.mem_cons] at h
      exact lookup_some (h.resolve_left fun z => e (by rw [z]; exact beq_self_eq_true a))
def g2 (dv : Str → Value) (s : Sl × List Str) (n : Str) : Sl × List Str := if (s.1.lookup n).isNone = true then (s.1 ++ [(n, dv n)], s.2) else (s.1, s.2)
theorem fold2 {dv : Str → Value} : ∀ (l : List Str) (s : Sl × List Str), ∃ t, l.foldl (g2 dv) s = (s.1 ++ t, s.2)
  | [], s => ⟨[], by rw [List.foldl_nil, List.append_nil]⟩
  | n :: r, s => by
    rw [List.foldl_cons]
    obtain ⟨t, e⟩ := fold2 r (g2 dv s n)
    rw [e]
    unfold g2
    by_cases h : (s.1.lookup n).isNone = true
    · rw [if_pos h]
      exact ⟨(n, dv n) :: t, by rw [List.append_assoc]; rfl⟩
    · rw [if_neg h]
      exact ⟨t, rfl⟩
def bindR (self : Str) (L : List Str) (u : Value) (kw : Sl) (dv : Str → Value) : Sl :=
  ([self] ++ L).filterMap fun n => ((L.foldl (g2 dv) ((self, u) :: kw, [])).1.lookup n).map fun x => (n, x)
theorem bind_kw {K : PySem.W.Frag} {M : Model} {h : Heap} {x qual : Str} {params : Arguments} {body : List Stmt} {scope : Scope} {D : Addr} {doc pm : Value} {an : Option Addr} {cdv ct : Value} {u : Value} {kw : Sl} {L ks : List Str} {self : Str}
    (X : K.In h) (h1 : params.posonlyargs.map (·.arg) = []) (h2 : params.args.map (·.arg) = [self]) (h3 : params.kwonlyargs.map (·.arg) = L) (h4 : params.vararg = none) (h5 : params.kwarg = none) (hk : kw.map (·.1) = ks) (nd : (self :: ks).Nodup) (hin : ∀ k ∈ ks, k ∈ L)
    (dv : Str → Value) (hd : ∀ n ∈ L, n ∉ ks → PySem.W.nsIn K D n = some (some (dv n))) :
    Looks M h (bindArgs (PySem.W.fnOf x qual params body scope .none (.ref D) doc pm an cdv ct) ⟨[u], kw⟩) (bindR self L u kw dv) := by
  unfold bindArgs
  simp only [PySem.W.fnOf, h1, h2, h3, h4, h5]
  have e1 : ∀ pre, pre.foldl g1 ((([] : List Str) ++ [self]).zip [u], []) = ((self, u) :: pre, []) := fun pre => fold1 pre _
  refine Looks.andThen (a := ((self, u) :: kw, [])) ?_ ?_
  · rw [← e1 kw]
    refine forIn_looks kw _ fun pre p post e => ?_
    rw [e1 pre]
    have mk : p.1 ∈ ks := by rw [← hk, e, List.map_append, List.map_cons]; exact List.mem_append_right _ (List.mem_cons_self ..)
    have c1 : ([self].contains p.1 || L.contains p.1) = true := by rw [show L.contains p.1 = true by simpa using hin _ mk, Bool.or_true]
    have nk : p.1 ∉ ((self, u) :: pre).map (·.1) := by
      rw [← hk, e, List.map_append, List.map_cons] at nd
      obtain ⟨n1, n2⟩ := List.nodup_cons.mp nd
      rw [List.map_cons, List.mem_cons, not_or]
      refine ⟨fun z => n1 (by have z2 : p.1 = self := z; rw [← z2]; exact List.mem_append_right _ (List.mem_cons_self ..)), fun z => ?_⟩
      exact (List.nodup_append.mp n2).2.2 _ z _ (List.mem_cons_self ..) rfl
    rw [if_pos c1, if_neg (by rw [lookup_none nk]; exact Bool.false_ne_true)]
    exact Looks.of_pure rfl
  · refine Looks.andThen (a := none) (Looks.of_pure rfl) ?_
    have el : ((self, u) :: kw).lookup self = some u := by rw [List.lookup_cons, beq_self_eq_true]
    rw [if_neg (by show ¬ (decide (1 > 1) && _) = true; simp)]
    have em : List.filter (fun n => (List.lookup n (((self, u) :: kw, ([] : Sl)) : Sl × Sl).fst).isNone) [self] = [] := by
      rw [List.filter_cons, if_neg (by show ¬ (List.lookup self ((self, u) :: kw)).isNone = true; rw [el]; exact Bool.false_ne_true)]
      rfl
    refine (fun z => ?_) em
    rw [if_neg (by show ¬ (!(List.filter (fun n => (List.lookup n (((self, u) :: kw, ([] : Sl)) : Sl × Sl).fst).isNone) [self]).isEmpty) = true; rw [em]; exact Bool.false_ne_true)]
    refine Looks.andThen (a := (self, u) :: kw) (Looks.of_pure rfl) ?_
    refine Looks.andThen (a := L.foldl (g2 dv) ((self, u) :: kw, [])) (forIn_looks L _ fun pre n post e => ?_) ?_
    · obtain ⟨t, et⟩ := fold2 (dv := dv) pre ((self, u) :: kw, [])
      rw [show List.foldl (g2 dv) ((self, u) :: kw, []) pre = (((self, u) :: kw) ++ t, []) from et]
      unfold g2
      by_cases hl : (List.lookup n (((self, u) :: kw) ++ t)).isNone = true
      · rw [if_pos hl, if_pos hl]
        have nks : n ∉ ks := fun m => by
          have m2 : n ∈ (((self, u) :: kw) ++ t).map (·.1) := by
            rw [List.map_append, List.map_cons, hk]
            exact List.mem_append_left _ (List.mem_cons_of_mem _ m)
          obtain ⟨v, ev⟩ := lookup_some m2
          rw [ev] at hl
          cases hl
        refine Looks.andThen (a := some (dv n)) (PySem.W.looks_nsIn X (hd n (by rw [e]; exact List.mem_append_right _ (List.mem_cons_self ..)) nks)) (Looks.of_pure rfl)
      · rw [if_neg hl, if_neg hl]
        exact Looks.of_pure rfl
    · obtain ⟨t, et⟩ := fold2 (dv := dv) L ((self, u) :: kw, [])
      rw [if_neg (by rw [et]; exact Bool.false_ne_true)]
      exact Looks.of_pure rfl
theorem kbn_of {K : PySem.W.Frag} {x qual : Str} {params : Arguments} {body : List Stmt} {scope : Scope} {kws : List (Str × V)} {f : Addr} {fd : FuncData} {ps ks L : List Str} {self : Str} (F : FunD K x qual params body scope [] kws f fd) (ms : List (Str × V)) (g : {α : Type} → List α → List α → List α → List α) (hkws : kws ≠ [])
    (hrel : ∀ {vs mz zs : List V} {us mv ws : List Value}, Vals vs us → Vals mz mv → Vals zs ws → Vals (g vs mz zs) (g us mv ws))
    (h1 : params.posonlyargs.map (·.arg) = []) (h2 : params.args.map (·.arg) = [self]) (h3 : params.kwonlyargs.map (·.arg) = L) (h4 : params.vararg = none) (h5 : params.kwarg = none) (nd : (self :: ks).Nodup) (hin : ∀ k ∈ ks, k ∈ L) (hms : ∀ q ∈ ms, q ∈ kws) (hcov : ∀ n ∈ L, n ∉ ks → n ∈ ms.map (·.1))
    (heq : ∀ (u : Value) (mv ws : List Value), mv.length = ms.length → ws.length = ks.length → bindR self L u (ks.zip ws) (fun n => (((ms.map (·.1)).zip mv).lookup n).getD .none) = ps.zip (g [u] mv ws)) :
    ∃ mv : List Value, KBn K fd ps 1 ks (fun us ws => g us mv ws) (fun vs zs => g vs (ms.map (·.2)) zs) := by
  obtain ⟨oc, od, dV, kV, doc, pm, an, cdv, ct, osl, rfl, lk, hcd, hD, hK⟩ := F.ex
  have edV : dV = .none := by
    rcases hD with ⟨_, e⟩ | ⟨e, _⟩
    · exact e
    · exact absurd rfl e
  subst edV
  rcases hK with e | ⟨D, rfl, hq⟩
  · exact absurd e hkws
  obtain ⟨mv, hl, rk, hks⟩ := kwd_vals (ms := ms) fun q hm => hq q (hms q hm)
  refine ⟨mv, ⟨fun s us ws X l1 l2 => ?_, fun r1 r2 => hrel r1 rk r2⟩⟩
  obtain ⟨u, rfl⟩ : ∃ u, us = [u] := by
    cases us with
    | nil => cases l1
    | cons a r =>
      cases r with
      | nil => exact ⟨a, rfl⟩
      | cons b r => cases l1
  refine BindsTo.of_looks fun M => ?_
  show Looks M s.heap _ (ps.zip (g [u] mv ws))
  rw [← heq u mv ws hl l2]
  refine bind_kw X h1 h2 h3 h4 h5 (List.map_fst_zip (by omega)) nd hin _ fun n hn nk => ?_
  have lm : ((ms.map (·.1)).zip mv).map (·.1) = ms.map (·.1) := List.map_fst_zip (by rw [List.length_map]; omega)
  obtain ⟨v, ev⟩ := lookup_some (k := n) (l := (ms.map (·.1)).zip mv) (by rw [lm]; exact hcov n hn nk)
  rw [ev]
  have mem : ∀ {l : Sl}, l.lookup n = some v → (n, v) ∈ l := by
    intro l
    induction l with
    | nil => intro h; cases h
    | cons a r ih =>
      obtain ⟨a1, a2⟩ := a
      intro h
      rw [List.lookup_cons] at h
      by_cases e : (n == a1) = true
      · rw [e] at h
        rw [Option.some.inj h, beq_iff_eq.mp e]
        exact List.mem_cons_self ..
      · rw [show (n == a1) = false by simpa using e] at h
        exact List.mem_cons_of_mem _ (ih h)
  exact hks _ (mem ev)
end TK
set_option maxHeartbeats 1000000
namespace TK
open PySem PySem.Spec PyProof.Rows L2 SX
def rRpart : V → List V → Hp → VK → Prop := fun x xs H Q => ∃ z y, x = .str z ∧ xs = [.str y] ∧ (y.length == 0) = false ∧ z.length ≤ sizeLine ∧ ∀ p, H p = none → Q (.ref p) (upd H p (.tup [.str (Txt.rpartition z y).1, .str (Txt.rpartition z y).2.1, .str (Txt.rpartition z y).2.2]))
section
variable {X : Cx} {e o : Expr} {te to : TE}
theorem mt_rpart : MtR X "str.rpartition" rRpart := by
  intro pins s σ H x xs v us Q I rx rs ⟨z, y, ex, exs, hy, hz, h⟩
  subst ex exs
  obtain ⟨tz, rfl⟩ := rx
  match us, rs with
  | [w], .cons r1 .nil =>
    obtain ⟨ty, rfl⟩ := r1
    refine call_meets PySem.F.slot_str_rpartition (typeIs_str _ _ _) PySem.F.entry_str_rpartition (PySem.F.args_str_rpartition_2 _ _) (meets_str_rpartition z y tz ty hy hz) ?_
    have h2 := h
    unfold Txt.rpartition at h2
    revert h2
    cases Builtin.Str.lastOccurrence z y 0 z.length with
    | none => exact fun h2 => laid_parts I h2
    | some i => exact fun h2 => laid_parts I h2
theorem pe_rpartition {apos pos : Pos} (ho : PE X o to) (he : PE X e te) (hs : starEach [e] X.env = [(false, eval e X.env)] := by rfl) (hb : attributeBase o "rpartition" X.env (eval o X.env) = eval o X.env := by rfl) (hl : (apos.endLine == pos.line) = true := by rfl) :
    PE X (.Call (.Attribute o "rpartition" apos) [e] [] pos) (tM1 rRpart to te) := pe_m1 PySem.F.slot_str_rpartition PySem.F.type_str_rpartition mt_rpart ho he hs hb hl
end
/-- what a new object at t, then one at l leaves -/
theorem new2 {H : Hp} {t l : Addr} {o u : HO} (ht : H t = none) (hl : upd H t o l = none) : t ≠ l ∧ H l = none ∧ Same H (upd (upd H t o) l u) ∧ (upd (upd H t o) l u) t = some o ∧ (upd (upd H t o) l u) l = some u := by
  have n : t ≠ l := fun e => by rw [← e, upd_same] at hl; cases hl
  exact ⟨n, by rw [upd_ne n.symm] at hl; exact hl, (same_upd ht).trans (same_upd hl), (upd_ne n).trans upd_same, upd_same⟩
theorem cutV_to (xs : List V) (k : Nat) : cutV xs none (some (k : Int)) = xs.take k := by
  unfold cutV
  have a : HT.sIx xs.length 0 none = 0 := by rfl
  have b : HT.sIx xs.length xs.length (some (k : Int)) = min k xs.length := by
    unfold HT.sIx
    simp
    try omega
  rw [a, b, List.drop_zero, Nat.sub_zero]
  by_cases h : k ≤ xs.length
  · rw [Nat.min_eq_left h]
  · rw [Nat.min_eq_right (by omega), List.take_length, List.take_of_length_le (by omega)]
theorem pi_listK {X : Cx} {tg l : Expr} {tl : TE} (K : PySem.W.Frag) (e : X.K = K) (hl : PE X l tl) : PI X tg l (iList K tl) := by
  subst e
  exact pi_list hl
end TK
set_option maxHeartbeats 4000000
/-! set(xs) of a list of ints and texts, of any length below the model's bound: mine. -/
namespace TKS
open PySem PySem.Spec PyProof.Rows L2 SX TK
def inK (l : List Key) (x : Key) : Bool := l.any fun y => decide (y = x)
def addK (l : List Key) (x : Key) : List Key := if inK l x = true then l else l ++ [x]
/-- the keys met so far, each once -/
def metK (kk : Nat → Key) : Nat → List Key
  | 0 => []
  | i + 1 => addK (metK kk i) (kk i)
theorem inK_iff {l : List Key} {x : Key} : inK l x = true ↔ x ∈ l := by
  unfold inK
  rw [List.any_eq_true]
  exact ⟨fun ⟨y, h, e⟩ => of_decide_eq_true e ▸ h, fun h => ⟨x, h, decide_eq_true rfl⟩⟩
theorem addK_len (l : List Key) (x : Key) : (addK l x).length = if inK l x = true then l.length else l.length + 1 := by
  unfold addK
  split
  · rfl
  · rw [List.length_append, List.length_singleton]
theorem metK_len (kk : Nat → Key) : ∀ i, (metK kk i).length ≤ i
  | 0 => Nat.le_refl 0
  | i + 1 => by
    have ih := metK_len kk i
    show (addK (metK kk i) (kk i)).length ≤ i + 1
    rw [addK_len]
    split <;> omega
theorem addK_in (l : List Key) (x y : Key) : inK (addK l x) y = (inK l y || decide (y = x)) := by
  unfold addK
  by_cases h : inK l x = true
  · rw [if_pos h]
    by_cases e : y = x
    · rw [e, h]
      rfl
    · rw [decide_eq_false e, Bool.or_false]
  · rw [if_neg h]
    show (l ++ [x]).any (fun z => decide (z = y)) = _
    rw [List.any_append]
    have e2 : [x].any (fun z => decide (z = y)) = decide (y = x) := by
      by_cases e : y = x
      · rw [e]
        simp
      · rw [decide_eq_false e]
        simp
        exact fun z => e z.symm
    rw [e2]
    rfl
theorem setOf_as {P : Program} {w : World} {h : Heap} {a : Addr} {S S' : Key → Bool} {n n' : Nat} (q : h.SetOf (mixKind P w) a S n) (e : ∀ k, S k = S' k) (en : n = n') : h.SetOf (mixKind P w) a S' n' := by
  obtain rfl : S = S' := funext e
  exact en ▸ q
section
variable {P : Program} {w : World} {A : Around} {R : Result → Shared → Prop} {it : Addr} {fp wr : List Addr} {G : Array GenState → Array GenState → Prop} {n : Nat} {Y : Nat → Value → Prop} {Z : Nat → Shared → Prop}
theorem set_loop (W : WalksS P w A.in1 it fp wr G n Y Z) (D : Addr) (nf : D ∉ fp) (kk : Nat → Key) (hv : ∀ i v, Y i v → RelV (kV (kk i)) v) (room : n + 1 < scanBound) : ∀ (m i : Nat) (s : Shared), n - i = m → i ≤ n → Z i s → s.heap.SetOf (mixKind P w) D (inK (metK kk i)) (metK kk i).length →
    (∀ s2, Moved (D :: wr) G s s2 → s2.heap.SetOf (mixKind P w) D (inK (metK kk n)) (metK kk n).length → R (.ok (.ret .none)) s2) → codeAny (model P w) A (.builtin "set.update.loop" ⟨[.ref D, .ref it], []⟩) R s := by
  have nw : D ∉ wr := fun q => nf (W.sub _ q)
  have more : ∀ b ∈ wr, b ∈ D :: wr := fun _ q => .tail _ q
  have stays : ∀ {s1 s2 : Shared} {S : Key → Bool} {c : Nat}, Moved wr G s1 s2 → s1.heap.SetOf (mixKind P w) D S c → s2.heap.SetOf (mixKind P w) D S c := fun mv q => setOf_at q fun o e => mv.heap D o nw e
  intro m
  induction m with
  | zero =>
    intro i s em hi z q k
    obtain rfl : i = n := by omega
    refine codeAny_builtin PyProof.Rows.F.entry_set_update_loop (?_ : wpAny _ _ _ _ _ _)
    rw [Around.under_plainId PyProof.Rows.F.plain_set_update_loop _] <;> exact wpAny_bind (W.done s _ _ z fun s2 mv => wpAny_pure (k s2 (mv.mono more) (stays mv q)))
  | succ m ih =>
    intro i s em hi z q k
    have lt : i < n := by omega
    refine codeAny_builtin PyProof.Rows.F.entry_set_update_loop (?_ : wpAny _ _ _ _ _ _)
    rw [Around.under_plainId PyProof.Rows.F.plain_set_update_loop _]
    refine wpAny_bind (W.item i s _ _ lt z fun v s2 y z2 mv => (?_ : wpAny _ A.in1 (holding [v] (setAdd D v) >>= _) _ _ s2))
    have rv := hv i v y
    have q2 := stays mv q
    have small := metK_len kk i
    refine wpAny_bind (wpAny_holding (?_ : wpAny _ A.in1 (setAdd D v) _ _ s2))
    unfold setAdd
    refine wpAny_holding (wpAny_bind ((mixKind P w).pyHash (k := kk i) (kV_is rv) (wpAny_setAddHashed_of (knd := mixKind P w) (s := { s2 with toks := s2.toks + 1 }) (kV_is rv) (key_scan rv) q2 (by omega) fun h3 but q3 => ?_)))
    have q4 : h3.SetOf (mixKind P w) D (inK (metK kk (i + 1))) (metK kk (i + 1)).length := setOf_as q3 (fun x => (addK_in (metK kk i) (kk i) x).symm) (addK_len (metK kk i) (kk i)).symm
    refine wpAny_pure ⟨plainId_quiet PyProof.Rows.F.plain_set_update_loop _, ih (i + 1) _ (by omega) lt (W.frame _ s2 _ _ z2 (Nat.le_succ _) fun b hb o e => (but.2 b fun z => nf (z ▸ hb)).trans e) q4 fun s5 mv5 q5 => k s5 ?_ q5⟩
    exact Moved.trans W.gtrans ((mv.mono more).then_heap (Nat.le_succ _) fun b o hb e => (but.2 b fun z => hb (z ▸ .head _)).trans e) mv5
/-- an empty set as the boot lays it -/
abbrev bare (b : Bool) : Obj := ⟨.type "set", none, .set #[] 0 (.fresh 0 0 b), #[]⟩
abbrev walker (l : Addr) : Obj := ⟨.type "list_iterator", none, .fields #[.ref l, .int 0 0], #[]⟩
theorem bare_of {h : Heap} {a : Addr} {b : Bool} (e : h.get? a = some (bare b)) : h.SetOf (mixKind P w) a (inK (metK (fun _ => .inl 0) 0)) 0 := by
  refine ⟨_, #[], 0, _, e, ⟨rfl, rfl, rfl⟩, rfl, ?_, ?_, ?_, ?_, ?_⟩
  · exact fun x hx => nomatch (show x ∈ ([] : List _) by simpa using hx)
  · exact fun k => ⟨fun q => (nomatch q), fun ⟨x, hx, _⟩ => nomatch (show x ∈ ([] : List _) by simpa using hx)⟩
  · decide
  · rfl
  · rfl
variable {E : Value → Shared → Prop} {s : Shared}
theorem vals_key {ks : List Key} : ∀ {us : List Value}, Vals (ks.map kV) us → ∀ (i : Nat) (v : Value), us[i]? = some v → RelV (kV (ks.getD i (.inl 0))) v := by
  induction ks with
  | nil =>
    intro us r i v h
    cases r
    cases h
  | cons k ks ih =>
    intro us r i v h
    cases r with
    | cons r1 r2 =>
      cases i with
      | zero =>
        cases h
        exact r1
      | succ i => exact ih r2 i v h
/-- set(xs) -/
theorem call_set_keys {l : Addr} {items : Array Value} {ks : List Key} {Q : Value → Shared → Prop} (calm : A.handled = none) (hl : s.heap.IsList l items) (rv : Vals (ks.map kV) items.toList) (room : items.size + 1 < scanBound)
    (k : ∀ (h2 : Heap) (tk : Nat), h2.SetOf (mixKind P w) s.heap.objs.size (inK (metK (fun i => ks.getD i (.inl 0)) items.size)) (metK (fun i => ks.getD i (.inl 0)) items.size).length → (∀ c o, c < s.heap.objs.size → s.heap.get? c = some o → h2.get? c = some o) → Q (.ref s.heap.objs.size) { s with heap := h2, toks := tk }) :
    wpAny (model P w) A (call (.type "set") [.ref l]) Q E s := by
  have cs := PySem.F.called_set
  obtain ⟨c, tl, y1⟩ := cs.mro
  have y2 := cs.made
  have y3 := cs.sub
  have y4 := cs.notType
  have y5 := cs.canCreate
  have y6 := PySem.F.typeCall_set_1 (.ref l)
  refine wpAny_call (codeAny_of_tree (?_ : wpAny _ _ (callAny (.type "set") _) _ _ _))
  refine wpAny_pure ⟨Code.quiet_builtin _ (by decide +kernel), codeAny_builtin PySem.F.entry_type_call ?_⟩
  rw [Around.under_plain (weight_type_call_type "set" [.ref l] []) rfl]
  repeat (any_goals (first | assumption | wp_step))
  refine codeAny_mono (code_set_new_1 (.ref l) (E := E) (Q₁ := fun v t => ∃ b : Bool, v = .ref s.heap.objs.size ∧ t = { s with heap := s.heap.push (bare b) }) fun b => ⟨b, rfl, rfl⟩) fun r t hr => ?_
  match r, hr with
  | .error e, hr => exact hr
  | .ok (.ret obj), hr =>
    obtain ⟨b, rfl, rfl⟩ := hr
    have g1 : (s.heap.push (bare b)).get? s.heap.objs.size = some (bare b) := Heap.get?_push_size _ rfl
    have g2 : Shared.TypeIs { s with heap := s.heap.push (bare b) } (.ref s.heap.objs.size) "set" := ⟨_, g1, rfl⟩
    have g3 := cs.init.lookup
    have g4 := cs.init.bind (.ref s.heap.objs.size)
    repeat (any_goals (first | assumption | wp_step))
    refine codeAny_mono (codeAny_call_builtin (R := wants (fun v t => v = .none ∧ ∃ h2 tk, t = { s with heap := h2, toks := tk } ∧ h2.SetOf (mixKind P w) s.heap.objs.size (inK (metK (fun i => ks.getD i (.inl 0)) items.size)) (metK (fun i => ks.getD i (.inl 0)) items.size).length ∧
      ∀ c o, c < s.heap.objs.size → s.heap.get? c = some o → h2.get? c = some o) E) cs.init.plain PySem.F.entry_set_init (check_set_init_1 g2 ?_)) fun r2 t2 hr2 => ?_
    · have hl1 : (s.heap.push (bare b)).IsList l items := hl.push _
      obtain ⟨ob, lo, lc, ln, ld⟩ := id hl
      have lt : l < s.heap.objs.size := Heap.lt_size lo
      have n1 : l ≠ (s.heap.push (bare b)).objs.size := by
        rw [Heap.size_push]
        exact Nat.ne_of_lt (.step lt)
      have n2 : s.heap.objs.size ∉ [(s.heap.push (bare b)).objs.size, l] := by
        rw [Heap.size_push]
        intro q
        rcases List.mem_cons.mp q with q | q
        · exact absurd q (Nat.ne_of_lt (Nat.lt_succ_self _))
        · rw [List.mem_singleton.mp q] at lt
          exact Nat.lt_irrefl _ lt
      obtain ⟨q1, q2, q3, q4⟩ := ob
      obtain rfl : q1 = .type "list" := lc
      obtain rfl : q3 = .seq items ln := ld
      have lo1 : (s.heap.push (bare b)).get? l = some ⟨.type "list", q2, .seq items ln, q4⟩ := Heap.get?_push_of_some _ lo
      have z1 := PySem.F.sub_list_set
      have z2 := PySem.F.sub_list_frozenset
      have z3 : (Value.type "list" == Value.type "dict") = false := by decide
      unfold Builtin.«set.__init__» noKeywords Builtin.Frozenset.updateFrom
      generalize hI : pyIter = I
      wp_walk
      subst hI
      refine wpAny_pyIter_list hl1 (wpAny_bind (wpAny_runValue ?_))
      have calm3 : A.in1.in1.in1.handled = none := by simp [calm]
      refine set_loop ((Walks.list calm3 _ l n1 items).toS) s.heap.objs.size n2 (fun i => ks.getD i (.inl 0)) (fun i v e => vals_key rv i v (by rw [Array.getElem?_toList]; exact e)) room items.size 0 _ (Nat.sub_zero _) (Nat.zero_le _) ⟨⟨_, Heap.get?_push_size _ rfl, rfl, rfl⟩, hl1.push _⟩ (bare_of (b := b) (Heap.get?_push_of_some _ g1)) fun t mv q => ?_
      obtain ⟨h2, t2, t3, tk, t5⟩ := t
      obtain rfl : t2 = s.gens := mv.gens
      obtain rfl : t3 = s.drawn := mv.drawn
      obtain rfl : t5 = s.os := mv.os
      refine wpAny_pure (wpAny_pure ⟨rfl, h2, tk, rfl, q, fun c o lc e => ?_⟩)
      refine mv.heap c o (fun m => ?_) (Heap.get?_push_of_some _ (Heap.get?_push_of_some _ e))
      rcases List.mem_cons.mp m with m | m
      · exact Nat.lt_irrefl _ (m ▸ lc)
      · have m2 := List.mem_singleton.mp m
        rw [Heap.size_push] at m2
        exact Nat.lt_irrefl _ (Nat.lt_trans (m2 ▸ lc) (Nat.lt_succ_self _))
    · match r2, hr2 with
      | .error e, hr2 => exact hr2
      | .ok (.ret v), hr2 =>
        obtain ⟨rfl, h2, tk, rfl, q1, q2⟩ := hr2
        repeat (any_goals (first | assumption | wp_step))
        exact k _ _ q1 q2
      | .ok .next, hr2 => exact hr2.elim
      | .ok .brk, hr2 => exact hr2.elim
      | .ok .cont, hr2 => exact hr2.elim
  | .ok .next, hr => exact hr.elim
  | .ok .brk, hr => exact hr.elim
  | .ok .cont, hr => exact hr.elim
end
/-! ### len(set(xs)) -/
section
variable {X : Cx} {p p2 q pos : Pos}
def tLenSetK (K : PySem.W.Frag) (ta : TE) : TE := fun σ H Q => ta σ H fun x H1 => ∃ (l : Addr) (ks : List Key), x = .ref l ∧ SqL K H1 l (ks.map kV) ∧ ks.length ≤ 4000 ∧ Q (.int ((metK (fun i => ks.getD i (.inl 0)) ks.length).length : Nat)) H1
theorem pe_lenSetK {a : Expr} {ta : TE} (ha : PE X a ta) (hm : X.mg "len" = none) (hm2 : X.mg "set" = none) (hg : Gl X "len" := by rfl) (hg2 : Gl X "set" := by rfl) (hc : X.calm = true := by rfl)
    (na : starEach [a] X.env = (false, eval a X.env) :: starEach [] X.env := by rfl) : PE X (.Call (.Name "len" p) [.Call (.Name "set" p2) [a] [] q] [] pos) (tLenSetK X.K ta) := by
  refine ⟨fun pins s σ H Q I h => Call_ (ld_blt I hg hm boot_len (PyProof.Rows.callWith_builtin1 (PyProof.Rows.args_cons (Call_ (ld_blt I hg2 hm2 boot_set ?_)) rfl) rfl rfl))⟩
  refine PyProof.Rows.callWith_type1 (PyProof.Rows.args_cons (thn (ha.run pins s σ H _ I h) fun v t ⟨x, H1, I1, rx, l, ks, ex, sq, small, z⟩ => PyProof.Rows.args_nil ?_) na) na rfl
  subst ex
  cases rx
  obtain ⟨its, r, pl, _⟩ := I1.list sq
  have n : its.toArray.size = ks.length := by
    rw [List.size_toArray, ← r.length, List.length_map]
  have lim : (4000 : Nat) + 1 < scanBound := by decide
  refine call_set_keys (ks := ks) (I1.ok.hd hc) pl.isList (by simpa using r) (by omega) fun h2 tk so kp => PyProof.Rows.args_nil ?_
  rw [n] at so
  have le := metK_len (fun i => ks.getD i (.inl 0)) ks.length
  have I2 : Inv X pins σ H1 { t with heap := h2, toks := tk } := I1.kept fun b o e => kp b o (Heap.lt_size e) e
  obtain ⟨o, es, ep, tb, ho, ex, hd, _, _, _, hf, hn⟩ := so
  exact call_len_set ho ex hd hf (by rw [hn]; omega) ⟨.int (metK (fun i => ks.getD i (.inl 0)) ks.length).length, H1, I2.tok _, ⟨_, by rw [hn]⟩, z⟩
end
/-- as many as there are, just if none is there twice -/
theorem met_nodup (ks : List Key) : ∀ i, i ≤ ks.length → (∀ x, x ∈ metK (fun i => ks.getD i (.inl 0)) i ↔ x ∈ ks.take i) ∧ ((metK (fun i => ks.getD i (.inl 0)) i).length = i ↔ (ks.take i).Nodup)
  | 0, _ => ⟨fun x => by simp [metK], by simp [metK]⟩
  | i + 1, hi => by
    obtain ⟨a, b⟩ := met_nodup ks i (by omega)
    have e : ks.getD i (.inl 0) = ks[i] := by
      rw [List.getD_eq_getElem?_getD, List.getElem?_eq_getElem (by omega)]
      rfl
    have t : ks.take (i + 1) = ks.take i ++ [ks[i]] := by
      rw [List.take_add_one, List.getElem?_eq_getElem (by omega)]
      rfl
    have le := metK_len (fun i => ks.getD i (.inl 0)) i
    show (∀ x, x ∈ addK _ (ks.getD i (.inl 0)) ↔ _) ∧ ((addK _ (ks.getD i (.inl 0))).length = i + 1 ↔ _)
    rw [e, t]
    refine ⟨fun x => ?_, ?_⟩
    · rw [← inK_iff, addK_in, Bool.or_eq_true, inK_iff, decide_eq_true_eq, a, List.mem_append, List.mem_singleton]
    · rw [addK_len, List.nodup_append]
      by_cases h : inK (metK (fun i => ks.getD i (.inl 0)) i) ks[i] = true
      · rw [if_pos h]
        rw [inK_iff, a] at h
        constructor
        · intro q
          omega
        · intro q
          exact absurd rfl (q.2.2 _ h _ (List.mem_singleton.mpr rfl))
      · rw [if_neg h]
        rw [inK_iff, a] at h
        constructor
        · intro q
          refine ⟨b.mp (by omega), by simp, fun x hx y hy => ?_⟩
          rw [List.mem_singleton.mp hy]
          exact fun z => h (z ▸ hx)
        · intro q
          rw [b.mpr q.1]
theorem met_all (ks : List Key) : (metK (fun i => ks.getD i (.inl 0)) ks.length).length = ks.length ↔ ks.Nodup := by
  have q := (met_nodup ks ks.length (Nat.le_refl _)).2
  rw [List.take_length] at q
  exact q
end TKS
set_option maxHeartbeats 4000000
/-! Calls with ** of a dict whose keys are texts. -/
namespace TK
open PySem PySem.Spec PyProof.Rows L2
section
variable {prog : Program} {w : World} {K : Type} [DecidableEq K] {knd : KeyKind prog w K} {A : Around} {E : Value → Shared → Prop} {s : Shared}
theorem put_new {d : Addr} {kvs : List (K × Value)} {k : K} {key v : Value} {Q : Unit → Shared → Prop} (hkey : knd.is k key = true) (hm : s.heap.DictOf knd d kvs) (hno : k ∉ kvs.map (·.1))
    (hQ : ∀ h', h'.DictOf knd d (kvs ++ [(k, v)]) → Heap.SameBut d s.heap h' → Q () { s with heap := h' }) (hsz : kvs.length ≤ sizeLine) :
    wpAny (model prog w) A (dictPut d (knd.hash k) key v) Q E s := by
  obtain ⟨o, es, ep, ho, hc, hd, hk, hp, hn⟩ := hm
  have hes : es.size ≤ sizeLine := by
    have e1 := hp.length
    have e2 : es.toList.length = es.size := by simp
    omega
  unfold dictPut
  refine wpAny_bind (wpAny_dictFind_of hkey ho hd hk ?_)
  have hidx : (es.findIdx? fun e => knd.is k e.key) = none := by
    have h1 : (es.findIdx? fun e => knd.is k e.key) = kvs.findIdx? fun kv => decide (kv.1 = k) := by
      rw [← hp.findIdx k]; obtain ⟨l⟩ := es; simp
    rw [h1, List.findIdx?_eq_none_iff]
    intro x hx
    exact decide_eq_false fun e => hno (List.mem_map.mpr ⟨x, hx, e⟩)
  rw [hidx]
  refine wpAny_updateDictKeys (hz := hes) ho hd (hQ _ ⟨_, _, ep + 1, Heap.get?_update_self _ ho (Obj.isFreed_of_dict (Obj.data_mapDictKeys hd _)), hc.mapDictKeys _, Obj.data_mapDictKeys hd _, hk.push hkey _, ?_, ?_⟩ (Heap.SameBut.update ..))
  · have := hp.append hkey (knd.hash k) v
    obtain ⟨l⟩ := es
    simpa using this
  · rw [List.map_append, List.nodup_append]
    refine ⟨hn, by simp, ?_⟩
    intro a ha b hb
    simp only [List.map_cons, List.map_nil, List.mem_singleton] at hb
    subst hb
    exact fun e => hno (e ▸ ha)
theorem find_new {d : Addr} {kvs : List (K × Value)} {k : K} {key : Value} {Q : Option Nat → Shared → Prop} (hkey : knd.is k key = true) (hm : s.heap.DictOf knd d kvs) (hno : k ∉ kvs.map (·.1))
    (hQ : Q none s) : wpAny (model prog w) A (dictFind d key (knd.hash k)) Q E s := by
  obtain ⟨o, es, ep, ho, hc, hd, hk, hp, hn⟩ := hm
  refine wpAny_dictFind_of hkey ho hd hk ?_
  have hidx : (es.findIdx? fun e => knd.is k e.key) = none := by
    have h1 : (es.findIdx? fun e => knd.is k e.key) = kvs.findIdx? fun kv => decide (kv.1 = k) := by
      rw [← hp.findIdx k]; obtain ⟨l⟩ := es; simp
    rw [h1, List.findIdx?_eq_none_iff]
    intro x hx
    exact decide_eq_false fun e => hno (List.mem_map.mpr ⟨x, hx, e⟩)
  rw [hidx]
  exact hQ
theorem merge_new {d o : Addr} {more : List (K × Value)} {Q : Unit → Shared → Prop} (hdo : d ≠ o) (hoS : (o == sysModules) = false)
    (hd : s.heap.DictOf knd d []) (ho : s.heap.DictOf knd o more)
    (hQ : ∀ h', h'.DictOf knd d more → h'.DictOf knd o more → Heap.SameBut d s.heap h' → Q () { s with heap := h' }) (hsz : more.length ≤ sizeLine) :
    wpAny (model prog w) A (mergeMapping d (.ref o) true) Q E s := by
  obtain ⟨od, esd, epd, hod, hcd, hdd, hkd, hpd, hnd⟩ := id hd
  obtain ⟨oo, eso, epo, hoo, hco, hdo', hko, hpo, hno⟩ := id ho
  have hlen : more.length = eso.size := by rw [← hpo.length]; simp
  unfold mergeMapping
  refine wpAny_bind (wpAny_isInstance ho.typeIs isSubtype_dict_dict ?_)
  simp only [if_true]
  refine wpAny_bind (wpAny_specialOf ho.typeIs F.slot_dict_iter.lookup ?_)
  refine wpAny_bind (wpAny_pure ?_)
  simp only [beq_self_eq_true]
  rw [if_neg (by rw [hoS]; exact Bool.false_ne_true)]
  refine wpAny_bind (wpAny_dictEntries hod hdd ?_)
  have h0 : esd.isEmpty = true := by
    have := hpd.length
    rw [Array.isEmpty_iff, ← Array.size_eq_zero_iff]
    simpa using this
  rw [if_pos h0]
  refine wpAny_bind (wpAny_dictEntries hoo hdo' ?_)
  have hloop : (forIn eso PUnit.unit fun e (_ : PUnit) => (match e.key with
      | Value.ref a => do
        let q ← specialOf e.key (Str.ofString "__eq__")
        if (q != some (Value.builtin "object.__eq__")) = true then
            if (Array.filter (fun x => x.hash == e.hash) eso).size > 1 then do
              let _ ← (unsupported "dict.merge-into-an-empty-dict:keys-of-equal-hash" : Sem PUnit)
              pure (ForInStep.yield PUnit.unit)
            else pure (ForInStep.yield PUnit.unit)
          else pure (ForInStep.yield PUnit.unit)
      | x => pure (ForInStep.yield PUnit.unit) : Sem (ForInStep PUnit))) = pure PUnit.unit := by
    rw [← Array.forIn_toList]
    refine forIn_yield_id _ fun e he c => ?_
    obtain ⟨k, hkey, _⟩ := hko e (Array.mem_toList_iff.mp he)
    have hb := knd.byValue k _ hkey
    split
    · rename_i a ea
      rw [ea] at hb
      exact nomatch hb
    · rfl
  refine wpAny_bind (wpAny_of_eq hloop ?_)
  refine wpAny_bind (wpAny_dictEntries hoo hdo' ?_)
  refine wpAny_bind (wpAny_dictEpoch hoo hdo' ?_)
  refine wpAny_bind ?_
  rw [List.range_eq_range']
  refine wpAny_forIn_list _
      (fun rest _ s' => ∃ h' i, s' = { s with heap := h' } ∧ rest = List.range' i (eso.size - i) ∧ i ≤ eso.size ∧ h'.DictOf knd d (more.take i) ∧ h'.get? o = some oo ∧ Heap.SameBut d s.heap h')
      _ ?_ ?_ _ _ ⟨s.heap, 0, rfl, by simp, Nat.zero_le _, by simpa using hd, hoo, Heap.SameBut.refl _ _⟩
  · rintro x rest b s' ⟨h', i, rfl, hr, hi, hd', hoo', hs'⟩
    have hlt : i < eso.size := by
      rcases Nat.lt_or_ge i eso.size with h | h
      · exact h
      · rw [Nat.sub_eq_zero_of_le h] at hr; simp at hr
    obtain ⟨rfl, hrest⟩ : x = i ∧ rest = List.range' (i + 1) (eso.size - (i + 1)) := by
      have e : eso.size - i = (eso.size - (i + 1)) + 1 := by omega
      rw [e, List.range'_succ] at hr
      injection hr with h1 h2
      exact ⟨h1, h2⟩
    refine wpAny_bind (wpAny_dictEntries hoo' hdo' ?_)
    rw [Array.getElem?_eq_getElem hlt]
    have hl2 : x < more.length := by rw [hlen]; exact hlt
    obtain ⟨kv, hkv⟩ : ∃ kv, more[x]? = some kv := ⟨more[x]'hl2, List.getElem?_eq_getElem _⟩
    have hnk : kv.1 ∉ (more.take x).map (·.1) := by
      intro hm
      have e2 : more = more.take x ++ kv :: more.drop (x + 1) := by
        rw [List.getElem?_eq_getElem hl2] at hkv
        injection hkv with e3
        rw [← e3, List.getElem_cons_drop, List.take_append_drop]
      rw [e2, List.map_append, List.nodup_append] at hno
      exact hno.2.2 _ hm _ (List.mem_map.mpr ⟨kv, List.mem_cons_self .., rfl⟩) rfl
    obtain ⟨k, v⟩ := kv
    obtain ⟨hkey, hval⟩ := hpo.get? (e := eso[x]) (by simp [hlt]) hkv
    obtain ⟨k', hkey', hhash⟩ := hko eso[x] (Array.getElem_mem hlt)
    obtain rfl : k' = k := knd.inj _ _ _ hkey' hkey
    dsimp only
    rw [hhash, hval]
    refine wpAny_bind (wpAny_holding (wpAny_bind (find_new hkey hd' hnk ?_)))
    simp only [Option.isSome_none, Bool.false_eq_true, if_false]
    refine put_new hkey hd' hnk (fun h'' hd'' hs'' => ?_) (by rw [List.length_take]; omega)
    have hoo'' : h''.get? o = some oo := (hs''.2 o (Ne.symm hdo)).trans hoo'
    refine wpAny_bind (wpAny_dictEpoch hoo'' hdo' ?_)
    rw [if_neg (by simp)]
    refine wpAny_pure ⟨h'', x + 1, rfl, hrest, hlt, ?_, hoo'', hs'.trans hs''⟩
    rw [List.take_add_one, hkv]
    exact hd''
  · rintro b s' ⟨h', i, rfl, hr, hi, hd', hoo', hs'⟩
    have hin : i = eso.size := by
      rcases Nat.lt_or_ge i eso.size with h | h
      · have e : eso.size - i = (eso.size - (i + 1)) + 1 := by omega
        rw [e, List.range'_succ] at hr; exact nomatch hr
      · exact Nat.le_antisymm hi h
    refine wpAny_pure (hQ h' ?_ ⟨oo, eso, epo, hoo', hco, hdo', hko, hpo, hno⟩ hs')
    rw [hin, ← hlen, List.take_length] at hd'
    exact hd'
end

section
variable {prog : Program} {w : World} {A : Around} {E : Value → Shared → Prop} {s : Shared}
theorem merged_kw {f : Value} {x : Sem Value} {Q : Addr → Shared → Prop}
    (h : wpAny (model prog w) A x (fun v s1 => ∃ (o : Addr) (more : List (Key × Value)), v = .ref o ∧ s.heap.objs.size ≠ o ∧ (o == sysModules) = false ∧ s1.heap.DictOf (mixKind prog w) s.heap.objs.size [] ∧
      s1.heap.DictOf (mixKind prog w) o more ∧ more.length ≤ sizeLine ∧ ∀ h', h'.DictOf (mixKind prog w) s.heap.objs.size more → Heap.SameBut s.heap.objs.size s1.heap h' → Q s.heap.objs.size { s1 with heap := h' })
      E { s with heap := s.heap.push { cls := .type "dict", data := .dict #[] } }) :
    wpAny (model prog w) A (mergedKeywords f [(none, x)]) Q E s := by
  unfold mergedKeywords
  refine wpAny_bind (wpAny_alloc' ?_)
  refine wpAny_bind (wpAny_holding ?_)
  refine wpAny_bind ?_
  rw [List.forIn_cons]
  refine wpAny_bind ?_
  refine wpAny_bind ?_
  refine wpAny_pure (a := ()) ?_
  refine wpAny_bind (wpAny_mono h (fun v s1 h1 => ?_) fun _ _ q => q)
  obtain ⟨o, more, rfl, hne, hS, h0, hm, hz, q⟩ := h1
  refine wpAny_bind (wpAny_onRaise ?_)
  refine wpAny_holding ?_
  refine wpAny_tryCatch ?_
  refine wpAny_onRaise ?_
  refine merge_new hne hS h0 hm (fun h' hd' ho' hs' => ?_) hz
  refine wpAny_pure (a := ForInStep.yield []) ?_
  show wpAny _ _ (forIn ([] : List (Option Str × Sem Value)) _ _) _ _ _
  rw [List.forIn_nil]
  refine wpAny_pure ?_
  refine wpAny_pure (a := ()) ?_
  exact wpAny_pure (q h' hd' hs')
theorem kw_in {f : Value} {d : Addr} {ps : List (Str × Value)} {Q : List (Str × Value) → Shared → Prop} (hd : s.heap.DictOf (mixKind prog w) d (ps.map fun p => (Sum.inr p.1, p.2))) (h : Q ps s) :
    wpAny (model prog w) A (keywordsIn f d) Q E s := by
  obtain ⟨o, es, ep, ho, hc, hdat, hk, hp, hn⟩ := id hd
  unfold keywordsIn
  refine wpAny_bind (wpAny_dictEntries ho hdat ?_)
  refine wpAny_bind ?_
  rw [← Array.forIn_toList]
  refine wpAny_forIn_list _ (fun rest b s' => s' = s ∧ ∃ qs, Pairs (mixKind prog w) rest (qs.map fun p => (Sum.inr p.1, p.2)) ∧ b ++ qs = ps) _ ?_ ?_ _ _ ⟨rfl, ps, hp, rfl⟩
  · rintro e rest b s' ⟨rfl, qs, hq, rfl⟩
    cases qs with
    | nil => exact nomatch hq
    | cons p qs =>
      rw [List.map_cons] at hq
      cases hq with
      | cons h1 h2 h3 =>
        have h1' : keyIs (Sum.inr p.1) e.key = true := h1
        rcases keyIs_shape h1' with ⟨i, t, q, _⟩ | ⟨z, t, q, e1⟩
        · exact nomatch q
        · injection q with q1
          rw [e1]
          refine wpAny_pure ⟨rfl, qs, h3, ?_⟩
          rw [← q1, h2]
          simp
  · rintro b s' ⟨rfl, qs, hq, e⟩
    cases qs with
    | nil =>
      rw [List.append_nil] at e
      rw [e]
      exact wpAny_pure h
    | cons p qs => exact nomatch hq
end
/-! ### the call -/
section
variable {M : Model} {A : Around} {E : Value → Shared → Prop} {s : Shared}
theorem callWith_star {P : Heap → Prop} {args : List (Bool × Sem Value)} {pos : Pos} {f : Value} {first : List Value} {Q : Value → Shared → Prop} {keywords : List (Option Str × Sem Value)} (hst : (args.any (·.1) || keywords.any (·.1.isNone)) = true)
    (hk : ∀ h, P h → ∃ k, (k = Keeper.frame ∨ k = Keeper.machine ∨ k = Keeper.boundFrame) ∧ PySem.W.Looks M h (keeperOf f) k)
    (h : wpAny M A (evalArgs f true args keywords) (fun a s₁ => P s₁.heap ∧ wpAny M A (call f (first ++ a.pos) a.kw) Q E s₁) E s) : wpAny M A (callWith pos f first args keywords) Q E s := by
  unfold callWith
  refine wpAny_bind (wpAny_holding (wpAny_mono h (fun a s₁ h₁ => wpAny_bind (wpAny_standAt ?_)) fun _ _ x => x))
  obtain ⟨k, hk', L⟩ := hk _ h₁.1
  simp only [hst]
  refine wpAny_bind (L.here ?_)
  have tail : ∀ {t : Sem Value}, wpAny M A t Q E s₁ → wpAny M A (t >>= fun r => holding [r] point >>= fun _ => pure r) Q E s₁ :=
    fun ht => wpAny_bind (wpAny_mono ht (fun r s₂ hr => wpAny_bind (wpAny_holding (wpAny_point (wpAny_pure hr)))) fun _ _ x => x)
  have marked (mk : Value) : wpAny M A (callMarked mk f (first ++ a.pos) a.kw) Q E s₁ := by unfold callMarked; exact Calls.wpAny_keep h₁.2
  rcases hk' with rfl | rfl | rfl <;> dsimp only <;> first | exact tail (marked _) | exact tail (wpAny_operateT h₁.2)
theorem args_ss {f : Value} {x : Sem Value} {Q : Args → Shared → Prop}
    (h : wpAny M A (mergedKeywords f [(none, x)]) (fun d s1 => wpAny M A (keywordsIn f d) (fun kw s2 => Q ⟨[], kw⟩ s2) E s1) E s) : wpAny M A (evalArgs f true [] [(none, x)]) Q E s := by
  unfold evalArgs
  show wpAny M A (spliced [] >>= _) Q E s
  refine wpAny_bind (Calls.spliced_nil ?_)
  refine wpAny_bind (wpAny_pure ?_)
  refine wpAny_holding ?_
  rw [if_neg (by simp)]
  refine wpAny_bind (wpAny_mono h (fun d s1 h1 => ?_) fun _ _ q => q)
  refine wpAny_bind (wpAny_pure ?_)
  exact wpAny_bind (wpAny_holding (wpAny_mono h1 (fun kw s2 h2 => wpAny_pure h2) fun _ _ q => q))
end
/-- the dict that stands for the keywords ks with the values zs -/
def dkOf (ks : List Str) (zs : List V) : List (Key × V) := (ks.zip zs).map fun p => (Sum.inr p.1, p.2)
theorem kv_zip : ∀ {ks : List Str} {zs : List V} {vs : List (Key × Value)}, ks.length = zs.length → KV (dkOf ks zs) vs → ∃ ws, Vals zs ws ∧ vs = (ks.zip ws).map fun p => (Sum.inr p.1, p.2)
  | [], [], vs, _, r => by
    cases r
    exact ⟨[], .nil, rfl⟩
  | [], _ :: _, _, h, _ => nomatch h
  | _ :: _, [], _, h, _ => nomatch h
  | k :: ks, z :: zs, vs, h, r => by
    cases r with
    | @cons a b as bs q t =>
      obtain ⟨ws, rw', e⟩ := kv_zip (Nat.succ.inj h) t
      obtain ⟨b1, b2⟩ := b
      have q1 : (Sum.inr k : Key) = b1 := q.1
      subst q1
      exact ⟨b2 :: ws, .cons q.2 rw', by rw [e]; rfl⟩
/-- C(**d): d's keys are the names; a new dict is laid first, then the instance -/
def tMakeSS (C : Addr) (P : List Str → (List V → List V → List V) → Prop) (sp : Sp) (E : XK) (t : TE) : TE := fun σ H Q => ∀ p, H p = none → t σ (upd H p (.dK [])) fun y H1 => H1 p = some (.dK []) ∧ ∃ a ks zs gV, y = .ref a ∧ p ≠ a ∧ Rd H1 a (.dK (dkOf ks zs)) ∧ ks.length = zs.length ∧ P ks gV ∧
  ∀ x dx, upd H1 p (.dK (dkOf ks zs)) x = none → upd H1 p (.dK (dkOf ks zs)) dx = none → dx ≠ x →
    sp (gV [.ref x] zs) (upd (upd (upd H1 p (.dK (dkOf ks zs))) dx (.own x)) x (.ins C dx [])) (fun v H3 => v = .non ∧ Q (.ref x) H3) E
section
variable {X : Cx} {CX : CXT} {k : Nat} {f C : Addr} {fd : FuncData} {ps : List Str} {sp : Sp} {E : XK} {x : Str} {p pos kp : Pos} {e : Expr} {t : TE} {P : List Str → (List V → List V → List V) → Prop}
theorem pe_makeSS (M : Mk X.K C f) (F : FnOk X.prog X.w X.K X.mg X.base CX k f fd ps sp) (hr : Room (k + 1) X.A) (hg : Gl X x) (hm : X.mg x = some (.ref C)) (hb : ∀ ks gV, P ks gV → ∃ g, KBn X.K fd ps 1 ks g gV) (hx : Passes CX X E) (he : PE X e t)
    (hdb : (x == ("__debug__" : Str)) = false := by decide) : PE X (.Call (.Name x p) [] [⟨none, e, kp⟩] pos) (tMakeSS C P sp E t) := by
  refine ⟨fun pins s σ H Q I h => ?_⟩
  refine wpAny_Call_Name_kw (ld_glob I hg hm ?_ hdb)
  refine callWith_star (P := X.K.In) rfl (PySem.W.keeps_K M.kp) ?_
  have hn := I.hok.fresh (Nat.le_refl s.heap.objs.size)
  have I1 := I.laid (a := s.heap.objs.size) (o := .dK []) (h' := s.heap.push { cls := .type "dict", data := .dict #[] }) (t' := s.toks) (fun _ _ q => Heap.get?_push_of_some _ q) (Nat.le_refl _) (dk_empty s.heap I.big)
  refine args_ss (merged_kw ?_)
  show wpAny _ _ (eval e X.env >>= fun v => standAt pos >>= fun _ => pure v) _ _ _
  refine wpAny_bind (thn (he.run pins _ σ _ _ I1 (h _ hn)) fun u s2 ⟨y, H2, I2, ry, e0, a, ks, zs, gV, ey, hpa, ha, hl, hP, q⟩ => ?_)
  refine wpAny_bind (wpAny_standAt (wpAny_pure ?_))
  subst ey
  cases ry
  obtain ⟨z, hd, vs, rel, dd⟩ := dk_rd I2.hok ha
  obtain ⟨ws, rz, ev⟩ := kv_zip hl rel
  subst ev
  obtain ⟨z0, hd0, vs0, r0, dd0⟩ := dk_of I2.hok e0
  cases r0
  refine ⟨a, _, rfl, hpa, hd, dd0, dd, by rw [← rel.length]; exact z, fun h' dd' hs' => ?_⟩
  have he : ∃ q, h'.get? s.heap.objs.size = some q := let ⟨q, _, _, hq, _⟩ := dd'; ⟨q, hq⟩
  have I3 := d_write (t' := s2.toks) I2 (by rw [e0]; exact True.intro) hs' he (dk_new z hd0 rel dd')
  refine kw_in dd' ⟨I3.kIn, ?_⟩
  obtain ⟨g, hbn⟩ := hb ks gV hP
  exact run_makeK (us := []) (vs := []) M F hr hbn hx I3 .nil rz rfl hl.symm q
end

/-! ### d.update(e) -/
/-- d.update(e): both with keys ints and texts -/
def tDUpd (td te : TE) : TE := fun σ H Q => td σ H fun x H1 => ∃ a, x = .ref a ∧ IsD H1 a ∧ te σ H1 fun y H2 => ∃ b kvs more, y = .ref b ∧ a ≠ b ∧ H2 a = some (.dK kvs) ∧ Rd H2 b (.dK more) ∧ kvs.length + more.length ≤ sizeLine ∧
  Q .non (upd H2 a (.dK (mergeK kvs more)))
section
variable {X : Cx} {o e : Expr} {apos cpos : Pos} {td te : TE}
theorem pe_dupd (ho : PE X o td) (he : PE X e te) (m : M1 X o "update" apos e cpos) : PE X (.Call (.Attribute o "update" apos) [e] [] cpos) (tDUpd td te) := by
  refine ⟨fun pins s σ H Q I h => ?_⟩
  refine wpAny_Call_method m.base m.few m.line PySem.F.plainAttrs_dict PySem.F.slot_dict_update PySem.F.type_dict_update (thn (ho.run pins s σ H _ I h) fun u s1 ⟨x, H1, I1, rx, a, ex, d, q1⟩ => ?_)
  subst ex
  obtain rfl : u = Value.ref a := rx
  obtain ⟨t1, t2, _⟩ := isD_at I1 d
  refine ⟨t1, t2, ?_⟩
  rw [m.trees]
  refine Calls.callWith_builtin rfl (Calls.evalArgs_plain (Calls.spliced_cons (thn (he.run pins s1 σ H1 _ I1 q1) fun iv s2 ⟨y, H2, I2, ry, b, kvs, more, ey, hab, ea, eb, hz, q2⟩ => Calls.spliced_nil ?_)))
  subst ey
  obtain rfl : iv = Value.ref b := ry
  obtain ⟨z, hd, vs, rel, dd⟩ := dk_of I2.hok ea
  obtain ⟨zb, hb, ws, relb, db⟩ := dk_rd I2.hok eb
  show wpAny (model X.prog X.w) _ (call (.builtin "dict.update") [.ref a, .ref b]) _ _ _
  refine call_meetsIn PySem.F.slot_dict_update dd.typeIs PySem.F.entry_dict_update (PySem.F.args_dict_update_2 _ _) (meets_dict_update (mixKind X.prog X.w) a b hab hb) ⟨vs, ws, dd, db, by rw [← rel.length, ← relb.length]; exact hz, fun h' dd' _ hs => ?_⟩
  have he : ∃ q, h'.get? a = some q := let ⟨q, _, _, hq, _⟩ := dd'; ⟨q, hq⟩
  exact ⟨.non, _, d_write (t' := s2.toks) I2 (by rw [ea]; exact True.intro) hs he (dk_new (Nat.le_trans (length_mergeK more kvs) hz) hd (relb.merge rel) dd'), rfl, q2⟩
end
end TK
set_option maxHeartbeats 4000000
/-! The binding of C(**d) where all defaults are None: by names, whatever d's keys are. -/
namespace TK
open PySem PySem.Spec PyProof.Rows L2
open PySem.W (Looks)
theorem lookup_app {n : Str} {t : Sl} {v : Value} : ∀ {l : Sl}, l.lookup n = some v → (l ++ t).lookup n = some v
  | [], h => by cases h
  | (a, b) :: r, h => by
    rw [List.cons_append, List.lookup_cons]
    rw [List.lookup_cons] at h
    by_cases e : (n == a) = true
    · rw [e] at h ⊢
      exact h
    · rw [show (n == a) = false by simpa using e] at h ⊢
      exact lookup_app h
theorem lookup_snoc {n : Str} {v : Value} : ∀ {l : Sl}, l.lookup n = none → (l ++ [(n, v)]).lookup n = some v
  | [], _ => by rw [List.nil_append, List.lookup_cons, beq_self_eq_true]
  | (a, b) :: r, h => by
    rw [List.cons_append, List.lookup_cons]
    rw [List.lookup_cons] at h
    by_cases e : (n == a) = true
    · rw [e] at h
      cases h
    · rw [show (n == a) = false by simpa using e] at h ⊢
      exact lookup_snoc h
theorem lookup_snoc_ne {n m : Str} {v : Value} (hne : n ≠ m) : ∀ {l : Sl}, (l ++ [(m, v)]).lookup n = l.lookup n
  | [] => by
    rw [List.nil_append, List.lookup_cons, show (n == m) = false by simpa using hne]
  | (a, b) :: r => by
    rw [List.cons_append, List.lookup_cons, List.lookup_cons, lookup_snoc_ne hne]
theorem fold_look {dv : Str → Value} {n : Str} : ∀ (L : List Str) (s : Sl × List Str), (L.foldl (g2 dv) s).1.lookup n = match s.1.lookup n with
    | some v => some v
    | none => if n ∈ L then some (dv n) else none
  | [], s => by
    rw [List.foldl_nil]
    cases s.1.lookup n <;> rfl
  | m :: L, s => by
    rw [List.foldl_cons, fold_look L]
    unfold g2
    by_cases hm : (s.1.lookup m).isNone = true
    · rw [if_pos hm]
      by_cases e : n = m
      · subst e
        rw [Option.isNone_iff_eq_none] at hm
        rw [hm]
        show (match (s.1 ++ [(n, dv n)]).lookup n with | some v => some v | none => _) = _
        rw [lookup_snoc hm]
        simp
      · show (match (s.1 ++ [(m, dv m)]).lookup n with | some v => some v | none => _) = _
        rw [lookup_snoc_ne e]
        cases s.1.lookup n with
        | some v => rfl
        | none => simp [e]
    · rw [if_neg hm]
      show (match s.1.lookup n with | some v => some v | none => _) = _
      cases q : s.1.lookup n with
      | some v => rfl
      | none =>
        have e : n ≠ m := fun e => by rw [← e, q] at hm; exact hm rfl
        simp [e]
def byName (L ks : List Str) (ws : List Value) : List Value := L.map fun n => ((ks.zip ws).lookup n).getD .none
def byNameV (L ks : List Str) (zs : List V) : List V := L.map fun n => ((ks.zip zs).lookup n).getD .non
theorem bindR_eq {self : Str} {L : List Str} {u : Value} {kw : Sl} (hs : self ∉ L) :
    bindR self L u kw (fun _ => .none) = (self :: L).zip (u :: L.map fun n => (kw.lookup n).getD .none) := by
  have e0 : ∀ n, ((L.foldl (g2 fun _ => Value.none) ((self, u) :: kw, [])).1.lookup n) = match ((self, u) :: kw).lookup n with
    | some v => some v
    | none => if n ∈ L then some .none else none := fun n => fold_look L _
  unfold bindR
  rw [List.singleton_append, List.filterMap_cons, List.zip_cons_cons]
  have e1 : ((L.foldl (g2 fun _ => Value.none) ((self, u) :: kw, [])).1.lookup self) = some u := by
    rw [e0, List.lookup_cons, beq_self_eq_true]
  rw [e1]
  show (self, u) :: _ = _
  congr 1
  have e2 : ∀ M : List Str, (∀ n ∈ M, n ∈ L) → M.filterMap (fun n => ((L.foldl (g2 fun _ => Value.none) ((self, u) :: kw, [])).1.lookup n).map fun x => (n, x)) = M.zip (M.map fun n => (kw.lookup n).getD .none) := by
    intro M
    induction M with
    | nil => intro _; rfl
    | cons n M ih =>
      intro h
      have hn := h n (List.mem_cons_self ..)
      have hne : (n == self) = false := by
        rw [beq_eq_false_iff_ne]
        intro e
        exact hs (e ▸ hn)
      have e3 : ((L.foldl (g2 fun _ => Value.none) ((self, u) :: kw, [])).1.lookup n) = some ((kw.lookup n).getD .none) := by
        rw [e0, List.lookup_cons, hne]
        cases kw.lookup n with
        | some v => rfl
        | none => rw [if_pos hn]; rfl
      rw [List.filterMap_cons, e3, List.map_cons, List.zip_cons_cons, ih fun m hm => h m (List.mem_cons_of_mem _ hm)]
      rfl
  exact e2 L fun _ h => h
theorem rel_look {n : Str} : ∀ {ks : List Str} {zs : List V} {ws : List Value}, Vals zs ws → RelV (((ks.zip zs).lookup n).getD .non) (((ks.zip ws).lookup n).getD .none)
  | [], _, _, _ => rfl
  | _ :: _, _, _, .nil => rfl
  | k :: ks, _, _, .cons h t => by
    rw [List.zip_cons_cons, List.zip_cons_cons, List.lookup_cons, List.lookup_cons]
    by_cases e : (n == k) = true
    · rw [e]
      exact h
    · rw [show (n == k) = false by simpa using e]
      exact rel_look t
theorem rel_byName {ks : List Str} {zs : List V} {ws : List Value} (r : Vals zs ws) : ∀ L : List Str, Vals (byNameV L ks zs) (byName L ks ws)
  | [] => .nil
  | _ :: L => .cons (rel_look r) (rel_byName r L)
/-- the keys that C(**d) may have, and what comes to the parameters -/
def SsOk (self : Str) (L need : List Str) (ks : List Str) (gV : List V → List V → List V) : Prop := (self :: ks).Nodup ∧ (∀ k ∈ ks, k ∈ L) ∧ (∀ k ∈ need, k ∈ ks) ∧ gV = fun vs zs => vs ++ byNameV L ks zs
theorem kbn_ss {K : PySem.W.Frag} {x qual : Str} {params : Arguments} {body : List Stmt} {scope : Scope} {kws : List (Str × V)} {f : Addr} {fd : FuncData} {L need : List Str} {self : Str} (F : FunD K x qual params body scope [] kws f fd) (hkws : kws ≠ [])
    (hnon : ∀ q ∈ kws, q.2 = .non) (h1 : params.posonlyargs.map (·.arg) = []) (h2 : params.args.map (·.arg) = [self]) (h3 : params.kwonlyargs.map (·.arg) = L) (h4 : params.vararg = none) (h5 : params.kwarg = none) (hs : self ∉ L)
    (hcov : ∀ n ∈ L, n ∈ need ∨ n ∈ kws.map (·.1)) : ∀ ks gV, SsOk self L need ks gV → ∃ g, KBn K fd (self :: L) 1 ks g gV := by
  rintro ks gV ⟨nd, hin, hnd, rfl⟩
  obtain ⟨oc, od, dV, kV, doc, pm, an, cdv, ct, osl, rfl, lk, hcd, hD, hK⟩ := F.ex
  have edV : dV = .none := by
    rcases hD with ⟨_, e⟩ | ⟨e, _⟩
    · exact e
    · exact absurd rfl e
  subst edV
  rcases hK with e | ⟨D, rfl, hq⟩
  · exact absurd e hkws
  refine ⟨fun us ws => us ++ byName L ks ws, ⟨fun s us ws X l1 l2 => ?_, fun r1 r2 => r1.append (rel_byName r2 L)⟩⟩
  obtain ⟨u, rfl⟩ : ∃ u, us = [u] := by
    cases us with
    | nil => cases l1
    | cons a r =>
      cases r with
      | nil => exact ⟨a, rfl⟩
      | cons b r => cases l1
  refine BindsTo.of_looks fun M => ?_
  show Looks M s.heap _ ((self :: L).zip (u :: byName L ks ws))
  unfold byName
  rw [← bindR_eq hs]
  refine bind_kw X h1 h2 h3 h4 h5 (List.map_fst_zip (by omega)) nd hin _ fun n hn nk => ?_
  rcases hcov n hn with h | h
  · exact absurd (hnd n h) nk
  · obtain ⟨q, hq1, rfl⟩ := List.mem_map.mp h
    obtain ⟨v, e1, e2⟩ := hq q hq1
    rw [hnon q hq1] at e2
    cases (show v = Value.none from e2)
    exact e1
/-- a class that is made by C(**d) -/
structure MakS (P : Program) (w : World) (K : PySem.W.Frag) (mg : Str → Option Value) (base : Heap) (k : Nat) (x : Str) (C : Addr) (sp : Sp) (S : List Str → (List V → List V → List V) → Prop) : Prop where
  ex : ∃ (f : Addr) (fd : FuncData) (ps : List Str), Mk K C f ∧ FnOk P w K mg base L2.CX0 k f fd ps sp ∧ mg x = some (.ref C) ∧ ∀ ks gV, S ks gV → ∃ g, KBn K fd ps 1 ks g gV
section
variable {X : Cx} {k j : Nat} {C : Addr} {sp : Sp} {x : Str} {p pos kp : Pos} {e : Expr} {t : TE} {S : List Str → (List V → List V → List V) → Prop}
theorem pe_mkSS (c : MakS X.prog X.w X.K X.mg X.base k x C sp S) (hr : Room j X.A) (hk : k + 1 ≤ j) (hg : Gl X x) (he : PE X e t) (hdb : (x == ("__debug__" : Str)) = false := by decide) : PE X (.Call (.Name x p) [] [⟨none, e, kp⟩] pos) (tMakeSS C S sp L2.E0 t) := by
  obtain ⟨f, fd, ps, M, F, hm, b⟩ := c.ex
  exact pe_makeSS M F (hr.mono hk) hg hm b L2.pass0 he hdb
end
end TK
set_option maxHeartbeats 2000000
/-! Methods called with keywords. -/
namespace TK
open PySem PySem.Spec PyProof.Rows L2
structure MetK (P : Program) (w : World) (K : PySem.W.Frag) (mg : Str → Option Value) (base : Heap) (k : Nat) (C : Addr) (m : Str) (sp : Sp) (n : Nat) (ks : List Str) (gV : List V → List V → List V) : Prop where
  ex : ∃ (f : Addr) (fd : FuncData) (ps : List Str) (g : List Value → List Value → List Value), Cls K C ∧ Meth K C m f ∧ FnOk P w K mg base L2.CX0 k f fd ps sp ∧ KBn K fd ps (n + 1) ks g gV
def tMethK (C : Addr) (m : Str) (sp : Sp) (n l : Nat) (gV : List V → List V → List V) (ta : TE) (t tk : TA) : TE := fun σ H Q => ta σ H fun x H1 => ∃ a dx fs, x = .ref a ∧ H1 a = some (.ins C dx fs) ∧ fs.lookup m = none ∧
  t σ H1 fun vs H2 => tk σ H2 fun zs H3 => vs.length = n ∧ zs.length = l ∧ sp (gV (x :: vs) zs) H3 Q L2.E0
section
variable {X : Cx} {k j n : Nat} {C : Addr} {m : Str} {sp : Sp} {pos apos : Pos} {o e : Expr} {es : List Expr} {kws : List Keyword} {ks : List Str} {ta : TE} {t tk : TA} {gV : List V → List V → List V}
theorem run_fnK {k : Nat} {f : Addr} {fd : FuncData} {ps ks : List Str} {g : List Value → List Value → List Value} {pins : List (Addr × Obj)} {σ : L2.St} {H : Hp} {s : Shared} {Q : VK} {us ws : List Value} {vs zs : List V} (F : FnOk X.prog X.w X.K X.mg X.base L2.CX0 k f fd ps sp) (hr : Room k X.A) (hb : KBn X.K fd ps n ks g gV)
    (I : Inv X pins σ H s) (r : Vals vs us) (rz : Vals zs ws) (l1 : vs.length = n) (l2 : zs.length = ks.length) (h : sp (gV vs zs) H Q L2.E0) : wpAny (model X.prog X.w) X.A (call (.ref f) us (ks.zip ws)) (EP X pins σ Q) X.xe s := by
  have r2 := hb.rel r rz
  refine wpAny_call (codeAny_mono (F.run X.A X.stack s H ⟨us, ks.zip ws⟩ (g us ws) (gV vs zs) Q L2.E0 hr I.env0 (hb.to s us ws I.kIn (r.length.symm.trans l1) (rz.length.symm.trans l2)) r2 h) fun r s' hq => ?_)
  cases r with
  | error e => exact L2.pass0 pins σ H s e s' I hq
  | ok fl =>
    cases fl with
    | ret u => exact I.after hq
    | next => exact False.elim hq
    | brk => exact False.elim hq
    | cont => exact False.elim hq
theorem pe_mtK {pl : Sem Bool} (c : MetK X.prog X.w X.K X.mg X.base k C m sp n ks gV) (hr : Room j X.A) (hk : k ≤ j) (he : PE X o ta) (ha : PA X (e :: es) t) (hkw : PK X kws tk)
    (hall : (backToKw pos (keywordEach kws X.env)).all (·.1.isSome) = true := by rfl) (hks : (backToKw pos (keywordEach kws X.env)).filterMap (·.1) = ks := by rfl)
    (hst : starEach (e :: es) X.env = (false, eval e X.env) :: starEach es X.env := by rfl) (hpl : ((backTo pos (starEach (e :: es) X.env)).any (·.1) || (backToKw pos (keywordEach kws X.env)).any (·.1.isNone)) = false := by rfl)
    (ht : eval (.Call (.Attribute o m apos) (e :: es) kws pos) X.env = (do
      let ov ← eval o X.env
      standAt apos.atName
      let (f, first) ← holding [ov] (getMethod ov m pl)
      callWith pos f first (backTo pos (starEach (e :: es) X.env)) (backToKw pos (keywordEach kws X.env))) := by rfl) :
    PE X (.Call (.Attribute o m apos) (e :: es) kws pos) (tMethK C m sp n ks.length gV ta t tk) := by
  obtain ⟨f, fd, ps, g, hc, hm, F, b⟩ := c.ex
  refine ⟨fun pins s σ H Q I h => ?_⟩
  refine PySem.W.methodCall_KW (pl := pl) (thn (he.run pins s σ H _ I h) fun u s1 ⟨x, H1, I1, rx, a, dx, fs, ex, ea, l, q⟩ => ?_) ht
  subst ex
  obtain rfl : u = Value.ref a := rx
  refine getmeth_ok I1 ea hc hm l ?_
  refine PySem.W.callWith_KW (first := [.ref a]) (h₀ := X.base) I.ok.mod.kin hm.kp hall (thn (ha.run pos pins s1 σ H1 _ I1 q) fun us s2 ⟨vs, H2, I2, r, q2⟩ => ?_) hpl hst
  refine thn (hkw.run pos pins s2 σ H2 _ I2 q2) fun ws s3 ⟨zs, H3, I3, rz, l1, l2, q3⟩ => ⟨I3.kIn, ?_⟩
  rw [hks]
  exact run_fnK (us := .ref a :: us) (vs := .ref a :: vs) F (hr.mono hk) b I3 (.cons rfl r) rz (congrArg Nat.succ l1) l2 q3
end
section
variable {P : Program} {w : World} {K : PySem.W.Frag} {mg : Str → Option Value} {base : Heap}
/-- a method with positional defaults, all of them given by keywords in their order -/
theorem metK_of {C : Addr} {n qual : Str} {params : Arguments} {body : List Stmt} {scope : Scope} {dvs : List V} {f : Addr} {fd : FuncData} {ps ks : List Str} {k m : Nat} {sp : Sp} (c : Cls K C) (me : Meth K C n f) (F : FunD K n qual params body scope dvs [] f fd) (G : FnOk P w K mg base L2.CX0 k f fd ps sp) (hd : dvs ≠ [])
    (h : ∀ (T : Addr) (kV doc pm : Value) (an : Option Addr) (cdv ct : Value) (us its ws : List Value), us.length = m + 1 → its.length = dvs.length → ws.length = ks.length →
      ∃ k, bindArgs (PySem.W.fnOf n qual params body scope (.ref T) kV doc pm an cdv ct) ⟨us, ks.zip ws⟩ = seqItems? (.ref T) >>= k ∧ k (some its.toArray) = pure (ps.zip (us ++ ws))) : MetK P w K mg base k C n sp m ks (fun vs zs => vs ++ zs) := by
  obtain ⟨its, b⟩ := F.kbindsD (m + 1) ks (fun us _ ws => us ++ ws) hd (fun r1 _ r3 => r1.append r3) h
  exact ⟨f, fd, ps, _, c, me, G, b⟩
end
end TK
set_option maxHeartbeats 2000000
/-! Own exceptions over own classes over ValueError, whose __init__ says super().__init__(text) and keeps one field. -/
namespace TKE
open PySem PySem.Spec PyProof.Rows L2
structure SupTxt (K : PySem.W.Frag) (P : Program) (C fI cda cc : Addr) : Prop where
  oex : OexC K C
  iC : PySem.W.findIn K (.ref C) "__init__" = some (some (.ref fI))
  tI : PySem.W.typeIn K (.ref fI) = some (.type "function")
  sup : PySem.W.ks_superIn K C C "__init__" = some (some (.builtin "ValueError.__init__"))
  subVE : PySem.W.subIn K (.ref C) (.type "ValueError") = some true
  mroC : PySem.W.mroIn K C (.ref C) = some true
  hop : PySem.W.nsIn K cStatics "thirdparty.any" = some none
  code : ∃ ccl cdd vs ccs file tf, K.lookup cda = some ⟨ccl, cdd, .fields vs, ccs⟩ ∧ vs[2]? = some (.str file tf) ∧ ((P.main.file : Str) == file) = true
  cell : ∃ cl cld csl, K.lookup cc = some ⟨cl, cld, .cell (some (.ref C)), csl⟩
section
variable {prog : Program} {w : World} {A : Around} {E : Value → Shared → Prop} {h : Heap} {g : Array GenState} {d : Drawn} {t : Nat} {os : OsState}
/-- the bound ValueError.__init__, called -/
theorem mw_call {nm q : Str} {C N u a t0 : Addr} {bs bm : List Value} {hdct : Bool} {sn : List Str} {sub : List Value} {ab : Bool} {col : Option Bool} {dd : Option Addr} {k0 k1 k2 k3 k5 : Option Value} {rest : List Value} {Q : Value → Shared → Prop}
    (hC : h.get? C = some (excClassObj nm q C N bs bm hdct sn sub ab col dd k0 k1 k2 k3 k5 "ValueError.__new__"))
    (he : h.get? a = some ({ cls := .ref C, dict := none, data := .fields #[.ref t0, .none, .none, .none, .bool false, .none] } : Obj)) (hu : h.get? u = some (PySem.W.kxs_mw "ValueError.__init__" a)) (hz : rest.length ≤ sizeLine)
    (hq : ∀ h' t', (∀ b o, b ≠ a → h.get? b = some o → h'.get? b = some o) → h'.get? a = some ({ cls := .ref C, dict := none, data := .fields #[.ref t', .none, .none, .none, .bool false, .none] } : Obj) → Q .none ⟨h', g, d, t, os⟩) :
    wpAny (model prog w) A (call (.ref u) rest) Q E ⟨h, g, d, t, os⟩ := by
  have FB := F.excBase_ValueError
  refine wpAny_call (codeAny_of_tree ?_)
  change wpAny _ A.in1 (callAny (.ref u) ⟨rest, []⟩) _ _ _
  simp only [callAny]
  refine wpAny_bind (wpAny_load hu ?_)
  have em : (Value.type "method-wrapper" == Value.type "method" || Value.type "method-wrapper" == Value.type "builtin_function_or_method" || Value.type "method-wrapper" == Value.type "method-wrapper") = true := by decide
  simp only [PySem.W.kxs_mw, em, if_true]
  refine PySem.W.KFB.if_so (by decide) ?_
  refine wpAny_bind (PySem.W.check_bound_init FB.toExcCallFacts hC he rfl (wpAny_bind (wpAny_pure (wpAny_pure ?_))))
  refine ⟨plainId_quiet FB.init.plain _, codeAny_builtin FB.initEntry (PySem.W.exc_init_tree (t0 := t0) (cls := .ref C) (dv := none) (c2 := .none) (c3 := .none) (b4 := .bool false) he hz fun h' k e' _ => hq h' _ k e')⟩
end
theorem boot_super : bootBuiltins "super" = some (.type "super") := by first | boot_by_name | rfl | kernel_rfl
section
variable {X : Cx} {pins : List (Addr × Obj)} {σ : L2.St} {H : Hp} {s : Shared} {C fI cda cc a : Addr} {body : List Stmt} {p0 p1 apos pos pos' : Pos} {e : Expr} {te : TE} {pl : Sem Bool} {fd : FuncData} {ar : Arg} {Q' : Hp → Prop} {oc : Value} {od : Option Addr} {osl : Array (Option Value)}
theorem sup_stmt (T : SupTxt X.K X.prog C fI cda cc) (hfu : X.env.func = some fI) (hf : X.K.lookup fI = some ⟨oc, od, .func fd, osl⟩) (hp : (fd.params.posonlyargs ++ fd.params.args).head? = some ar) (hco : X.env.code = .ref cda)
    (hks : X.env.kindOf "super" = some .globalImplicit) (hkc : X.env.kindOf "__class__" = some .free) (hcl : X.env.cells.lookup ("__class__" : Str) = some cc) (hka : X.env.kindOf ar.arg = some .local) (hN : X.N[0]? = some ar.arg)
    (hm : X.mg "super" = none) (htop : (X.prog.main.scope.names.lookup ("super" : Str)).isSome = false)
    (I : Inv X pins σ H s) (hσ : σ[0]? = some (some (.ref a))) (ha : H a = some (exo a C none)) (he : PE X e te) (h : te σ H fun v H1 => H1 a = some (exo a C none) ∧ Q' H1 ∧ [v].length = 1)
    (hev : eval (.Call (.Attribute (.Call (.Name "super" p0) [] [] p1) "__init__" apos) [e] [] pos) X.env = (do
      let ov ← attributeBase (.Call (.Name "super" p0) [] [] p1) "__init__" X.env (eval (.Call (.Name "super" p0) [] [] p1) X.env)
      standAt apos.atName
      let (f, first) ← holding [ov] (getMethod ov "__init__" pl)
      callWith pos f first (backTo pos (starEach [e] X.env)) []))
    (hi : interactive X.env = false) (hsw : swapsWith (.Call (.Attribute (.Call (.Name "super" p0) [] [] p1) "__init__" apos) [e] [] pos) none pos'.line X.env = pure false)
    (hst : starEach [e] X.env = (false, eval e X.env) :: starEach [] X.env) :
    _root_.PySem.wpAt (model X.prog X.w) X.A (.func body X.env) (exec (.Expr (.Call (.Attribute (.Call (.Name "super" p0) [] [] p1) "__init__" apos) [e] [] pos) pos') X.env) (fun fl s' => fl = .next ∧ ∃ H1, Inv X pins σ H1 s' ∧ Q' H1) X.xe s := by
  have KX := I.kIn
  refine ks_wpAt_Expr_any (ks_wpAt_MethodCall (pl := pl) ?_ hev) hi hsw
  obtain ⟨ccl, cdd, vs, ccs, file, tf, hcd, hvs, hfile⟩ := T.code
  obtain ⟨cl, cld, csl, hcc⟩ := T.cell
  refine ks_wpAt_super_base hks hkc (by decide) hfu (KX _ _ hf) rfl hp hco (KX _ _ hcd) rfl hvs hfile htop ?_
  obtain ⟨mb, hb1, hb2⟩ := I.mod.blt
  refine PySem.W.ks_loadName_global I.ok.kind hks (Calls.loadGlobal_builtin (by rw [I.ok.glob]; exact I.mod.glob.keeps I.bk) hm (by rw [I.ok.blt]; exact hb1.keeps I.bk) ((hb2 _ (by decide)).trans boot_super) ⟨rfl, ?_⟩)
  refine wpAny_loadName_free I.ok.kind hkc hcl ⟨_, KX _ _ hcc, rfl⟩ ?_
  obtain ⟨m, hns, hloc⟩ := I.loc
  obtain ⟨u, ru, hlk⟩ := hloc 0 ar.arg (.ref a) hN hσ (.inl hka)
  obtain rfl : u = Value.ref a := ru
  have hv : m ar.arg = some (.ref a) := by
    rcases hlk with ⟨_, z⟩ | ⟨z, _⟩
    · exact z
    · rw [hka] at z
      rcases z with z | z <;> cases z
  refine wpAny_loadName_local I.ok.kind hka hns hv ?_
  obtain ⟨nm, q, N, bs, bm, sn, sub, ab, col, dd, k0, k1, k2, k3, k5, hC, hbm⟩ := T.oex.cls
  obtain ⟨t1, ho⟩ := exo_at I.hok ha
  have hkC := KX _ _ hC
  obtain ⟨hp0, g, d, t, os⟩ := s
  refine ks_wpAny_isType_cls hkC rfl ⟨rfl, ?_⟩
  refine ks_wpAny_call_super hkC rfl ho rfl (fun c z => nomatch z) (PySem.W.looks_mroIn KX T.mroC) (fun h1 e1 kk => ?_)
  have I1 : Inv X pins σ H ⟨h1, g, d, t, os⟩ := I.kept (t' := t) kk
  have ho1 := kk _ _ ho
  have aC : a ≠ C := fun z => by
    rw [z] at ho
    have := ho.symm.trans hkC
    cases this
  have hcls : PySem.W.clsIn X.K C = some { name := nm, bases := bs, mro := .ref C :: bm, ns := N, qualname := q, hasDict := true, slotNames := sn, subclasses := sub, abstract := ab, collection := col, hasDel := false } := by unfold PySem.W.clsIn; rw [hC] <;> rfl
  have hsup := T.sup
  unfold PySem.W.ks_superIn at hsup
  rw [hcls] at hsup
  have II : PySem.W.InstAt h1 a ({ cls := .ref C, dict := none, data := .fields #[.ref t1, .none, .none, .none, .bool false, .none] } : Obj) C none := ⟨ho1, rfl, rfl, trivial⟩
  refine PySem.W.kxs_getMethod PySem.W.kxs_ValueError e1 (PySem.W.looks_opaque I1.kIn T.hop) (fun A Q E s k q => wpAny_bind ((PySem.W.looks_clsIn I1.kIn hcls) A _ E s k (wpAny_pure q))) rfl I1.kIn hsup (II.type.andThen (PySem.W.looks_subIn I1.kIn T.subVE)) aC (by decide) ?_
  have I2 : Inv X ((h1.objs.size, PySem.W.kxs_mw "ValueError.__init__" a) :: pins) σ H ⟨h1.push (PySem.W.kxs_mw "ValueError.__init__" a), g, d, t + 1, os⟩ :=
    ClX.pin_new I1 (fun b o z => Heap.get?_push_of_some _ z) (Nat.le_refl _) (Heap.get?_push_at rfl rfl) (fun v z => nomatch z)
  refine PySem.W.kxs_callWith (i := "ValueError.__init__") (x := a) (by rw [hst]; rfl) ?_
  rw [hst]
  refine Calls.evalArgs_plain ?_
  have hpa := (pa_cons he pa_nil hst).run pos _ _ σ H (fun vs H1 => H1 a = some (exo a C none) ∧ Q' H1 ∧ vs.length = 1) I2 h
  rw [hst] at hpa
  refine thn hpa fun us s2 ⟨vs2, H2, I3, r, q1, q2, q3⟩ => ?_
  obtain ⟨t2, ho2⟩ := exo_at I3.hok q1
  refine ⟨ClX.pin_at I3, ?_⟩
  obtain ⟨hp2, g2, d2, t2', os2⟩ := s2
  refine mw_call (I3.kIn _ _ hC) ho2 (ClX.pin_at I3) (by show us.length ≤ sizeLine; rw [← r.length, q3]; decide) fun h' t' k' e' => ⟨rfl, H2, ?_, q2⟩
  have J := (ClX.unpin I3).write (t' := t2') (x := a) (e := a) (o := exo a C none) (by rw [q1]; exact True.intro) (.inl rfl) k' ⟨_, e'⟩ (exo_ok e')
  have eu : upd H2 a (exo a C none) = H2 := by
    funext b
    by_cases hb : b = a
    · rw [hb, upd_same, q1]
    · rw [upd_ne hb]
  rw [eu] at J
  exact J
end
end TKE
set_option maxHeartbeats 2000000
set_option pp.maxSteps 300
/-! The __init__ of such an exception as a def; raising it; makers that may raise; isinstance of a caught one. -/
namespace TKE
open PySem PySem.Spec PyProof.Rows L2 NdefX
section
variable {P : Program} {w : World} {K : PySem.W.Frag} {mg : Str → Option Value} {base : Heap}
abbrev supN (x : Str) : List Str := ["self", x, "__class__"]
abbrev supF (qual : Str) (params : Arguments) (body : List Stmt) (scope : Scope) (cda cc : Addr) : NF := ⟨"__init__", qual, params, body, scope, [("__class__", cc)], cda⟩
theorem fnok_sup {C fI cda cc : Addr} {qual x : Str} {params : Arguments} {body : List Stmt} {scope : Scope} {doc pm ct : Value} {an : Option Addr} {oc : Value} {od : Option Addr} {osl : Array (Option Value)} {sp : Sp}
    {p0 p1 apos pos pos' : Pos} {e : Expr} {rest : List Stmt} {ar : Arg} {pl : Sem Bool}
    (T : SupTxt K P C fI cda cc)
    (hK : K.lookup fI = some ⟨oc, od, .func (PySem.W.fnX "__init__" qual params body scope [("__class__", cc)] .none .none doc pm an (.ref cda) ct), osl⟩) (hcd : PySem.W.codeIn K (.ref cda) qual = true)
    (S : NScope (supN x) ["self", x] ["__class__"] scope) (hsup : scope.names.lookup ("super" : Str) = some .globalImplicit) (hcls : scope.names.lookup ("__class__" : Str) = some .free)
    (hp : (params.posonlyargs ++ params.args).head? = some ar) (har : ar.arg = "self")
    (hbody : body = .Expr (.Call (.Attribute (.Call (.Name "super" p0) [] [] p1) "__init__" apos) [e] [] pos) pos' :: rest)
    (hm : mg "super" = none) (htop : (P.main.scope.names.lookup ("super" : Str)).isSome = false)
    (len : ∀ vs H Q E, sp vs H Q E → vs.length = 2)
    (hb : ∀ (A : Around) (outer : List Env) (s : Shared) (H : Hp) (vs : List V) (Q : VK) (E : XK), sp vs H Q E → ∃ (a : Addr) (y : V) (te : TE) (t2 : TS), vs = [.ref a, y] ∧ H a = some (exo a C none) ∧
      PE (ncx CX0 P w K mg base (supN x) (supF qual params body scope cda cc) fI A outer s H E) e te ∧ PSs (ncx CX0 P w K mg base (supN x) (supF qual params body scope cda cc) fI A outer s H E) rest t2 ∧
      te (startF (supN x) vs [none]) H fun v H1 => H1 a = some (exo a C none) ∧ t2 { nx := fun _ H' => Q .non H', rt := Q } (startF (supN x) vs [none]) H1 ∧ [v].length = 1)
    (hev : ∀ (A : Around) (outer : List Env) (s : Shared) (H : Hp) (E : XK), eval (.Call (.Attribute (.Call (.Name "super" p0) [] [] p1) "__init__" apos) [e] [] pos) (ncx CX0 P w K mg base (supN x) (supF qual params body scope cda cc) fI A outer s H E).env = (do
      let ov ← attributeBase (.Call (.Name "super" p0) [] [] p1) "__init__" (ncx CX0 P w K mg base (supN x) (supF qual params body scope cda cc) fI A outer s H E).env (eval (.Call (.Name "super" p0) [] [] p1) (ncx CX0 P w K mg base (supN x) (supF qual params body scope cda cc) fI A outer s H E).env)
      standAt apos.atName
      let (f, first) ← holding [ov] (getMethod ov "__init__" pl)
      callWith pos f first (backTo pos (starEach [e] (ncx CX0 P w K mg base (supN x) (supF qual params body scope cda cc) fI A outer s H E).env)) []))
    (hi : ∀ (A : Around) (outer : List Env) (s : Shared) (H : Hp) (E : XK), interactive (ncx CX0 P w K mg base (supN x) (supF qual params body scope cda cc) fI A outer s H E).env = false)
    (hsw : ∀ (A : Around) (outer : List Env) (s : Shared) (H : Hp) (E : XK), swapsWith (.Call (.Attribute (.Call (.Name "super" p0) [] [] p1) "__init__" apos) [e] [] pos) none pos'.line (ncx CX0 P w K mg base (supN x) (supF qual params body scope cda cc) fI A outer s H E).env = pure false)
    (hst : ∀ (A : Around) (outer : List Env) (s : Shared) (H : Hp) (E : XK), starEach [e] (ncx CX0 P w K mg base (supN x) (supF qual params body scope cda cc) fI A outer s H E).env = (false, eval e (ncx CX0 P w K mg base (supN x) (supF qual params body scope cda cc) fI A outer s H E).env) :: starEach [] (ncx CX0 P w K mg base (supN x) (supF qual params body scope cda cc) fI A outer s H E).env) :
    FnOk P w K mg base CX0 1 fI (PySem.W.fnX "__init__" qual params body scope [("__class__", cc)] .none .none doc pm an (.ref cda) ct) ["self", x] sp := by
  refine ⟨len, fun A outer s H args us vs Q E hr e0 hbi r hsp => ?_⟩
  have KX : K.In s.heap := e0.mod.kin.keeps fun b o z => (e0.bs b o z).1
  have lim : s.heap.NoLimit := e0.mod.nolimit.keeps fun b o z => (e0.bs b o z).1
  have hl : vs.length = (["self", x] : List Str).length := len _ _ _ _ hsp
  obtain ⟨cl, cld, csl, hcc⟩ := T.cell
  have cat : CellsAt [("__class__", cc)] ["__class__"] [none] s.heap H := by
    have hcell : s.heap.IsCell cc (some (.ref C)) := ⟨_, KX _ _ hcc, rfl⟩
    have hnone : H cc = none := (e0.bs cc _ (e0.mod.kin _ _ hcc)).2
    have key : ∀ (y : Str) (c : Addr), List.lookup y [(("__class__" : Str), cc)] = some c → c = cc ∧ y = "__class__" := by
      intro y c hy
      rw [List.lookup_cons] at hy
      by_cases q : (y == ("__class__" : Str)) = true
      · rw [q] at hy
        exact ⟨(Option.some.inj hy).symm, beq_iff_eq.mp q⟩
      · rw [show (y == ("__class__" : Str)) = false by simpa using q] at hy
        cases hy
    refine ⟨rfl, fun y c hy => ?_, fun y z c h1 h2 => ?_, fun i y hy => ?_⟩
    · obtain ⟨rfl, _⟩ := key y c hy
      exact ⟨hnone, _, hcell⟩
    · rw [(key y c h1).2, (key z c h2).2]
    · refine ⟨cc, ?_, fun v hv => ?_⟩
      · match i, hy with
        | 0, hy =>
          cases hy
          rfl
      · match i, hv with
        | 0, hv => cases hv
  obtain ⟨a, y, te, t2, ev, ha, he, h2, hq⟩ := hb A outer s H vs Q E hsp
  refine ks_codeAny_call_defAt (fd := PySem.W.fnX "__init__" qual params body scope [("__class__", cc)] .none .none doc pm an (.ref cda) ct) (body := body) (binds := (["self", x] : List Str).zip us) hr.depth (KX _ _ hK) rfl lim (PySem.W.codeRec_of KX hcd) rfl hbi S.nocell
    (fun ⟨n, _⟩ hy => S.par n (List.of_mem_zip hy).1) (fun h₁ hns kp => ?_) S.co S.gen S.kind
  have I : Inv (ncx CX0 P w K mg base (supN x) (supF qual params body scope cda cc) fI A outer s H E) [] (startF (supN x) vs [none]) H { s with heap := h₁, toks := s.toks + ((["self", x] : List Str).zip us).length } := inv_startN S hr.hd e0 hl r cat hns kp
  have hT : SupTxt (ncx CX0 P w K mg base (supN x) (supF qual params body scope cda cc) fI A outer s H E).K (ncx CX0 P w K mg base (supN x) (supF qual params body scope cda cc) fI A outer s H E).prog C fI cda cc := T
  have q1 := sup_stmt (body := body) (pl := pl) (ar := ar) hT rfl hK hp rfl hsup hcls rfl (by rw [har]; exact S.par _ (List.mem_cons_self ..)) (by rw [har]; rfl) hm htop I (by rw [ev]; rfl) ha he hq (hev A outer s H E) (hi A outer s H E) (hsw A outer s H E) (hst A outer s H E)
  have fin : ∀ {σ' : L2.St} {H' : Hp} {v : V} {u : Value} {s' : Shared}, Inv (ncx CX0 P w K mg base (supN x) (supF qual params body scope cda cc) fI A outer s H E) [] σ' H' s' → RelV v u → Q v H' → CE outer P w H s Q u s' := fun {σ' H' v u s'} J rv q => ⟨v, H', J.os, J.bare, J.base, J.hok, rv, q⟩
  rw [hbody] at q1 ⊢
  refine ks_wpAt_execs_cons (ks_wpAt_mono q1 (fun fl s' hfl => ?_) fun e s' z => z)
  obtain ⟨rfl, H1, I1, q⟩ := hfl
  refine wpAt_of_wpAny (wpAny_mono (h2.run [] _ _ H1 _ I1 q) (fun fl s' hs => ?_) fun e s' z => z)
  cases fl with
  | ret u =>
    obtain ⟨v, σ', H', J, rv, q⟩ := hs
    exact fin J rv q
  | next =>
    obtain ⟨σ', H', J, q⟩ := hs
    exact fin (v := V.non) (u := Value.none) J rfl q
  | brk =>
    obtain ⟨_, _, _, z⟩ := hs
    exact False.elim z
  | cont =>
    obtain ⟨_, _, _, z⟩ := hs
    exact False.elim z
end
end TKE
set_option maxHeartbeats 2000000
set_option pp.maxSteps 300
/-! Raising such an exception; makers that may raise; isinstance of a caught one. -/
namespace TKE
open PySem PySem.Spec PyProof.Rows L2 NdefX TK
/-- the promise of its __init__ -/
def spExc (C : Addr) (fld : Str) (ok : V → Prop) : Sp := fun vs H Q _ => ∃ (a : Addr) (y : V), vs = [.ref a, y] ∧ ok y ∧ H a = some (exo a C none) ∧ ∀ dx, H dx = none → dx ≠ a → Q .non (upd (upd H dx (exd dx [(fld, y)])) a (exo a C (some dx)))
section
variable {P : Program} {w : World} {K : PySem.W.Frag} {mg : Str → Option Value} {base : Heap}
structure ExcMk (P : Program) (w : World) (K : PySem.W.Frag) (mg : Str → Option Value) (base : Heap) (x : Str) (C : Addr) (fld : Str) (ok : V → Prop) : Prop where
  ex : ∃ (fI : Addr) (fd : FuncData) (ps : List Str), OexC K C ∧ PySem.W.findIn K (.ref C) "__init__" = some (some (.ref fI)) ∧ PySem.W.typeIn K (.ref fI) = some (.type "function") ∧ FnOk P w K mg base CX0 1 fI fd ps (spExc C fld ok) ∧ Binds K fd ps [] ∧ mg x = some (.ref C)
end
section
variable {X : Cx} {W : WX} {C : Addr} {x fld : Str} {ok : V → Prop} {p pos pos' : Pos} {e : Expr} {es : List Expr} {te : TE} {j : Nat}
theorem ps_raiseE (c : ExcMk X.prog X.w X.K X.mg X.base x C fld ok) (hc : X.calm = true) (tk : Takes X W) (hr : Room j X.A) (hk : 2 ≤ j) (hg : Gl X x) (he : PE X e te)
    (hdb : (x == ("__debug__" : Str)) = false := by decide) (hs : starEach (e :: es) X.env = (false, eval e X.env) :: starEach es X.env := by rfl) (hes : es = [] := by rfl) (hpl : (backTo pos (starEach es X.env)).any (·.1) = false := by rfl) :
    PS X (.Raise (some (.Call (.Name x p) (e :: es) [] pos)) none pos') (fun _ σ H => te σ H fun y H1 => ok y ∧ ∀ d, H1 d = none → W (.ref C) (some d) σ (upd H1 d (.xd [(fld, y)]))) := by
  subst hes
  obtain ⟨fI, fd, ps, T, iC, tI, F1, hb, hm⟩ := c.ex
  refine ⟨fun pins s σ H D I h => ?_⟩
  refine (ps_raise hc tk (pmk_oex T iC tI F1 (hr.mono hk) hb .nil (fun _ _ _ _ _ _ _ z => z.elim) hg hm (pa_cons (pe_cut he) pa_nil hs) hdb hs hpl)).run pins s σ H D I ?_
  refine ⟨_, h, fun y H1 hy => ⟨by show 1 ≤ 1000; decide, fun a ha => ⟨a, y, rfl, hy.1, upd_same, fun dx hdx hne => ⟨rfl, dx, [(fld, y)], upd_same, ?_, ?_, ?_⟩⟩⟩⟩
  · rw [upd_ne hne, upd_same]
  · rw [upd_ne hne] at hdx
    exact hdx
  · have hd1 : H1 dx = none := by
      rw [upd_ne hne] at hdx
      exact hdx
    have q := hy.2 dx hd1
    have eh : upd (L2.del (upd (upd (upd H1 a (exo a C none)) dx (exd dx [(fld, y)])) a (exo a C (some dx))) a) dx (.xd [(fld, y)]) = upd H1 dx (.xd [(fld, y)]) := by
      funext b
      by_cases h1 : b = dx
      · rw [h1, upd_same, upd_same]
      · rw [upd_ne h1, upd_ne h1]
        by_cases h2 : b = a
        · rw [h2, L2.del_same, ha]
        · rw [L2.del_ne h2, upd_ne h2, upd_ne h1, upd_ne h2]
    rw [eh]
    exact q
end
/-! ### makers that may raise -/
section
variable {P : Program} {w : World} {K : PySem.W.Frag} {mg : Str → Option Value} {base : Heap}
structure MakX (P : Program) (w : World) (K : PySem.W.Frag) (mg : Str → Option Value) (base : Heap) (k : Nat) (x : Str) (C : Addr) (sp : Sp) (n : Nat) (ks : List Str) (gV : List V → List V → List V) : Prop where
  ex : ∃ (f : Addr) (fd : FuncData) (ps : List Str) (g : List Value → List Value → List Value), Mk K C f ∧ FnOk P w K mg base (L2.CX P w) k f fd ps sp ∧ mg x = some (.ref C) ∧ KBn K fd ps (n + 1) ks g gV
/-- C(e, ..) as an expression: at σ, what it lets out is WE W σ -/
def tMakX (C : Addr) (n m : Nat) (sp : Sp) (gV : List V → List V → List V) (E : L2.St → XK) (t tk : TA) : TE := fun σ H Q => t σ H fun vs H1 => tk σ H1 fun zs H2 => vs.length = n ∧ zs.length = m ∧ ∀ x dx, H2 x = none → H2 dx = none → dx ≠ x →
  sp (gV (.ref x :: vs) zs) (upd (upd H2 dx (.own x)) x (.ins C dx [])) (fun v H3 => v = .non ∧ Q (.ref x) H3) (E σ)
end
section
variable {X : Cx} {W : WX} {k j n : Nat} {f C : Addr} {fd : FuncData} {ps ks : List Str} {sp : Sp} {x : Str} {p pos : Pos} {e : Expr} {es : List Expr} {kws : List Keyword} {t tk : TA} {g : List Value → List Value → List Value} {gV : List V → List V → List V}
theorem run_makX {pins : List (Addr × Obj)} {σ : L2.St} {H : Hp} {s : Shared} {Q : VK} {us ws : List Value} {vs zs : List V} {E : XK} (M : Mk X.K C f) (F : FnOk X.prog X.w X.K X.mg X.base (L2.CX X.prog X.w) k f fd ps sp) (hr : Room (k + 1) X.A) (hb : KBn X.K fd ps (n + 1) ks g gV) (hx : PassesAt (L2.CX X.prog X.w) X σ E)
    (I : Inv X pins σ H s) (r : Vals vs us) (rz : Vals zs ws) (l1 : vs.length = n) (l2 : zs.length = ks.length)
    (h : ∀ x dx, H x = none → H dx = none → dx ≠ x → sp (gV (.ref x :: vs) zs) (upd (upd H dx (.own x)) x (.ins C dx [])) (fun v H2 => v = .non ∧ Q (.ref x) H2) E) :
    wpAny (model X.prog X.w) X.A (call (.ref C) us (ks.zip ws)) (EP X pins σ Q) X.xe s := by
  let q := s.heap.objs.size
  have fr1 : H (q + 1) = none := I.hok.fresh (Nat.le_succ q)
  have fr2 : H q = none := I.hok.fresh (Nat.le_refl q)
  have told := h (q + 1) q fr1 fr2 (Nat.ne_of_lt (Nat.lt_succ_self q))
  have J := Inv.made (C := C) I
  have ra : Vals (V.ref (q + 1) :: vs) (Value.ref (q + 1) :: us) := .cons rfl r
  have na : (Value.ref (q + 1) :: us).length = n + 1 := by
    have := ra.length
    rw [← this, List.length_cons, l1]
  have run := F.run _ X.stack _ _ ⟨Value.ref (q + 1) :: us, ks.zip ws⟩ (g (Value.ref (q + 1) :: us) ws) _ _ E (hr.make C us (ks.zip ws)) (J.env0.make C us (ks.zip ws)) (hb.to _ (Value.ref (q + 1) :: us) ws J.kIn na (rz.length.symm.trans l2)) (hb.rel ra rz) told
  refine wpAny_call (make_map (f := f) I.kIn M.makes M.init (beq_iff_eq.mp M.fn) (codeAny_mono run fun o s' ho => ?_))
  match o, ho with
  | .error e, ho => exact hx pins _ _ e s' J ho
  | .ok (.ret u), ho =>
    obtain ⟨v, H', I3, rv, ev, q3⟩ := J.after ho
    subst ev
    exact ⟨rv, ⟨V.ref (q + 1), H', I3, rfl, q3⟩⟩
  | .ok .next, ho => exact False.elim ho
  | .ok .brk, ho => exact False.elim ho
  | .ok .cont, ho => exact False.elim ho
theorem pe_makX {E : L2.St → XK} (c : MakX X.prog X.w X.K X.mg X.base k x C sp n [] gV) (hr : Room j X.A) (hk : k + 1 ≤ j) (hx : ∀ σ, PassesAt (L2.CX X.prog X.w) X σ (E σ)) (hg : Gl X x) (ha : PA X (e :: es) t)
    (hdb : (x == ("__debug__" : Str)) = false := by decide) (he : starEach (e :: es) X.env = (false, eval e X.env) :: starEach es X.env := by rfl) (hpl : (backTo pos (starEach es X.env)).any (·.1) = false := by rfl) :
    PE X (.Call (.Name x p) (e :: es) [] pos) (tMakX C n 0 sp gV E t tNil) := by
  obtain ⟨f, fd, ps, g, M, F, hm, b⟩ := c.ex
  refine ⟨fun pins s σ H Q I h => ?_⟩
  refine wpAny_Call_Name_kw (ld_glob I hg hm ?_ hdb)
  refine PySem.W.callWith_K (h₀ := X.base) I.ok.mod.kin M.kp (thn (ha.run pos pins s σ H _ I h) fun us s1 ⟨vs, H1, I1, r, l1, l2, q⟩ => ⟨I1.kIn, ?_⟩) he hpl
  exact run_makX (zs := []) (ws := []) M F (hr.mono hk) b (hx σ) I1 r .nil l1 rfl q
theorem pe_makXK {E : L2.St → XK} (c : MakX X.prog X.w X.K X.mg X.base k x C sp 0 ks gV) (hr : Room j X.A) (hk : k + 1 ≤ j) (hx : ∀ σ, PassesAt (L2.CX X.prog X.w) X σ (E σ)) (hg : Gl X x) (hkw : PK X kws tk)
    (hall : (backToKw pos (keywordEach kws X.env)).all (·.1.isSome) = true := by rfl) (hks : (backToKw pos (keywordEach kws X.env)).filterMap (·.1) = ks := by rfl) (hdb : (x == ("__debug__" : Str)) = false := by decide)
    (hpl : ((backTo pos (starEach [] X.env)).any (·.1) || (backToKw pos (keywordEach kws X.env)).any (·.1.isNone)) = false := by rfl) :
    PE X (.Call (.Name x p) [] kws pos) (tMakX C 0 ks.length sp gV E tNil tk) := by
  obtain ⟨f, fd, ps, g, M, F, hm, b⟩ := c.ex
  refine ⟨fun pins s σ H Q I h => ?_⟩
  refine wpAny_Call_Name_kw (ld_glob I hg hm ?_ hdb)
  refine PySem.W.callWith_KW0 (h₀ := X.base) I.ok.mod.kin M.kp hall ?_ hpl
  refine thn (hkw.run pos pins s σ H _ I h) fun ws s2 ⟨zs, H2, I2, rz, l1, l2, q2⟩ => ⟨I2.kIn, ?_⟩
  rw [hks]
  exact run_makX (us := []) (vs := []) M F (hr.mono hk) b (hx σ) I2 .nil rz rfl l2 q2
/-- nothing is let out here -/
theorem none_out {X : Cx} : ∀ σ : L2.St, PassesAt (L2.CX X.prog X.w) X σ E0 := fun _ _ _ _ _ _ _ z => by
  obtain ⟨_, _, _, _, _, _, _, _, _, _, _, _, y⟩ := z
  exact y.elim
end
end TKE
set_option maxHeartbeats 2000000
set_option pp.maxSteps 300
/-! isinstance of a caught exception that has its dict; what is to be looked up of such a class; a hook with such defs. -/
namespace TKE
open PySem PySem.Spec PyProof.Rows L2 NdefX TK
def rIsD (K : PySem.W.Frag) (D a : Addr) (cls : Value) (d : Option Addr) : List V → Hp → VK → Prop := fun xs H Q => ∃ (c : V) (cv : Value) (b : Bool) (dd : Addr) (fs : List (Str × V)), xs = [.ref a, c] ∧ (∀ u, RelV c u → u = cv) ∧ PySem.W.kitOne K (.ref D) cv = some b ∧ cls = .ref D ∧ d = some dd ∧ H dd = some (.xd fs) ∧ Q (.bl b) H
theorem call_isD {X : Cx} {a D : Addr} {oe : Obj} {cls : Value} {d : Option Addr} {pn : List (Addr × Obj)} (C : ExcC X.K D) (hz : Zc cls d oe) (hf : ∃ vs, oe.data = .fields vs) : CallR (X.suite a ((a, oe) :: pn)) (.builtin "isinstance") (rIsD X.K D a cls d) := by
  intro pins s σ H xs us Q I r h
  obtain ⟨c, cv, b, dd, fs, rfl, hcv, e, rfl, rfl, ed, q⟩ := h
  obtain ⟨u1, u2, rfl, rx, rt⟩ : ∃ u1 u2, us = [u1, u2] ∧ RelV (.ref a) u1 ∧ RelV c u2 := by
    cases r with
    | cons h1 t1 =>
      cases t1 with
      | cons h2 t2 =>
        cases t2
        exact ⟨_, _, rfl, h1, h2⟩
  obtain rfl : u1 = Value.ref a := rx
  obtain rfl := hcv _ rt
  obtain ⟨hget, _⟩ := I.pin (a, oe) (List.mem_append.mpr (.inl List.mem_cons_self))
  obtain ⟨vs, hv⟩ := hf
  have ob : ObjOk X.prog X.w H s.heap dd (.xd fs) := I.hok dd _ ed
  obtain ⟨mA, ⟨od, es, ep, ho, hr2⟩, hr⟩ := ob
  have J : PySem.W.InstAt s.heap a oe D (some od) := ⟨hget, hz.1, by unfold PySem.W.notCls; rw [hv] <;> rfl, by rw [hz.2]; exact ho⟩
  have hcl : (PySem.W.clsIn X.K D).isSome = true := by
    obtain ⟨cd, hc, _⟩ := PySem.W.any_some C.hd
    rw [hc]
    rfl
  exact PySem.W.kia_one (PySem.W.kitx_exc hcl C.hg C.hk C.hs C.ha C.hn C.ht C.hm) I.kIn J e (fun z => nomatch z) fun tk => ⟨.bl b, H, I.kept (t' := tk) fun _ _ z => z, rfl, q⟩
end TKE
set_option maxHeartbeats 2000000
set_option pp.maxSteps 300
/-! What the heap behind the top says of such classes: a check, what it gives, a hook with their __init__. -/
namespace TKE
open PySem PySem.Spec PyProof.Rows L2 NdefX TK
open He (ga ma)
def clsB (K : PySem.W.Frag) (C : Addr) : Bool := match K.lookup C with
  | some ⟨.type "type", _, .cls cd, sl⟩ => (match cd.mro, sl.toList with
    | .ref C' :: bm, [_, _, _, _, some (.builtin n), _] => C' == C && (n == "ValueError.__new__" && (!cd.hasDel && (cd.hasDict && PySem.HandSPX.refsVE bm)))
    | _, _ => false)
  | _ => false
theorem clsB_ok {K : PySem.W.Frag} {C : Addr} (q : clsB K C = true) : ∃ nm q N bs bm sn sub ab col dd k0 k1 k2 k3 k5, K.lookup C = some (excClassObj nm q C N bs bm true sn sub ab col dd k0 k1 k2 k3 k5 "ValueError.__new__") ∧ PySem.HandSPX.refsVE bm = true := by
  unfold clsB at q
  split at q
  · rename_i dd cd sl ho
    split at q
    · rename_i C' bm k0 k1 k2 k3 n k5 hm hs
      simp only [Bool.and_eq_true, beq_iff_eq, Bool.not_eq_true'] at q
      obtain ⟨rfl, rfl, hdel, hd, ht⟩ := q
      obtain ⟨nm, bs, mro, ns, qn, hd', sn, sub, ab, col, del⟩ := cd
      dsimp only at hm hdel hd
      subst hm hdel hd
      have hsl : sl = #[k0, k1, k2, k3, some (.builtin "ValueError.__new__"), k5] := by
        obtain ⟨l⟩ := sl
        simp only at hs
        rw [hs]
      subst hsl
      exact ⟨nm, qn, ns, bs, bm, sn, sub, ab, col, dd, k0, k1, k2, k3, k5, ho, ht⟩
    · cases q
  · cases q
def cellB (K : PySem.W.Frag) (cc C : Addr) : Bool := match K.lookup cc with
  | some ⟨_, _, .cell (some (.ref C')), _⟩ => C' == C
  | _ => false
theorem cellB_ok {K : PySem.W.Frag} {cc C : Addr} (q : cellB K cc C = true) : ∃ cl cld csl, K.lookup cc = some ⟨cl, cld, .cell (some (.ref C)), csl⟩ := by
  unfold cellB at q
  split at q
  · rename_i cl cld C' csl ho
    obtain rfl := beq_iff_eq.mp q
    exact ⟨_, _, _, ho⟩
  · cases q
def fileB (K : PySem.W.Frag) (cda : Addr) (file : Str) : Bool := match K.lookup cda with
  | some ⟨_, _, .fields vs, _⟩ => (match (vs[2]? : Option Value) with
    | some (Value.str f _) => file == f
    | _ => false)
  | _ => false
theorem fileB_ok {K : PySem.W.Frag} {cda : Addr} {file : Str} (q : fileB K cda file = true) : ∃ ccl cdd vs ccs f tf, K.lookup cda = some ⟨ccl, cdd, .fields vs, ccs⟩ ∧ vs[2]? = some (.str f tf) ∧ (file == f) = true := by
  unfold fileB at q
  split at q
  · rename_i cl cld vs csl ho
    split at q
    · rename_i f tf hv
      exact ⟨_, _, _, _, _, _, ho, hv, q⟩
    · cases q
  · cases q
def fnB (K : PySem.W.Frag) (f C : Addr) (qual file : Str) : Bool := match K.lookup f with
  | some ⟨_, _, .func fd, _⟩ => (match fd.closure, fd.code, fd.defaults, fd.kwdefaults with
    | [(n, cc)], .ref cda, .none, .none => n == "__class__" && (PySem.W.codeIn K (.ref cda) qual && (cellB K cc C && fileB K cda file))
    | _, _, _, _ => false)
  | _ => false
def fnC (K : PySem.W.Frag) (p : Str × Option Str) : He.FnW := match K.lookup (He.fAd K p) with
  | some ⟨_, _, .func fd, _⟩ => some (fd.name, fd.qualname, fd.params, fd.body, fd.scope, fd.globals, [], fd.builtins)
  | _ => none
theorem fnB_ok {K : PySem.W.Frag} {p : Str × Option Str} {C : Addr} {nm qual file : Str} {params : Arguments} {body : List Stmt} {scope : Scope} (e : fnC K p = He.DefD.val ⟨p, nm, qual, params, body, scope, [], []⟩) (q : fnB K (He.fAd K p) C qual file = true) :
    ∃ cda cc oc od doc pm an ct osl, K.lookup (He.fAd K p) = some ⟨oc, od, .func (PySem.W.fnX nm qual params body scope [("__class__", cc)] .none .none doc pm an (.ref cda) ct), osl⟩ ∧ PySem.W.codeIn K (.ref cda) qual = true ∧ cellB K cc C = true ∧ fileB K cda file = true := by
  unfold fnB at q
  unfold fnC at e
  split at q
  · rename_i oc od fd osl ho
    rw [ho] at e
    split at q
    · rename_i n cc cda h1 h2 h3 h4
      simp only [Bool.and_eq_true, beq_iff_eq] at q
      obtain ⟨rfl, q1, q2, q3⟩ := q
      obtain ⟨n1, n2, n3, n4, n5, n6, n7, n8, n9, n10, n11, n12, n13, n14, n15⟩ := fd
      dsimp only at h1 h2 h3 h4
      subst h1 h2 h3 h4
      have e2 : (some (n1, n2, n3, n4, n5, n6, [], n15) : He.FnW) = some (nm, qual, params, .stmts body, scope, mainGlobals, [], builtinsNs) := e
      simp only [Option.some.injEq, Prod.mk.injEq] at e2
      obtain ⟨h1, h2, h3, h4, h5, h6, h7, h8⟩ := e2
      subst h1 h2 h3 h4 h5 h6 h8
      exact ⟨cda, cc, oc, od, _, _, _, _, osl, ho, q1, q2, q3⟩
    · cases q
  · cases q
/-- the class named x, its field fld, its __init__'s qualified name, the text's file -/
def excB (K : PySem.W.Frag) (x fld qual file : Str) : List Bool := [clsB K (ga K x),
  decide (PySem.W.findIn K (.ref (ga K x)) "__setattr__" = some (some (.builtin "object.__setattr__"))), decide (PySem.W.subIn K (.ref (ga K x)) (.type "BaseException") = some true), decide (PySem.W.typeIn K (.ref (ga K x)) = some (.type "type")), PySem.W.keepIn K (.ref (ga K x)),
  decide (PySem.W.findIn K (.ref (ga K x)) "__init__" = some (some (.ref (ma K (ga K x) "__init__")))), decide (PySem.W.typeIn K (.ref (ma K (ga K x) "__init__")) = some (.type "function")), decide (PySem.W.ks_superIn K (ga K x) (ga K x) "__init__" = some (some (.builtin "ValueError.__init__"))),
  decide (PySem.W.subIn K (.ref (ga K x)) (.type "ValueError") = some true), decide (PySem.W.mroIn K (ga K x) (.ref (ga K x)) = some true), decide (PySem.W.nsIn K cStatics "thirdparty.any" = some none),
  fnB K (ma K (ga K x) "__init__") (ga K x) qual file, decide (PySem.W.findIn K (.ref (ga K x)) fld = some none),
  decide (PySem.W.findIn K (.ref (ga K x)) "__getattribute__" = some (some (.builtin "BaseException.__getattribute__"))), decide (PySem.W.findIn K (.ref (ga K x)) "__getattr__" = some none), PySem.W.hasDictIn K (ga K x),
  decide (PySem.W.findIn K (.ref (ga K x)) "__class__" = some (some (.builtin "object.__class__"))), decide (PySem.W.specialIn K (.builtin "object.__class__") "__get__" = some (some (.builtin "getset_descriptor.__get__"))),
  decide (PySem.W.takesIn K (.builtin "object.__class__") = some true), decide (PySem.W.mroIn K (ga K x) (.type "object") = some true)]
def excAll (K : PySem.W.Frag) (x fld qual file : Str) : Bool := (excB K x fld qual file).all id
structure ExTxt (K : PySem.W.Frag) (P : Program) (x fld qual : Str) (params : Arguments) (body : List Stmt) (scope : Scope) : Prop where
  ex : ∃ cda cc oc od doc pm an ct osl, SupTxt K P (ga K x) (ma K (ga K x) "__init__") cda cc ∧ K.lookup (ma K (ga K x) "__init__") = some ⟨oc, od, .func (PySem.W.fnX "__init__" qual params body scope [("__class__", cc)] .none .none doc pm an (.ref cda) ct), osl⟩ ∧ PySem.W.codeIn K (.ref cda) qual = true
  no : PySem.W.findIn K (.ref (ga K x)) fld = some none
  ec : ExcC K (ga K x)
  xf : XfC K (ga K x)
theorem exTxt_of {K : PySem.W.Frag} {P : Program} {x fld qual file : Str} {params : Arguments} {body : List Stmt} {scope : Scope} (h : excAll K x fld qual file = true) (hP : P.main.file = file)
    (e : fnC K (x, some "__init__") = He.DefD.val ⟨(x, some "__init__"), "__init__", qual, params, body, scope, [], []⟩) : ExTxt K P x fld qual params body scope := by
  have a : ∀ (i : Nat) (b : Bool), (excB K x fld qual file)[i]? = some b → b = true := fun i b hi => exAt h i hi
  obtain ⟨cda, cc, oc, od, doc, pm, an, ct, osl, hl, hcd, hcell, hfile⟩ := fnB_ok (C := ga K x) (file := file) e (a 11 _ rfl)
  have h2 := of_decide_eq_true (a 2 _ rfl)
  have h13 := of_decide_eq_true (a 13 _ rfl)
  have h14 := of_decide_eq_true (a 14 _ rfl)
  have oex : OexC K (ga K x) := ⟨clsB_ok (a 0 _ rfl), of_decide_eq_true (a 1 _ rfl), h2, of_decide_eq_true (a 3 _ rfl), a 4 _ rfl⟩
  refine ⟨⟨cda, cc, oc, od, doc, pm, an, ct, osl, ⟨oex, of_decide_eq_true (a 5 _ rfl), of_decide_eq_true (a 6 _ rfl), of_decide_eq_true (a 7 _ rfl), of_decide_eq_true (a 8 _ rfl), of_decide_eq_true (a 9 _ rfl), of_decide_eq_true (a 10 _ rfl), ?_, cellB_ok hcell⟩, hl, hcd⟩, of_decide_eq_true (a 12 _ rfl),
    ⟨h13, h14, h2, a 15 _ rfl, of_decide_eq_true (a 16 _ rfl), of_decide_eq_true (a 17 _ rfl), of_decide_eq_true (a 18 _ rfl), of_decide_eq_true (a 19 _ rfl)⟩, ⟨h13, h14, h2, a 15 _ rfl⟩⟩
  rw [hP]
  obtain ⟨ccl, cdd, vs, ccs, f, tf, z⟩ := fileB_ok hfile
  exact ⟨ccl, cdd, vs, ccs, f, tf, z⟩
/-! ### the hook -/
def asE (g : Addr → Option Obj) (n : Nat) (es : List He.DefD) : List Addr :=
  He.asD g n ++ (cStatics :: es.flatMap fun d => match (He.frG g (He.asD g n)).lookup (He.fAd (He.frG g (He.asD g n)) d.at_) with
    | some ⟨_, _, .func fd, _⟩ => fd.closure.map (·.2)
    | _ => [])
abbrev AlE : Type := He.AlD × List He.FnW
def obsE (n : Nat) (fa : List He.Fa) (fn : List He.DefD) (ex : PySem.W.Frag → List Bool) (es : List He.DefD) (g : Addr → Option Obj) : AlE :=
  let K := He.frG g (asE g n es)
  (((He.obsD fa fn K).1 && (ex K).all id, (He.obsD fa fn K).2), es.map fun d => fnC K d.at_)
def hookE (n : Nat) (fa : List He.Fa) (fn : List He.DefD) (ex : PySem.W.Frag → List Bool) (es : List He.DefD) : PySem.W.Hook where
  α := AlE
  obs s := obsE n fa fn ex es s.heap.get?
  val _ := (He.valD fn, es.map He.DefD.val)
  says _ h := ∃ K : PySem.W.Frag, K.In h ∧ He.SaysD fa fn K ∧ (ex K).all id = true ∧ es.map (fun d => fnC K d.at_) = es.map He.DefD.val
  of _ _ e := by
    have e0 := congrArg (fun z : AlE => z.1) e
    have e1 := congrArg (fun z : He.AlD => z.1) e0
    have e2 := congrArg (fun z : He.AlD => z.2) e0
    have e3 := congrArg (fun z : AlE => z.2) e
    obtain ⟨a, b⟩ := Bool.and_eq_true_iff.mp e1
    exact ⟨_, He.frG_in, Prod.ext a e2, b, e3⟩
  keeps _ _ _ c k := let ⟨K, hK, c⟩ := c; ⟨K, PySem.W.Frag.In.keeps hK k, c⟩
theorem obsE_eq {n : Nat} {fa : List He.Fa} {fn : List He.DefD} {ex : PySem.W.Frag → List Bool} {es : List He.DefD} {g : Addr → Option Obj} {s : Shared} (h : ∀ a, g a = s.heap.get? a) : obsE n fa fn ex es g = (hookE n fa fn ex es).obs s := by
  obtain rfl : g = s.heap.get? := funext h
  rfl
theorem fnC_at {K : PySem.W.Frag} {es : List He.DefD} (h : es.map (fun d => fnC K d.at_) = es.map He.DefD.val) (i : Nat) {d : He.DefD} (hd : es[i]? = some d) : fnC K d.at_ = d.val := by
  have e2 : (es.map fun d => fnC K d.at_)[i]? = (es.map He.DefD.val)[i]? := by rw [h]
  rw [List.getElem?_map, List.getElem?_map, hd] at e2
  exact Option.some.inj e2
end TKE
set_option maxHeartbeats 2000000
set_option pp.maxSteps 300
/-! Texts with such classes: the pieces that the generated terms name. -/
namespace TKE
open PySem PySem.Spec PyProof.Rows L2 NdefX TK
def isS : V → Prop := fun y => ∃ z : Str, y = .str z ∧ z.length ≤ 1000
def isI : V → Prop := fun y => ∃ z : Int, y = .int z ∧ z.natAbs.log2 < 1920 ∧ (toString z : Str).length ≤ 1000
theorem ex_l1 {z : Str} (hz : z.length ≤ 1000) : z.length ≤ sizeLine := Nat.le_trans hz (by decide)
theorem ex_l2 {p z : Str} (hp : p.length ≤ 200) (hz : z.length ≤ 1000) : (p ++ z).length ≤ sizeLine := by
  rw [cat_len, sizeLine_eq]
  omega
theorem ex_l3 {p z q : Str} (hp : p.length ≤ 200) (hq : q.length ≤ 200) (hz : z.length ≤ 1000) : (p ++ z ++ q).length ≤ sizeLine := by
  rw [cat_len, cat_len, sizeLine_eq]
  omega
theorem pg_tupK {X : Cx} (K : PySem.W.Frag) (e : X.K = K) {es : List Expr} {k : Nat} {t : TGs} {n : Nat} {pos : Pos} (hc : X.calm = true) (h : PGs X es t)
    (hn : (assignEach es X.env).length = n := by rfl) (hst : (assignEach es X.env).findIdx? (·.1) = none := by rfl) : PG X (.Tuple es k pos) (gTup K n t) := by
  subst e
  exact pg_tup hc h hn hst
def rTupOf (K : PySem.W.Frag) : List V → Hp → VK → Prop := fun xs H Q => ∃ p ys, xs = [.ref p] ∧ ((SqL K H p ys ∧ ∀ l, H l = none → Q (.ref l) (upd H l (.tup ys))) ∨ (SqT K H p ys ∧ Q (.ref p) H))
theorem tupOfK {X : Cx} (K : PySem.W.Frag) (e : X.K = K) : CallR X (.type "tuple") (rTupOf K) := by
  subst e
  exact call_tuple_of
section
variable {P : Program} {w : World} {K : PySem.W.Frag} {mg : Str → Option Value} {base : Heap}
theorem makX_of {x qual : Str} {C f : Addr} {params : Arguments} {body : List Stmt} {scope : Scope} {fd : FuncData} {ps : List Str} {k n : Nat} {sp : Sp} (M : Mk K C f) (hm : mg x = some (.ref C)) (F : FunD K "__init__" qual params body scope [] [] f fd) (G : FnOk P w K mg base (L2.CX P w) k f fd ps sp) (hn : ps.length = n + 1)
    (h : ∀ (kV doc pm : Value) (an : Option Addr) (cdv ct : Value) (us : List Value), us.length = ps.length → bindArgs (PySem.W.fnOf "__init__" qual params body scope .none kV doc pm an cdv ct) ⟨us, []⟩ = pure (ps.zip us)) : MakX P w K mg base k x C sp n [] (fun vs _ => vs) :=
  ⟨f, fd, ps, fun us _ => us, M, G, hm, ⟨fun s us ws _ h1 _ => F.bindsA h s us (h1.trans hn.symm), fun r _ => r⟩⟩
end
end TKE
set_option maxHeartbeats 4000000
namespace K7
open PySem PySem.Spec PyProof.Rows L2 SX TK TKS
open C8 (pe_c)
def top (i : Nat) : Stmt := PySem.Challenge.pw_trunkland_k07_replies_of_legs.main.body.getD i (.Pass ⟨0, 0, 0, 0⟩)
abbrev s_wall : Stmt := top 0
abbrev s_is_name : Stmt := top 11
abbrev s_is_tag : Stmt := top 12
abbrev s_is_address : Stmt := top 13
abbrev s_read_number : Stmt := top 14
abbrev s_split_address : Stmt := top 15
abbrev s_consists_of : Stmt := top 16
abbrev s_read_offer : Stmt := top 21
abbrev s_write_offer : Stmt := top 22
abbrev s_answer : Stmt := top 23
abbrev s_flows : Stmt := top 24
abbrev s_read_formats : Stmt := top 25
abbrev s_sends : Stmt := top 26
abbrev s_takes : Stmt := top 27
abbrev s_mode : Stmt := top 28
abbrev s_Letter___init : Stmt := inClass (top 38) 0
abbrev s_Letter_parts : Stmt := inClass (top 38) 1
abbrev s_Letter_reply : Stmt := inClass (top 38) 2
abbrev s_is_final : Stmt := top 39
abbrev s_write : Stmt := top 40
abbrev s_read : Stmt := top 41
abbrev s_write_head : Stmt := top 42
abbrev s_read_head : Stmt := top 43
abbrev s_read_line : Stmt := top 44
abbrev s_read_origin : Stmt := top 45
abbrev s_read_target : Stmt := top 46
abbrev s_read_single : Stmt := top 47
abbrev s_Wait___init : Stmt := inClass (top 51) 0
abbrev s_Wait_repeats : Stmt := inClass (top 51) 1
abbrev s_Wait_is_up : Stmt := inClass (top 51) 2
abbrev s_Client___init : Stmt := inClass (top 53) 0
abbrev s_Client_sending : Stmt := inClass (top 53) 1
abbrev s_Client_take : Stmt := inClass (top 53) 2
abbrev s_Client_stop : Stmt := inClass (top 53) 3
abbrev s_Client_tick : Stmt := inClass (top 53) 4
abbrev s_Client_is_over : Stmt := inClass (top 53) 5
abbrev s_Client__take_provisional : Stmt := inClass (top 53) 6
abbrev s_Client__keep_for : Stmt := inClass (top 53) 7
abbrev s_Server___init : Stmt := inClass (top 55) 0
abbrev s_Server_matches : Stmt := inClass (top 55) 1
abbrev s_Server_again : Stmt := inClass (top 55) 2
abbrev s_Server_reply : Stmt := inClass (top 55) 3
abbrev s_Server_keep : Stmt := inClass (top 55) 4
abbrev s_Server_tick : Stmt := inClass (top 55) 5
abbrev s_Server_is_over : Stmt := inClass (top 55) 6
abbrev s_Leg___init : Stmt := inClass (top 69) 0
abbrev s_Leg_call_out : Stmt := inClass (top 69) 1
abbrev s_Leg_call_in : Stmt := inClass (top 69) 2
abbrev s_Leg_ring : Stmt := inClass (top 69) 3
abbrev s_Leg_accept : Stmt := inClass (top 69) 4
abbrev s_Leg_refuse : Stmt := inClass (top 69) 5
abbrev s_Leg_hang_up : Stmt := inClass (top 69) 6
abbrev s_Leg_turn : Stmt := inClass (top 69) 7
abbrev s_Leg_move : Stmt := inClass (top 69) 8
abbrev s_Leg_receive : Stmt := inClass (top 69) 9
abbrev s_Leg_tick : Stmt := inClass (top 69) 10
abbrev s_Leg_take_events : Stmt := inClass (top 69) 11
abbrev s_Leg_is_done : Stmt := inClass (top 69) 12
abbrev s_Leg__send : Stmt := inClass (top 69) 13
abbrev s_Leg__serve : Stmt := inClass (top 69) 14
abbrev s_Leg__reply : Stmt := inClass (top 69) 15
abbrev s_Leg__reply_to_call : Stmt := inClass (top 69) 16
abbrev s_Leg__talk : Stmt := inClass (top 69) 17
abbrev s_Leg__end : Stmt := inClass (top 69) 18
abbrev s_Leg__stop_call : Stmt := inClass (top 69) 19
abbrev s_Leg__ask : Stmt := inClass (top 69) 20
abbrev s_Leg__is_asking : Stmt := inClass (top 69) 21
abbrev s_Leg__send_waiting : Stmt := inClass (top 69) 22
abbrev s_Leg__has_most_servers : Stmt := inClass (top 69) 23
abbrev s_Leg__take_known : Stmt := inClass (top 69) 24
abbrev s_Leg__take_new : Stmt := inClass (top 69) 25
abbrev s_Leg__take_end : Stmt := inClass (top 69) 26
abbrev s_Leg__take_stop : Stmt := inClass (top 69) 27
abbrev s_Leg__take_turn : Stmt := inClass (top 69) 28
abbrev s_Leg__take_move : Stmt := inClass (top 69) 29
abbrev s_Leg__take_reply : Stmt := inClass (top 69) 30
abbrev s_Leg__follow : Stmt := inClass (top 69) 31
abbrev s_Leg__follow_call : Stmt := inClass (top 69) 32
abbrev s_Leg__give_up_request : Stmt := inClass (top 69) 33
abbrev s_Leg__lose : Stmt := inClass (top 69) 34
abbrev s_Leg__send_live : Stmt := inClass (top 69) 35
abbrev s_Leg__forget_those_over : Stmt := inClass (top 69) 36
abbrev s_law_state : Stmt := top 71
abbrev s_law_draw : Stmt := top 72
abbrev s_law_pick : Stmt := top 73
abbrev s_law_leg : Stmt := top 74
abbrev s_law_letter : Stmt := top 75
abbrev s_law_first : Stmt := top 76
abbrev s_law_sent : Stmt := top 77
abbrev s_law_made : Stmt := top 78
abbrev s_law_turn : Stmt := top 79
abbrev s_law_code : Stmt := top 80
abbrev s_law_due_state : Stmt := top 81
abbrev s_law_due_events : Stmt := top 82
abbrev s_law_answer : Stmt := top 83
abbrev s_law_replies_right : Stmt := top 84
abbrev s_law : Stmt := top 85
theorem sc_wall : FnScope ["k"] ["k"] (defScope s_wall) := ⟨rfl, rfl, rfl, by decide +kernel, rfl, by decide +kernel, by decide +kernel⟩
theorem sc_is_name : FnScope ["word"] ["word"] (defScope s_is_name) := ⟨rfl, rfl, rfl, by decide +kernel, rfl, by decide +kernel, by decide +kernel⟩
theorem sc_is_tag : FnScope ["word"] ["word"] (defScope s_is_tag) := ⟨rfl, rfl, rfl, by decide +kernel, rfl, by decide +kernel, by decide +kernel⟩
theorem sc_is_address : FnScope ["word"] ["word"] (defScope s_is_address) := ⟨rfl, rfl, rfl, by decide +kernel, rfl, by decide +kernel, by decide +kernel⟩
theorem sc_read_number : FnScope ["word", "most", "number"] ["word", "most"] (defScope s_read_number) := ⟨rfl, rfl, rfl, by decide +kernel, rfl, by decide +kernel, by decide +kernel⟩
theorem sc_split_address : FnScope ["word", "parts", "user", "host"] ["word"] (defScope s_split_address) := ⟨rfl, rfl, rfl, by decide +kernel, rfl, by decide +kernel, by decide +kernel⟩
theorem sc_consists_of : FnScope ["word", "marks", "longest", "mark"] ["word", "marks", "longest"] (defScope s_consists_of) := ⟨rfl, rfl, rfl, by decide +kernel, rfl, by decide +kernel, by decide +kernel⟩
theorem sc_read_offer : FnScope ["words", "port", "mode", "formats"] ["words"] (defScope s_read_offer) := ⟨rfl, rfl, rfl, by decide +kernel, rfl, by decide +kernel, by decide +kernel⟩
theorem sc_write_offer : FnScope ["offer", "port", "mode", "formats"] ["offer"] (defScope s_write_offer) := ⟨rfl, rfl, rfl, by decide +kernel, rfl, by decide +kernel, by decide +kernel⟩
theorem sc_answer : FnScope ["able", "offer", "port", "_", "own_formats", "formats", "sends", "takes", "name"] ["able", "offer"] (defScope s_answer) := ⟨rfl, rfl, rfl, by decide +kernel, rfl, by decide +kernel, by decide +kernel⟩
theorem sc_flows : FnScope ["offer", "answered", "there", "back"] ["offer", "answered"] (defScope s_flows) := ⟨rfl, rfl, rfl, by decide +kernel, rfl, by decide +kernel, by decide +kernel⟩
theorem sc_read_formats : FnScope ["word", "names", "name"] ["word"] (defScope s_read_formats) := ⟨rfl, rfl, rfl, by decide +kernel, rfl, by decide +kernel, by decide +kernel⟩
theorem sc_sends : FnScope ["offer"] ["offer"] (defScope s_sends) := ⟨rfl, rfl, rfl, by decide +kernel, rfl, by decide +kernel, by decide +kernel⟩
theorem sc_takes : FnScope ["offer"] ["offer"] (defScope s_takes) := ⟨rfl, rfl, rfl, by decide +kernel, rfl, by decide +kernel, by decide +kernel⟩
theorem sc_mode : FnScope ["sends", "takes"] ["sends", "takes"] (defScope s_mode) := ⟨rfl, rfl, rfl, by decide +kernel, rfl, by decide +kernel, by decide +kernel⟩
theorem sc_Letter___init : FnScope ["self", "verb", "call", "origin", "origin_tag", "target", "target_tag", "seq", "way", "code", "offer", "stay", "goal"] ["self", "verb", "call", "origin", "origin_tag", "target", "target_tag", "seq", "way", "code", "offer", "stay", "goal"] (defScope s_Letter___init) := ⟨rfl, rfl, rfl, by decide +kernel, rfl, by decide +kernel, by decide +kernel⟩
theorem sc_Letter_parts : FnScope ["self"] ["self"] (defScope s_Letter_parts) := ⟨rfl, rfl, rfl, by decide +kernel, rfl, by decide +kernel, by decide +kernel⟩
theorem sc_Letter_reply : FnScope ["self", "code", "tag", "offer", "stay"] ["self", "code", "tag", "offer", "stay"] (defScope s_Letter_reply) := ⟨rfl, rfl, rfl, by decide +kernel, rfl, by decide +kernel, by decide +kernel⟩
theorem sc_is_final : FnScope ["code"] ["code"] (defScope s_is_final) := ⟨rfl, rfl, rfl, by decide +kernel, rfl, by decide +kernel, by decide +kernel⟩
theorem sc_write : FnScope ["letter", "lines", "line"] ["letter"] (defScope s_write) := ⟨rfl, rfl, rfl, by decide +kernel, rfl, by decide +kernel, by decide +kernel⟩
theorem sc_read : FnScope ["text", "lines", "rest", "parts", "number", "key", "part"] ["text"] (defScope s_read) := ⟨rfl, rfl, rfl, by decide +kernel, rfl, by decide +kernel, by decide +kernel⟩
theorem sc_write_head : FnScope ["letter"] ["letter"] (defScope s_write_head) := ⟨rfl, rfl, rfl, by decide +kernel, rfl, by decide +kernel, by decide +kernel⟩
theorem sc_read_head : FnScope ["words"] ["words"] (defScope s_read_head) := ⟨rfl, rfl, rfl, by decide +kernel, rfl, by decide +kernel, by decide +kernel⟩
theorem sc_read_line : FnScope ["key", "line", "words", "offer"] ["key", "line"] (defScope s_read_line) := ⟨rfl, rfl, rfl, by decide +kernel, rfl, by decide +kernel, by decide +kernel⟩
theorem sc_read_origin : FnScope ["words"] ["words"] (defScope s_read_origin) := ⟨rfl, rfl, rfl, by decide +kernel, rfl, by decide +kernel, by decide +kernel⟩
theorem sc_read_target : FnScope ["words"] ["words"] (defScope s_read_target) := ⟨rfl, rfl, rfl, by decide +kernel, rfl, by decide +kernel, by decide +kernel⟩
theorem sc_read_single : FnScope ["key", "word", "number", "is_right"] ["key", "word"] (defScope s_read_single) := ⟨rfl, rfl, rfl, by decide +kernel, rfl, by decide +kernel, by decide +kernel⟩
theorem sc_Wait___init : FnScope ["self", "now", "first"] ["self", "now", "first"] (defScope s_Wait___init) := ⟨rfl, rfl, rfl, by decide +kernel, rfl, by decide +kernel, by decide +kernel⟩
theorem sc_Wait_repeats : FnScope ["self", "now"] ["self", "now"] (defScope s_Wait_repeats) := ⟨rfl, rfl, rfl, by decide +kernel, rfl, by decide +kernel, by decide +kernel⟩
theorem sc_Wait_is_up : FnScope ["self", "now"] ["self", "now"] (defScope s_Wait_is_up) := ⟨rfl, rfl, rfl, by decide +kernel, rfl, by decide +kernel, by decide +kernel⟩
theorem sc_Client___init : FnScope ["self", "letter", "place", "now", "first"] ["self", "letter", "place", "now", "first"] (defScope s_Client___init) := ⟨rfl, rfl, rfl, by decide +kernel, rfl, by decide +kernel, by decide +kernel⟩
theorem sc_Client_sending : FnScope ["self"] ["self"] (defScope s_Client_sending) := ⟨rfl, rfl, rfl, by decide +kernel, rfl, by decide +kernel, by decide +kernel⟩
theorem sc_Client_take : FnScope ["self", "reply", "now"] ["self", "reply", "now"] (defScope s_Client_take) := ⟨rfl, rfl, rfl, by decide +kernel, rfl, by decide +kernel, by decide +kernel⟩
theorem sc_Client_stop : FnScope ["self", "now"] ["self", "now"] (defScope s_Client_stop) := ⟨rfl, rfl, rfl, by decide +kernel, rfl, by decide +kernel, by decide +kernel⟩
theorem sc_Client_tick : FnScope ["self", "now", "given_up"] ["self", "now"] (defScope s_Client_tick) := ⟨rfl, rfl, rfl, by decide +kernel, rfl, by decide +kernel, by decide +kernel⟩
theorem sc_Client_is_over : FnScope ["self"] ["self"] (defScope s_Client_is_over) := ⟨rfl, rfl, rfl, by decide +kernel, rfl, by decide +kernel, by decide +kernel⟩
theorem sc_Client__take_provisional : FnScope ["self", "reply"] ["self", "reply"] (defScope s_Client__take_provisional) := ⟨rfl, rfl, rfl, by decide +kernel, rfl, by decide +kernel, by decide +kernel⟩
theorem sc_Client__keep_for : FnScope ["self", "reply", "call"] ["self", "reply"] (defScope s_Client__keep_for) := ⟨rfl, rfl, rfl, by decide +kernel, rfl, by decide +kernel, by decide +kernel⟩
theorem sc_Server___init : FnScope ["self", "letter", "place", "first"] ["self", "letter", "place", "first"] (defScope s_Server___init) := ⟨rfl, rfl, rfl, by decide +kernel, rfl, by decide +kernel, by decide +kernel⟩
theorem sc_Server_matches : FnScope ["self", "letter", "place", "own"] ["self", "letter", "place"] (defScope s_Server_matches) := ⟨rfl, rfl, rfl, by decide +kernel, rfl, by decide +kernel, by decide +kernel⟩
theorem sc_Server_again : FnScope ["self"] ["self"] (defScope s_Server_again) := ⟨rfl, rfl, rfl, by decide +kernel, rfl, by decide +kernel, by decide +kernel⟩
theorem sc_Server_reply : FnScope ["self", "letter", "now"] ["self", "letter", "now"] (defScope s_Server_reply) := ⟨rfl, rfl, rfl, by decide +kernel, rfl, by decide +kernel, by decide +kernel⟩
theorem sc_Server_keep : FnScope ["self", "now"] ["self", "now"] (defScope s_Server_keep) := ⟨rfl, rfl, rfl, by decide +kernel, rfl, by decide +kernel, by decide +kernel⟩
theorem sc_Server_tick : FnScope ["self", "now", "waits_for_keep"] ["self", "now"] (defScope s_Server_tick) := ⟨rfl, rfl, rfl, by decide +kernel, rfl, by decide +kernel, by decide +kernel⟩
theorem sc_Server_is_over : FnScope ["self"] ["self"] (defScope s_Server_is_over) := ⟨rfl, rfl, rfl, by decide +kernel, rfl, by decide +kernel, by decide +kernel⟩
theorem sc_Leg___init : FnScope ["self", "tag", "call", "own", "other", "place", "able", "first", "check", "seq"] ["self", "tag", "call", "own", "other", "place", "able", "first", "check", "seq"] (defScope s_Leg___init) := ⟨rfl, rfl, rfl, by decide +kernel, rfl, by decide +kernel, by decide +kernel⟩
theorem sc_Leg_call_out : FnScope ["self", "offer", "now"] ["self", "offer", "now"] (defScope s_Leg_call_out) := ⟨rfl, rfl, rfl, by decide +kernel, rfl, by decide +kernel, by decide +kernel⟩
theorem sc_Leg_call_in : FnScope ["self", "letter"] ["self", "letter"] (defScope s_Leg_call_in) := ⟨rfl, rfl, rfl, by decide +kernel, rfl, by decide +kernel, by decide +kernel⟩
theorem sc_Leg_ring : FnScope ["self", "now"] ["self", "now"] (defScope s_Leg_ring) := ⟨rfl, rfl, rfl, by decide +kernel, rfl, by decide +kernel, by decide +kernel⟩
theorem sc_Leg_accept : FnScope ["self", "offer", "now"] ["self", "offer", "now"] (defScope s_Leg_accept) := ⟨rfl, rfl, rfl, by decide +kernel, rfl, by decide +kernel, by decide +kernel⟩
theorem sc_Leg_refuse : FnScope ["self", "code", "now"] ["self", "code", "now"] (defScope s_Leg_refuse) := ⟨rfl, rfl, rfl, by decide +kernel, rfl, by decide +kernel, by decide +kernel⟩
theorem sc_Leg_hang_up : FnScope ["self", "now"] ["self", "now"] (defScope s_Leg_hang_up) := ⟨rfl, rfl, rfl, by decide +kernel, rfl, by decide +kernel, by decide +kernel⟩
theorem sc_Leg_turn : FnScope ["self", "offer", "now"] ["self", "offer", "now"] (defScope s_Leg_turn) := ⟨rfl, rfl, rfl, by decide +kernel, rfl, by decide +kernel, by decide +kernel⟩
theorem sc_Leg_move : FnScope ["self", "goal", "now"] ["self", "goal", "now"] (defScope s_Leg_move) := ⟨rfl, rfl, rfl, by decide +kernel, rfl, by decide +kernel, by decide +kernel⟩
theorem sc_Leg_receive : FnScope ["self", "letter", "place", "now", "server"] ["self", "letter", "place", "now"] (defScope s_Leg_receive) := ⟨rfl, rfl, rfl, by decide +kernel, rfl, by decide +kernel, by decide +kernel⟩
theorem sc_Leg_tick : FnScope ["self", "now", "sent", "client", "repeated", "given_up", "server"] ["self", "now"] (defScope s_Leg_tick) := ⟨rfl, rfl, rfl, by decide +kernel, rfl, by decide +kernel, by decide +kernel⟩
theorem sc_Leg_take_events : FnScope ["self", "events"] ["self"] (defScope s_Leg_take_events) := ⟨rfl, rfl, rfl, by decide +kernel, rfl, by decide +kernel, by decide +kernel⟩
theorem sc_Leg_is_done : FnScope ["self"] ["self"] (defScope s_Leg_is_done) := ⟨rfl, rfl, rfl, by decide +kernel, rfl, by decide +kernel, by decide +kernel⟩
theorem sc_Leg__send : FnScope ["self", "verb", "now", "offer", "goal", "letter", "client"] ["self", "verb", "now", "offer", "goal"] (defScope s_Leg__send) := ⟨rfl, rfl, rfl, by decide +kernel, rfl, by decide +kernel, by decide +kernel⟩
theorem sc_Leg__serve : FnScope ["self", "letter", "place", "server"] ["self", "letter", "place"] (defScope s_Leg__serve) := ⟨rfl, rfl, rfl, by decide +kernel, rfl, by decide +kernel, by decide +kernel⟩
theorem sc_Leg__reply : FnScope ["self", "server", "now", "code", "offer"] ["self", "server", "now", "code", "offer"] (defScope s_Leg__reply) := ⟨rfl, rfl, rfl, by decide +kernel, rfl, by decide +kernel, by decide +kernel⟩
theorem sc_Leg__reply_to_call : FnScope ["self", "now", "code", "offer"] ["self", "now", "code", "offer"] (defScope s_Leg__reply_to_call) := ⟨rfl, rfl, rfl, by decide +kernel, rfl, by decide +kernel, by decide +kernel⟩
theorem sc_Leg__talk : FnScope ["self", "now"] ["self", "now"] (defScope s_Leg__talk) := ⟨rfl, rfl, rfl, by decide +kernel, rfl, by decide +kernel, by decide +kernel⟩
theorem sc_Leg__end : FnScope ["self", "why", "code"] ["self", "why", "code"] (defScope s_Leg__end) := ⟨rfl, rfl, rfl, by decide +kernel, rfl, by decide +kernel, by decide +kernel⟩
theorem sc_Leg__stop_call : FnScope ["self", "now", "client"] ["self", "now"] (defScope s_Leg__stop_call) := ⟨rfl, rfl, rfl, by decide +kernel, rfl, by decide +kernel, by decide +kernel⟩
theorem sc_Leg__ask : FnScope ["self", "verb", "now", "offer", "goal"] ["self", "verb", "now", "offer", "goal"] (defScope s_Leg__ask) := ⟨rfl, rfl, rfl, by decide +kernel, rfl, by decide +kernel, by decide +kernel⟩
theorem sc_Leg__is_asking : FnScope ["self", "client"] ["self"] (defScope s_Leg__is_asking) := ⟨rfl, rfl, rfl, by decide +kernel, rfl, by decide +kernel, by decide +kernel⟩
theorem sc_Leg__send_waiting : FnScope ["self", "now", "verb", "offer", "goal"] ["self", "now"] (defScope s_Leg__send_waiting) := ⟨rfl, rfl, rfl, by decide +kernel, rfl, by decide +kernel, by decide +kernel⟩
theorem sc_Leg__has_most_servers : FnScope ["self", "server"] ["self"] (defScope s_Leg__has_most_servers) := ⟨rfl, rfl, rfl, by decide +kernel, rfl, by decide +kernel, by decide +kernel⟩
theorem sc_Leg__take_known : FnScope ["self", "server", "letter", "now"] ["self", "server", "letter", "now"] (defScope s_Leg__take_known) := ⟨rfl, rfl, rfl, by decide +kernel, rfl, by decide +kernel, by decide +kernel⟩
theorem sc_Leg__take_new : FnScope ["self", "server", "now", "verb"] ["self", "server", "now"] (defScope s_Leg__take_new) := ⟨rfl, rfl, rfl, by decide +kernel, rfl, by decide +kernel, by decide +kernel⟩
theorem sc_Leg__take_end : FnScope ["self", "server", "now"] ["self", "server", "now"] (defScope s_Leg__take_end) := ⟨rfl, rfl, rfl, by decide +kernel, rfl, by decide +kernel, by decide +kernel⟩
theorem sc_Leg__take_stop : FnScope ["self", "server", "now", "is_answered"] ["self", "server", "now"] (defScope s_Leg__take_stop) := ⟨rfl, rfl, rfl, by decide +kernel, rfl, by decide +kernel, by decide +kernel⟩
theorem sc_Leg__take_turn : FnScope ["self", "server", "now", "offer", "answered"] ["self", "server", "now"] (defScope s_Leg__take_turn) := ⟨rfl, rfl, rfl, by decide +kernel, rfl, by decide +kernel, by decide +kernel⟩
theorem sc_Leg__take_move : FnScope ["self", "server", "now", "goal"] ["self", "server", "now"] (defScope s_Leg__take_move) := ⟨rfl, rfl, rfl, by decide +kernel, rfl, by decide +kernel, by decide +kernel⟩
theorem sc_Leg__take_reply : FnScope ["self", "reply", "now", "client", "sent", "code"] ["self", "reply", "now"] (defScope s_Leg__take_reply) := ⟨rfl, rfl, rfl, by decide +kernel, rfl, by decide +kernel, by decide +kernel⟩
theorem sc_Leg__follow : FnScope ["self", "reply", "now"] ["self", "reply", "now"] (defScope s_Leg__follow) := ⟨rfl, rfl, rfl, by decide +kernel, rfl, by decide +kernel, by decide +kernel⟩
theorem sc_Leg__follow_call : FnScope ["self", "reply", "now"] ["self", "reply", "now"] (defScope s_Leg__follow_call) := ⟨rfl, rfl, rfl, by decide +kernel, rfl, by decide +kernel, by decide +kernel⟩
theorem sc_Leg__give_up_request : FnScope ["self", "verb", "now"] ["self", "verb", "now"] (defScope s_Leg__give_up_request) := ⟨rfl, rfl, rfl, by decide +kernel, rfl, by decide +kernel, by decide +kernel⟩
theorem sc_Leg__lose : FnScope ["self", "now"] ["self", "now"] (defScope s_Leg__lose) := ⟨rfl, rfl, rfl, by decide +kernel, rfl, by decide +kernel, by decide +kernel⟩
theorem sc_Leg__send_live : FnScope ["self", "now"] ["self", "now"] (defScope s_Leg__send_live) := ⟨rfl, rfl, rfl, by decide +kernel, rfl, by decide +kernel, by decide +kernel⟩
theorem sc_Leg__forget_those_over : FnScope ["self", "client", "server"] ["self"] (defScope s_Leg__forget_those_over) := ⟨rfl, rfl, rfl, by decide +kernel, rfl, by decide +kernel, by decide +kernel⟩
theorem sc_law_state : FnScope ["script", "seed", "cell"] ["script"] (defScope s_law_state) := ⟨rfl, rfl, rfl, by decide +kernel, rfl, by decide +kernel, by decide +kernel⟩
theorem sc_law_draw : FnScope ["state", "many", "cells", "value", "mixed"] ["state", "many"] (defScope s_law_draw) := ⟨rfl, rfl, rfl, by decide +kernel, rfl, by decide +kernel, by decide +kernel⟩
theorem sc_law_pick : FnScope ["state", "row"] ["state", "row"] (defScope s_law_pick) := ⟨rfl, rfl, rfl, by decide +kernel, rfl, by decide +kernel, by decide +kernel⟩
theorem sc_law_leg : FnScope ["state"] ["state"] (defScope s_law_leg) := ⟨rfl, rfl, rfl, by decide +kernel, rfl, by decide +kernel, by decide +kernel⟩
theorem sc_law_letter : FnScope ["verb", "seq", "offer", "goal"] ["verb", "seq", "offer", "goal"] (defScope s_law_letter) := ⟨rfl, rfl, rfl, by decide +kernel, rfl, by decide +kernel, by decide +kernel⟩
theorem sc_law_first : FnScope ["offer"] ["offer"] (defScope s_law_first) := ⟨rfl, rfl, rfl, by decide +kernel, rfl, by decide +kernel, by decide +kernel⟩
theorem sc_law_sent : FnScope ["rows", "place", "text"] ["rows"] (defScope s_law_sent) := ⟨rfl, rfl, rfl, by decide +kernel, rfl, by decide +kernel, by decide +kernel⟩
theorem sc_law_made : FnScope ["state", "kind", "leg", "offer", "call"] ["state", "kind"] (defScope s_law_made) := ⟨rfl, rfl, rfl, by decide +kernel, rfl, by decide +kernel, by decide +kernel⟩
theorem sc_law_turn : FnScope ["state", "offer"] ["state", "offer"] (defScope s_law_turn) := ⟨rfl, rfl, rfl, by decide +kernel, rfl, by decide +kernel, by decide +kernel⟩
theorem sc_law_code : FnScope ["kind", "verb", "offer", "goal", "talking"] ["kind", "verb", "offer", "goal"] (defScope s_law_code) := ⟨rfl, rfl, rfl, by decide +kernel, rfl, by decide +kernel, by decide +kernel⟩
theorem sc_law_due_state : FnScope ["leg_state", "kind", "verb", "code"] ["leg_state", "kind", "verb", "code"] (defScope s_law_due_state) := ⟨rfl, rfl, rfl, by decide +kernel, rfl, by decide +kernel, by decide +kernel⟩
theorem sc_law_due_events : FnScope ["kind", "verb", "code", "offer", "goal"] ["kind", "verb", "code", "offer", "goal"] (defScope s_law_due_events) := ⟨rfl, rfl, rfl, by decide +kernel, rfl, by decide +kernel, by decide +kernel⟩
theorem sc_law_answer : FnScope ["offer", "formats", "name"] ["offer"] (defScope s_law_answer) := ⟨rfl, rfl, rfl, by decide +kernel, rfl, by decide +kernel, by decide +kernel⟩
theorem sc_law_replies_right : FnScope ["replies", "kind", "verb", "code", "offer", "seq", "due"] ["replies", "kind", "verb", "code", "offer", "seq"] (defScope s_law_replies_right) := ⟨rfl, rfl, rfl, by decide +kernel, rfl, by decide +kernel, by decide +kernel⟩
theorem sc_law : FnScope ["script", "state", "cell", "kind", "leg", "before", "verb", "modes", "offer", "goal", "low", "seq", "letter", "rows", "code", "again"] ["script"] (defScope s_law) := ⟨rfl, rfl, rfl, by decide +kernel, rfl, by decide +kernel, by decide +kernel⟩
structure Tx (K : PySem.W.Frag) (mg : Str → Option Value) : Prop where
  g_ASKING : mg "ASKING" = some (.ref (He.ga K "ASKING"))
  v_ASKING : ∀ H : Hp, SqT K H (He.ga K "ASKING") [.str "TURN", .str "MOVE", .str "LIVE"]
  g_BEFORE_TALKING : mg "BEFORE_TALKING" = some (.ref (He.ga K "BEFORE_TALKING"))
  v_BEFORE_TALKING : ∀ H : Hp, SqT K H (He.ga K "BEFORE_TALKING") [.str "calling", .str "ringing"]
  g_BUSY : ∃ t, mg "BUSY" = some (.int 44 t)
  g_CODES : mg "CODES" = some (.ref (He.ga K "CODES"))
  v_CODES : ∀ H : Hp, SqT K H (He.ga K "CODES") [.int 18, .int 20, .int 41, .int 43, .int 44, .int 45, .int 46, .int 48, .int 50]
  g_DIGITS : ∃ t, mg "DIGITS" = some (.str "0123456789" t)
  g_GREATEST_CODE : ∃ t, mg "GREATEST_CODE" = some (.int 99 t)
  g_GREATEST_GAP : ∃ t, mg "GREATEST_GAP" = some (.int 8 t)
  g_GREATEST_PORT : ∃ t, mg "GREATEST_PORT" = some (.int 65535 t)
  g_GREATEST_SEQ : ∃ t, mg "GREATEST_SEQ" = some (.int 999999 t)
  g_LEAST_FINAL_CODE : ∃ t, mg "LEAST_FINAL_CODE" = some (.int 20 t)
  g_LIMIT : ∃ t, mg "LIMIT" = some (.int 32 t)
  g_LONGEST_NUMBER : ∃ t, mg "LONGEST_NUMBER" = some (.int 9 t)
  g_LONGEST_STAY : ∃ t, mg "LONGEST_STAY" = some (.int 9999 t)
  g_LONGEST_WORD : ∃ t, mg "LONGEST_WORD" = some (.int 16 t)
  g_MODES : mg "MODES" = some (.ref (He.ga K "MODES"))
  v_MODES : ∀ H : Hp, SqT K H (He.ga K "MODES") [.str "both", .str "send", .str "take", .str "none"]
  g_MOST_FORMATS : ∃ t, mg "MOST_FORMATS" = some (.int 6 t)
  g_MOST_SERVERS : ∃ t, mg "MOST_SERVERS" = some (.int 16 t)
  g_MOST_WAITING : ∃ t, mg "MOST_WAITING" = some (.int 8 t)
  g_NAME_MARKS : ∃ t, mg "NAME_MARKS" = some (.str "abcdefghijklmnopqrstuvwxyz0123456789" t)
  g_NEEDED : mg "NEEDED" = some (.ref (He.ga K "NEEDED"))
  v_NEEDED : ∀ H : Hp, SqT K H (He.ga K "NEEDED") [.str "call", .str "from", .str "to", .str "seq", .str "way"]
  g_NOT_NOW : ∃ t, mg "NOT_NOW" = some (.int 50 t)
  g_NO_ANSWER : ∃ t, mg "NO_ANSWER" = some (.int 48 t)
  g_NO_CALL : ∃ t, mg "NO_CALL" = some (.int 41 t)
  g_NO_FORMAT : ∃ t, mg "NO_FORMAT" = some (.int 46 t)
  g_POSSIBLE : mg "POSSIBLE" = some (.ref (He.ga K "POSSIBLE"))
  v_POSSIBLE : ∀ H : Hp, SqT K H (He.ga K "POSSIBLE") [.str "offer", .str "stay", .str "goal"]
  g_RINGS : ∃ t, mg "RINGS" = some (.int 18 t)
  g_SMALL_LETTERS : ∃ t, mg "SMALL_LETTERS" = some (.str "abcdefghijklmnopqrstuvwxyz" t)
  g_STOPPED : ∃ t, mg "STOPPED" = some (.int 45 t)
  g_TAG_MARKS : ∃ t, mg "TAG_MARKS" = some (.str "ABCDEFGHIJKLMNOPQRSTUVWXYZabcdefghijklmnopqrstuvwxyz0123456789" t)
  g_VERBS : mg "VERBS" = some (.ref (He.ga K "VERBS"))
  v_VERBS : ∀ H : Hp, SqT K H (He.ga K "VERBS") [.str "CALL", .str "KEEP", .str "STOP", .str "END", .str "TURN", .str "MOVE", .str "LIVE", .str "SIGN"]
  g_YES : ∃ t, mg "YES" = some (.int 20 t)
  f_abs : mg "abs" = none
  f_all : mg "all" = none
  f_any : mg "any" = none
  f_int : mg "int" = none
  f_len : mg "len" = none
  f_list : mg "list" = none
  f_max : mg "max" = none
  f_min : mg "min" = none
  f_set : mg "set" = none
  f_str : mg "str" = none
  f_tuple : mg "tuple" = none
  cl_Letter : Cls K (He.ga K "Letter")
  na_Letter_verb : NoAttr K (He.ga K "Letter") "verb"
  na_Letter_code : NoAttr K (He.ga K "Letter") "code"
  na_Letter_call : NoAttr K (He.ga K "Letter") "call"
  na_Letter_origin : NoAttr K (He.ga K "Letter") "origin"
  na_Letter_origin_tag : NoAttr K (He.ga K "Letter") "origin_tag"
  na_Letter_target : NoAttr K (He.ga K "Letter") "target"
  na_Letter_target_tag : NoAttr K (He.ga K "Letter") "target_tag"
  na_Letter_seq : NoAttr K (He.ga K "Letter") "seq"
  na_Letter_way : NoAttr K (He.ga K "Letter") "way"
  na_Letter_offer : NoAttr K (He.ga K "Letter") "offer"
  na_Letter_stay : NoAttr K (He.ga K "Letter") "stay"
  na_Letter_goal : NoAttr K (He.ga K "Letter") "goal"
  cl_Wait : Cls K (He.ga K "Wait")
  na_Wait__began : NoAttr K (He.ga K "Wait") "_began"
  na_Wait__first : NoAttr K (He.ga K "Wait") "_first"
  na_Wait__gap : NoAttr K (He.ga K "Wait") "_gap"
  na_Wait__due : NoAttr K (He.ga K "Wait") "_due"
  cl_Client : Cls K (He.ga K "Client")
  na_Client_letter : NoAttr K (He.ga K "Client") "letter"
  na_Client_place : NoAttr K (He.ga K "Client") "place"
  na_Client_state : NoAttr K (He.ga K "Client") "state"
  na_Client__first : NoAttr K (He.ga K "Client") "_first"
  na_Client__wait : NoAttr K (He.ga K "Client") "_wait"
  na_Client__keep : NoAttr K (He.ga K "Client") "_keep"
  cl_Server : Cls K (He.ga K "Server")
  na_Server_letter : NoAttr K (He.ga K "Server") "letter"
  na_Server_place : NoAttr K (He.ga K "Server") "place"
  na_Server_state : NoAttr K (He.ga K "Server") "state"
  na_Server_code : NoAttr K (He.ga K "Server") "code"
  na_Server__first : NoAttr K (He.ga K "Server") "_first"
  na_Server__wait : NoAttr K (He.ga K "Server") "_wait"
  na_Server__latest : NoAttr K (He.ga K "Server") "_latest"
  cl_Leg : Cls K (He.ga K "Leg")
  na_Leg_tag : NoAttr K (He.ga K "Leg") "tag"
  na_Leg_call : NoAttr K (He.ga K "Leg") "call"
  na_Leg_own : NoAttr K (He.ga K "Leg") "own"
  na_Leg_other : NoAttr K (He.ga K "Leg") "other"
  na_Leg_place : NoAttr K (He.ga K "Leg") "place"
  na_Leg_able : NoAttr K (He.ga K "Leg") "able"
  na_Leg_first : NoAttr K (He.ga K "Leg") "first"
  na_Leg_check : NoAttr K (He.ga K "Leg") "check"
  na_Leg_other_tag : NoAttr K (He.ga K "Leg") "other_tag"
  na_Leg_state : NoAttr K (He.ga K "Leg") "state"
  na_Leg__seq : NoAttr K (He.ga K "Leg") "_seq"
  na_Leg__requests : NoAttr K (He.ga K "Leg") "_requests"
  na_Leg_took_call : NoAttr K (He.ga K "Leg") "took_call"
  na_Leg__greatest_taken : NoAttr K (He.ga K "Leg") "_greatest_taken"
  na_Leg__clients : NoAttr K (He.ga K "Leg") "_clients"
  na_Leg__servers : NoAttr K (He.ga K "Leg") "_servers"
  na_Leg__waiting : NoAttr K (He.ga K "Leg") "_waiting"
  na_Leg__live_due : NoAttr K (He.ga K "Leg") "_live_due"
  na_Leg__events : NoAttr K (He.ga K "Leg") "_events"
/-! ### what the program's defs answer -/
def consL (l m : List Nat) (n : Int) : Bool := (decide ((1 : Int) ≤ (l.length : Int)) && decide ((l.length : Int) ≤ n)) && l.all fun c => decide (c ∈ m)
def consB (z m : Str) (n : Int) : Bool := consL (TL.tl z) (TL.tl m) n
theorem consB_len {z m : Str} {n : Int} (h : consB z m n = true) : 0 < (TL.tl z).length ∧ ((TL.tl z).length : Int) ≤ n ∧ ∀ c ∈ TL.tl z, c ∈ TL.tl m := by
  unfold consB consL at h
  rw [Bool.and_eq_true, Bool.and_eq_true, decide_eq_true_eq, decide_eq_true_eq] at h
  refine ⟨by omega, h.1.2, fun c hc => ?_⟩
  exact of_decide_eq_true (List.all_eq_true.mp h.2 c hc)
def spCons : Sp := fun vs H Q _ => ∃ (z m : Str) (n : Int), vs = [.str z, .str m, .int n] ∧ z.length ≤ 1000 ∧ ∀ H', Same H H' → Q (.bl (consB z m n)) H'
theorem ok_consists_of {P : Program} {w : World} {K : PySem.W.Frag} {mg : Str → Option Value} {base : Heap} {f : Addr} {fd : FuncData} (T : Tx K mg) 
    (F : FunD K "_consists_of" "_consists_of" (defArgs s_consists_of) (defBody s_consists_of) (defScope s_consists_of) [] [] f fd) : FnOk P w K mg base CX0 1 f fd ["word", "marks", "longest"] spCons := by
  refine F.ok sc_consists_of (fun vs H Q E h => ?_) (fun cdv A outer s H vs Q E hr h => ?_)
  · obtain ⟨z, m, n, rfl, _⟩ := h
    rfl
  · obtain ⟨z, m, n, rfl, hz, k⟩ := h
    have hz2 : z.length ≤ sizeLine := Nat.le_trans hz (by decide)
    have eB : consB z m n = ((decide ((1 : Int) ≤ (z.length : Int)) && decide ((z.length : Int) ≤ n)) && (TL.tl z).all fun c => decide (c ∈ TL.tl m)) := by
      unfold consB consL
      rw [len_eq]
    refine ⟨_, PSs.nox (pss_one (ps_ret (pe_and (pe_chain op_le op_le pe_int (pe_callB call_len_str rfl T.f_len PySem.boot_len (pa_cons (pv 0) pa_nil)) (pv 2)) (pe_one (pe_callB (cr_all rfl) rfl T.f_all (by decide +kernel) (pa_cons (pe_lc (own := [("mark", 3)]) (g := gName 3) rfl sc_consists_of.nd (pi_str (pv 0)) (blkOk_by (own := [("mark", 3)]) (N := ["word", "marks", "longest", "mark"]) (sc := defScope s_consists_of) (by decide +kernel)) (fun _ _ _ _ _ => pg_name (i := 3) sc_consists_of.nd rfl (Or.inl rfl)) (fun _ _ _ _ _ => pts_nil) (fun _ _ _ _ _ => (pe_cmpR op_in_sign (pv 3) (pv 1) (by with_unfolding_all rfl)))) pa_nil)))))), ?_⟩
    refine ⟨_, rfl, _, rfl, hz2, _, _, rfl, rfl, _, rfl, ?_⟩
    refine ite2 (fun h1 => ?_) (fun h1 => ?_)
    · refine ⟨_, rfl, _, _, rfl, rfl, _, rfl, ?_⟩
      refine ite2 (fun h2 => ?_) (fun h2 => ?_)
      · refine ⟨_, rfl, _, rfl, fun D hD => ?_⟩
        have hn : z.cps.size ≤ sizeLine := by
          rw [size_tl, ← len_eq]
          exact hz2
        refine lc_pureN walk_str (fun i => V.bl (decide ((TL.tl z).getD i 0 ∈ TL.tl m))) hn (fun _ _ => trivial) (fun i x H' kk hi y q => ?_) ?_
        · obtain ⟨rfl, c, hc, rfl⟩ := y
          refine ⟨rfl, _, rfl, _, rfl, _, _, rfl, rfl, ?_⟩
          have e : (TL.tl z).getD i 0 = c := by
            have h5 : (TL.tl z)[i]? = some c := by
              show z.cps.toList[i]? = some c
              rw [Array.getElem?_toList]
              exact hc
            rw [List.getD_eq_getElem?_getD, h5]
            rfl
          rw [← e]
          exact q
        · refine ⟨D, (TL.tl z).map fun c => decide (c ∈ TL.tl m), rfl, SqL.of ?_, ?_⟩
          · rw [upd_same, size_tl, List.map_map]
            exact congrArg (fun l => some (HO.lst l)) (range_map_getD (TL.tl z) 0 fun c => V.bl (decide (c ∈ TL.tl m)))
          · have e : (List.map (fun c => decide (c ∈ TL.tl m)) (TL.tl z)).all id = consB z m n := by
              rw [eB, h1, h2, List.all_map]
              rfl
            rw [e]
            exact k _ (same_upd hD)
      · have e : consB z m n = false := by
          rw [eB, ef h2, Bool.and_false, Bool.false_and]
        have q := k H (Same.refl H)
        rw [e] at q
        exact q
    · have e : consB z m n = false := by
        rw [eB, ef h1, Bool.false_and, Bool.false_and]
      refine ⟨false, rfl, iteF ?_⟩
      have q := k H (Same.refl H)
      rw [e] at q
      exact q

/-! ### names, tags -/
abbrev zSM : Str := "abcdefghijklmnopqrstuvwxyz"
abbrev zNM : Str := "abcdefghijklmnopqrstuvwxyz0123456789"
abbrev zTM : Str := "ABCDEFGHIJKLMNOPQRSTUVWXYZabcdefghijklmnopqrstuvwxyz0123456789"
abbrev zDG : Str := "0123456789"
def nameB (z : Str) : Bool := consB z zNM 16 && decide ((TL.tl z).getD 0 0 ∈ TL.tl zSM)
def spName : Sp := fun vs H Q _ => ∃ z : Str, vs = [.str z] ∧ z.length ≤ 1000 ∧ ∀ H', Same H H' → Q (.bl (nameB z)) H'
theorem ok_is_name {P : Program} {w : World} {K : PySem.W.Frag} {mg : Str → Option Value} {base : Heap} {f : Addr} {fd : FuncData} (T : Tx K mg) (c_consists_of : C8.Cal P w K mg base 1 "_consists_of" spCons [])
    (F : FunD K "is_name" "is_name" (defArgs s_is_name) (defBody s_is_name) (defScope s_is_name) [] [] f fd) : FnOk P w K mg base CX0 2 f fd ["word"] spName := by
  refine F.ok sc_is_name (fun vs H Q E h => ?_) (fun cdv A outer s H vs Q E hr h => ?_)
  · obtain ⟨z, rfl, _⟩ := h
    rfl
  · obtain ⟨z, rfl, hz, k⟩ := h
    have hz2 : z.length ≤ sizeLine := Nat.le_trans hz (by decide)
    refine ⟨_, PSs.nox (pss_one (ps_ret (pe_and (pe_c c_consists_of hr (by decide) rfl (pa_cons (pv 0) (pa_cons (pgS T.g_NAME_MARKS) (pa_cons (pgI T.g_LONGEST_WORD) pa_nil)))) (pe_one (pe_cmpR op_in_sign (pe_ix ix_str (pv 0) pe_int (fun _ _ => rfl)) (pgS T.g_SMALL_LETTERS) (by with_unfolding_all rfl)))))), ?_⟩
    refine ⟨_, rfl, z, zNM, 16, rfl, hz, fun H1 s1 => ⟨_, rfl, ?_⟩⟩
    refine ite2 (fun h1 => ?_) (fun h1 => ?_)
    · refine ⟨_, rfl, _, 0, _, rfl, rfl, hz2, at0 0 (consB_len h1).1, _, _, rfl, rfl, ?_⟩
      have e : decide ((TL.tl z).getD 0 0 ∈ TL.tl zSM) = nameB z := by
        unfold nameB
        rw [h1, Bool.true_and]
      have q := k H1 s1
      rw [← e] at q
      exact q
    · have e : nameB z = false := by
        unfold nameB
        rw [ef h1, Bool.false_and]
      have q := k H1 s1
      rw [e] at q
      exact q

def tagB (z : Str) : Bool := consB z zTM 16
def spTag : Sp := fun vs H Q _ => ∃ z : Str, vs = [.str z] ∧ z.length ≤ 1000 ∧ ∀ H', Same H H' → Q (.bl (tagB z)) H'
theorem ok_is_tag {P : Program} {w : World} {K : PySem.W.Frag} {mg : Str → Option Value} {base : Heap} {f : Addr} {fd : FuncData} (T : Tx K mg) (c_consists_of : C8.Cal P w K mg base 1 "_consists_of" spCons [])
    (F : FunD K "is_tag" "is_tag" (defArgs s_is_tag) (defBody s_is_tag) (defScope s_is_tag) [] [] f fd) : FnOk P w K mg base CX0 2 f fd ["word"] spTag := by
  refine F.ok sc_is_tag (fun vs H Q E h => ?_) (fun cdv A outer s H vs Q E hr h => ?_)
  · obtain ⟨z, rfl, _⟩ := h
    rfl
  · obtain ⟨z, rfl, hz, k⟩ := h
    refine ⟨_, PSs.nox (pss_one (ps_ret (pe_c c_consists_of hr (by decide) rfl (pa_cons (pv 0) (pa_cons (pgS T.g_TAG_MARKS) (pa_cons (pgI T.g_LONGEST_WORD) pa_nil)))))), ?_⟩
    exact ⟨_, rfl, z, zTM, 16, rfl, hz, fun H1 s1 => k H1 s1⟩

/-! ### numbers -/
def numV (z : Str) (most : Int) : V :=
  if consB z zDG 9 = true then
    (if (decide (V.str (S [(TL.tl z).getD 0 0]) = V.str "0") && !decide (V.str z = V.str "0")) = true then .non
     else if ((NumText.digitsVal (TL.tl z) : Nat) : Int) ≤ most then .int (NumText.digitsVal (TL.tl z) : Nat) else .non)
  else .non
theorem digits_of {z : Str} (h : ∀ c ∈ TL.tl z, c ∈ TL.tl zDG) : ∀ c ∈ TL.tl z, 48 ≤ c ∧ c ≤ 57 := fun c hc => by
  have h1 := h c hc
  have h2 : ∀ c ∈ TL.tl zDG, 48 ≤ c ∧ c ≤ 57 := by decide +kernel
  exact h2 c h1
def spNum : Sp := fun vs H Q _ => ∃ (z : Str) (m : Int), vs = [.str z, .int m] ∧ z.length ≤ 1000 ∧ ∀ H', Same H H' → Q (numV z m) H'
theorem ok_read_number {P : Program} {w : World} {K : PySem.W.Frag} {mg : Str → Option Value} {base : Heap} {f : Addr} {fd : FuncData} (T : Tx K mg) (c_consists_of : C8.Cal P w K mg base 1 "_consists_of" spCons [])
    (F : FunD K "read_number" "read_number" (defArgs s_read_number) (defBody s_read_number) (defScope s_read_number) [] [] f fd) : FnOk P w K mg base CX0 2 f fd ["word", "most"] spNum := by
  refine F.ok sc_read_number (fun vs H Q E h => ?_) (fun cdv A outer s H vs Q E hr h => ?_)
  · obtain ⟨z, m, rfl, _⟩ := h
    rfl
  · obtain ⟨z, m, rfl, hz, k⟩ := h
    have hz2 : z.length ≤ sizeLine := Nat.le_trans hz (by decide)
    refine ⟨_, PSs.nox (C8.pss_cut (ps_if (pt_not (pt_val (pe_c c_consists_of hr (by decide) rfl (pa_cons (pv 0) (pa_cons (pgS T.g_DIGITS) (pa_cons (pgI T.g_LONGEST_NUMBER) pa_nil)))))) (pss_one (ps_ret pe_non)) pss_nil) (C8.pss_cut (ps_if (PW.pt (pw_and (pt_cmpR op_eq (pe_ix ix_str (pv 0) pe_int (fun _ _ => rfl)) pe_str (nomark _)) (pw_and1 (pt_cmpR op_ne (pv 0) pe_str (nomark _))))) (pss_one (ps_ret pe_non)) pss_nil) (pss_cons (ps_set (i := 2) sc_read_number.nd rfl (Or.inl rfl) (pe_callTy call_int_str rfl T.f_int (by decide +kernel) (pa_cons (pv 0) pa_nil))) (pss_one (ps_ret (pe_ifExp (pt_cmpR op_le (pv 2) (pv 1) (nomark _)) (pv 2) pe_non)))))), ?_⟩
    refine ⟨fun σ' H' => σ' = [some (.str z), some (.int m), none] ∧ Same H H' ∧ consB z zDG 9 = true, ?_, ?_⟩
    · refine ⟨_, rfl, z, zDG, 9, rfl, hz, fun H1 s1 => ⟨_, rfl, ?_⟩⟩
      have q := k H1 s1
      unfold numV at q
      by_cases h1 : consB z zDG 9 = true
      · rw [h1]
        exact iteF ⟨rfl, s1, rfl⟩
      · rw [if_neg h1] at q
        rw [ef h1]
        exact iteT q
    · rintro σ' H1 ⟨rfl, s1, h1⟩
      have q := k H1 s1
      unfold numV at q
      rw [if_pos h1] at q
      have hl := consB_len h1
      by_cases h2 : (decide (V.str (S [(TL.tl z).getD 0 0]) = V.str "0") && !decide (V.str z = V.str "0")) = true
      · rw [if_pos h2] at q
        rw [Bool.and_eq_true] at h2
        refine ⟨fun σ' H' => False, ?_, fun _ _ z => z.elim⟩
        refine ⟨_, rfl, _, 0, _, rfl, rfl, hz2, at0 0 hl.1, rfl, _, rfl, ?_⟩
        refine ite2 (fun _ => ?_) (fun h3 => absurd h2.1 h3)
        refine ⟨_, rfl, rfl, _, rfl, ?_⟩
        refine ite2 (fun _ => q) (fun h3 => absurd h2.2 h3)
      · rw [if_neg h2] at q
        refine ⟨fun σ' H' => σ' = [some (.str z), some (.int m), none] ∧ H' = H1, ?_, ?_⟩
        · refine ⟨_, rfl, _, 0, _, rfl, rfl, hz2, at0 0 hl.1, rfl, _, rfl, ?_⟩
          refine ite2 (fun h3 => ?_) (fun h3 => iteF ⟨rfl, rfl⟩)
          refine ⟨_, rfl, rfl, _, rfl, ?_⟩
          refine ite2 (fun h4 => absurd (Bool.and_eq_true_iff.mpr ⟨h3, h4⟩) h2) (fun _ => ⟨rfl, rfl⟩)
        · rintro σ' H' ⟨rfl, rfl⟩
          refine ⟨_, rfl, z, _, rfl, PySem.intText_digits (x := z) (digits_of hl.2.2) (List.length_pos_iff.mp hl.1) (by rw [len_eq]; omega), by rw [len_eq]; omega, ?_⟩
          refine ⟨_, rfl, _, rfl, _, _, rfl, rfl, _, rfl, ?_⟩
          by_cases h5 : ((NumText.digitsVal (TL.tl z) : Nat) : Int) ≤ m
          · rw [if_pos h5] at q
            rw [decide_eq_true h5]
            exact iteT ⟨_, rfl, q⟩
          · rw [if_neg h5] at q
            rw [decide_eq_false h5]
            exact iteF q

/-! ### addresses -/
def splitO : List Str → Option (Str × Str)
  | [u, h] => if (nameB u && nameB h) = true then some (u, h) else none
  | _ => none
def splitB (z : Str) : Option (Str × Str) := splitO (Txt.split z "@")
/-- None, or a tuple of two texts -/
def PairV (H : Hp) (x : V) : Option (Str × Str) → Prop
  | none => x = .non
  | some (u, h) => ∃ p, x = .ref p ∧ H p = some (.tup [.str u, .str h])
theorem at_len : ("@" : Str) = S [64] := by decide +kernel
theorem split_parts {z u h : Str} (e : Txt.split z "@" = [u, h]) : TL.tl z = TL.tl u ++ 64 :: TL.tl h ∧ 64 ∉ TL.tl u ∧ 64 ∉ TL.tl h := by
  rw [at_len] at e
  have j := StrLaws.join_split z (S [64])
  rw [e] at j
  have f := StrLaws.split_free z 64
  refine ⟨?_, f u (by rw [e]; simp), f h (by rw [e]; simp)⟩
  have e2 := TL.tl_join (S [64]) [u, h]
  rw [← j, e2]
  rfl
theorem split_two {z : Str} {a b : List Nat} (e : TL.tl z = a ++ 64 :: b) (ha : 64 ∉ a) (hb : 64 ∉ b) : Txt.split z "@" = [S a, S b] := by
  rw [at_len]
  have e1 : z = S (a ++ 64 :: b) := by
    rw [← e]
  rw [e1, split_S (by simp) (by decide)]
  have e2 : a ++ 64 :: b = TL.joinL [64] [a, b] := rfl
  rw [e2, spl_join (by simp) (by
    intro p hp
    rcases List.mem_cons.mp hp with z | z
    · rw [z]; exact ha
    · rw [List.mem_singleton.mp z]; exact hb)]
  rfl
def spSplit : Sp := fun vs H Q _ => ∃ z : Str, vs = [.str z] ∧ z.length ≤ 1000 ∧ ∀ x H', Same H H' → PairV H' x (splitB z) → Q x H'
theorem ok_split_address {P : Program} {w : World} {K : PySem.W.Frag} {mg : Str → Option Value} {base : Heap} {f : Addr} {fd : FuncData} (T : Tx K mg) (c_is_name : C8.Cal P w K mg base 2 "is_name" spName [])
    (F : FunD K "split_address" "split_address" (defArgs s_split_address) (defBody s_split_address) (defScope s_split_address) [] [] f fd) : FnOk P w K mg base CX0 3 f fd ["word"] spSplit := by
  refine F.ok sc_split_address (fun vs H Q E h => ?_) (fun cdv A outer s H vs Q E hr h => ?_)
  · obtain ⟨z, rfl, _⟩ := h
    rfl
  · obtain ⟨z, rfl, hz, k⟩ := h
    have hz2 : z.length + 2 ≤ sizeLine := Nat.le_trans (Nat.add_le_add_right hz 2) (by decide)
    refine ⟨_, PSs.nox (pss_cons (ps_set (i := 1) sc_split_address.nd rfl (Or.inl rfl) (pe_split (pv 0) pe_str)) (C8.pss_cut (ps_if (pt_cmpR op_ne (pe_callB call_len_seq rfl T.f_len PySem.boot_len (pa_cons (pv 1) pa_nil)) pe_int (nomark _)) (pss_one (ps_ret pe_non)) pss_nil) (pss_cons (ps_asg (pv 1) (pg_unl rfl (pgs_cons (pg_name (i := 2) sc_split_address.nd rfl (Or.inl rfl)) (pgs_cons (pg_name (i := 3) sc_split_address.nd rfl (Or.inl rfl)) pgs_nil)))) (pss_one (ps_ret (pe_ifExp (PW.pt (pw_and (pt_val (pe_c c_is_name hr (by decide) rfl (pa_cons (pv 2) pa_nil))) (pw_and1 (pt_val (pe_c c_is_name hr (by decide) rfl (pa_cons (pv 3) pa_nil)))))) (pe_tup (pa_cons (pv 2) (pa_cons (pv 3) pa_nil))) pe_non)))))), ?_⟩
    refine ⟨_, rfl, ⟨_, rfl⟩, z, "@", rfl, rfl, by decide +kernel, hz2, fun p hp => ?_⟩
    have s1 := same_upd (o := .lst ((Txt.split z "@").map V.str)) hp
    generalize eY : Txt.split z "@" = ys at *
    refine ⟨fun σ' H' => σ' = [some (.str z), some (.ref p), none, none] ∧ H' = upd H p (.lst (ys.map V.str)) ∧ ys.length = 2, ?_, ?_⟩
    · refine ⟨_, rfl, p, _, rfl, .inl (SqL.of upd_same), rfl, _, rfl, ?_⟩
      rw [List.length_map]
      by_cases h2 : ys.length = 2
      · rw [h2]
        exact iteF ⟨rfl, rfl, rfl⟩
      · have e : decide (V.int (ys.length : Nat) = V.int 2) = false := decide_eq_false fun q => h2 (by
          have := V.int.inj q
          omega)
        rw [e]
        refine iteT ?_
        refine k _ _ s1 ?_
        unfold splitB
        rw [eY]
        unfold splitO
        split
        · exact absurd rfl h2
        · rfl
    · rintro σ' H' ⟨rfl, rfl, h2⟩
      obtain ⟨u, ys, rfl⟩ : ∃ u r, ys = u :: r := by
        cases ys with
        | nil => cases h2
        | cons u r => exact ⟨u, r, rfl⟩
      obtain ⟨h, ys, rfl⟩ : ∃ u r, ys = u :: r := by
        cases ys with
        | nil => cases h2
        | cons u r => exact ⟨u, r, rfl⟩
      obtain rfl : ys = [] := List.length_eq_zero_iff.mp (by
        rw [List.length_cons, List.length_cons] at h2
        omega)
      obtain ⟨ez, _, _⟩ := split_parts eY
      have el := congrArg List.length ez
      rw [List.length_append, List.length_cons, ← len_eq, ← len_eq, ← len_eq] at el
      refine ⟨_, rfl, p, _, rfl, SqL.of upd_same, rfl, _, _, rfl, _, _, rfl, rfl, ?_⟩
      refine ⟨_, rfl, u, rfl, by omega, fun H2 s2 => ⟨_, rfl, ?_⟩⟩
      have eB : splitB z = if (nameB u && nameB h) = true then some (u, h) else none := by
        unfold splitB
        rw [eY]
        rfl
      by_cases h3 : nameB u = true
      · rw [h3]
        refine iteT ⟨_, rfl, h, rfl, by omega, fun H3 s3 => ⟨_, rfl, ?_⟩⟩
        by_cases h4 : nameB h = true
        · rw [h4]
          refine iteT ⟨_, rfl, _, rfl, by show 2 ≤ sizeLine; decide, fun t ht => ?_⟩
          refine k _ _ (((s1.trans s2).trans s3).trans (same_upd ht)) ?_
          rw [eB, h3, h4]
          exact ⟨t, rfl, upd_same⟩
        · rw [ef h4]
          refine iteF (k _ _ ((s1.trans s2).trans s3) ?_)
          rw [eB, h3, ef h4]
          rfl
      · rw [ef h3]
        refine iteF (iteF (k _ _ (s1.trans s2) ?_))
        rw [eB, ef h3]
        rfl
def spIsAddr : Sp := fun vs H Q _ => ∃ z : Str, vs = [.str z] ∧ z.length ≤ 1000 ∧ ∀ H', Same H H' → Q (.bl (splitB z).isSome) H'
theorem PairV.none_iff {H : Hp} {x : V} {o : Option (Str × Str)} (h : PairV H x o) : (!decide (x = .non)) = o.isSome := by
  cases o with
  | none =>
    cases (show x = .non from h)
    rfl
  | some q =>
    obtain ⟨u, w⟩ := q
    obtain ⟨p, rfl, _⟩ := h
    rfl
theorem ok_is_address {P : Program} {w : World} {K : PySem.W.Frag} {mg : Str → Option Value} {base : Heap} {f : Addr} {fd : FuncData} (T : Tx K mg) (c_split_address : C8.Cal P w K mg base 3 "split_address" spSplit [])
    (F : FunD K "is_address" "is_address" (defArgs s_is_address) (defBody s_is_address) (defScope s_is_address) [] [] f fd) : FnOk P w K mg base CX0 4 f fd ["word"] spIsAddr := by
  refine F.ok sc_is_address (fun vs H Q E h => ?_) (fun cdv A outer s H vs Q E hr h => ?_)
  · obtain ⟨z, rfl, _⟩ := h
    rfl
  · obtain ⟨z, rfl, hz, k⟩ := h
    refine ⟨_, PSs.nox (pss_one (ps_ret (pe_cmpR op_notN (pe_c c_split_address hr (by decide) rfl (pa_cons (pv 0) pa_nil)) pe_non (nomark _)))), ?_⟩
    refine ⟨_, rfl, z, rfl, hz, fun x H1 s1 hp => ⟨rfl, ?_⟩⟩
    rw [hp.none_iff]
    exact k H1 s1

end K7
set_option maxHeartbeats 4000000
namespace K7
open PySem PySem.Spec PyProof.Rows L2 SX TK TKS
open C8 (pe_c)
/-! ### offers -/
structure Off where
  port : Int
  mode : Str
  fs : List Str
/-- an offer stands at x -/
def OffAt (H : Hp) (x : V) (o : Off) : Prop := ∃ p f, x = .ref p ∧ H p = some (.tup [.int o.port, .str o.mode, .ref f]) ∧ H f = some (.tup (o.fs.map V.str))
theorem OffAt.same {H H' : Hp} {x : V} {o : Off} (h : OffAt H x o) (s : Same H H') : OffAt H' x o := by
  obtain ⟨p, f, rfl, e1, e2⟩ := h
  exact ⟨p, f, rfl, s _ _ e1, s _ _ e2⟩
theorem OffAt.keep {H H' : Hp} {x : V} {o : Off} {s c : Addr} (h : OffAt H x o) (st : StAt H s c) (k : Keep H H' s c) : OffAt H' x o := by
  obtain ⟨p, f, rfl, e1, e2⟩ := h
  obtain ⟨_, ⟨n, g1⟩, ns, g2, _⟩ := st
  exact ⟨p, f, rfl, k _ _ e1 (ne_of e1 g1 (by intro z; cases z)) (ne_of e1 g2 (by intro z; cases z)), k _ _ e2 (ne_of e2 g1 (by intro z; cases z)) (ne_of e2 g2 (by intro z; cases z))⟩
/-- a text within a list of texts -/
theorem inV_strs (z : Str) : ∀ l : List Str, inV (.str z) (l.map V.str) = decide (z ∈ l)
  | [] => rfl
  | a :: l => by
    have ih := inV_strs z l
    unfold inV at ih ⊢
    rw [List.map_cons, List.any_cons, ih]
    show ((a == z) || decide (z ∈ l)) = decide (z ∈ a :: l)
    by_cases e : a = z
    · subst e
      simp
    · have h1 : (a == z) = false := by simpa using e
      rw [h1, Bool.false_or]
      exact decide_eq_decide.mpr ⟨fun h => List.mem_cons_of_mem _ h, fun h => by
        rcases List.mem_cons.mp h with q | q
        · exact absurd q.symm e
        · exact q⟩
theorem flat_strs : ∀ l : List Str, (l.map V.str).all flatV = true
  | [] => rfl
  | _ :: l => by
    rw [List.map_cons, List.all_cons, flat_strs l]
    rfl
/-- None, or an offer -/
def OffO (H : Hp) (x : V) : Option Off → Prop
  | none => x = .non
  | some o => OffAt H x o
theorem OffO.same {H H' : Hp} {x : V} {o : Option Off} (h : OffO H x o) (s : Same H H') : OffO H' x o := by
  cases o with
  | none => exact h
  | some o => exact OffAt.same h s
theorem OffO.none_iff {H : Hp} {x : V} {o : Option Off} (h : OffO H x o) : (!decide (x = .non)) = o.isSome := by
  cases o with
  | none =>
    cases (show x = .non from h)
    rfl
  | some o =>
    obtain ⟨p, f, rfl, _⟩ := h
    rfl

/-! ### offers as words -/
def wordsS (o : Off) : Str := Txt.join " " [Str.ofString (toString o.port), o.mode, Txt.join "," o.fs]
structure OffOk (o : Off) : Prop where
  p0 : 0 ≤ o.port
  p1 : o.port ≤ 65535
  m : o.mode.length ≤ 16
  n : o.fs.length ≤ 6
  f : ∀ z ∈ o.fs, z.length ≤ 16
theorem comma_len : ("," : Str).length = 1 := by decide +kernel
theorem blank_len : (" " : Str).length = 1 := by decide +kernel
theorem OffOk.join {o : Off} (h : OffOk o) : (o.fs.map (·.length)).sum + o.fs.length * ("," : Str).length ≤ 102 ∧ (Txt.join "," o.fs).length ≤ 102 := by
  have a := sum_le h.f
  have b := join_len "," o.fs
  have n := h.n
  rw [comma_len] at b ⊢
  omega
theorem OffOk.str {o : Off} (h : OffOk o) : (Str.ofString (toString o.port)).length ≤ 5 ∧ o.port.natAbs.log2 < 1920 := by
  have p0 := h.p0
  have p1 := h.p1
  refine ⟨PyProof.Rows.toString_length_le p0 (k := 5) (by decide) (by omega), log_small ?_⟩
  have : o.port.natAbs ≤ 65535 := by omega
  exact Nat.lt_of_le_of_lt this (Nat.lt_of_lt_of_le (by decide : 65535 < 2 ^ 16) (Nat.pow_le_pow_right (by decide) (by decide)))
def spWrite : Sp := fun vs H Q _ => ∃ x o, vs = [x] ∧ OffAt H x o ∧ OffOk o ∧ ∀ H', Same H H' → Q (.str (wordsS o)) H'
theorem ok_write_offer {P : Program} {w : World} {K : PySem.W.Frag} {mg : Str → Option Value} {base : Heap} {f : Addr} {fd : FuncData} (T : Tx K mg) 
    (F : FunD K "write_offer" "write_offer" (defArgs s_write_offer) (defBody s_write_offer) (defScope s_write_offer) [] [] f fd) : FnOk P w K mg base CX0 1 f fd ["offer"] spWrite := by
  refine F.ok sc_write_offer (fun vs H Q E h => ?_) (fun cdv A outer s H vs Q E hr h => ?_)
  · obtain ⟨x, o, rfl, _⟩ := h
    rfl
  · obtain ⟨x, o, rfl, ⟨p, f, rfl, e1, e2⟩, ok, k⟩ := h
    obtain ⟨j1, j2⟩ := ok.join
    obtain ⟨t1, t2⟩ := ok.str
    have lm := ok.m
    refine ⟨_, PSs.nox (pss_cons (ps_asg (pv 0) (pg_tup rfl (pgs_cons (pg_name (i := 1) sc_write_offer.nd rfl (Or.inl rfl)) (pgs_cons (pg_name (i := 2) sc_write_offer.nd rfl (Or.inl rfl)) (pgs_cons (pg_name (i := 3) sc_write_offer.nd rfl (Or.inl rfl)) pgs_nil))))) (pss_one (ps_ret (pe_join pe_str (pe_lst (pa_cons (pe_callTy call_str_int rfl T.f_str (by decide +kernel) (pa_cons (pv 1) pa_nil)) (pa_cons (pv 2) (pa_cons (pe_join pe_str (pv 3)) pa_nil)))))))), ?_⟩
    refine ⟨_, rfl, p, _, rfl, SqT.of e1, rfl, _, _, rfl, _, _, rfl, _, _, rfl, rfl, ?_⟩
    refine ⟨⟨_, rfl⟩, _, rfl, _, rfl, t2, _, rfl, ⟨_, rfl⟩, _, rfl, ",", f, o.fs, rfl, rfl, .inr (SqT.of e2), by omega, by show 3 ≤ sizeLine; decide, fun q hq => ?_⟩
    refine ⟨" ", q, [Str.ofString (toString o.port), o.mode, Txt.join "," o.fs], rfl, rfl, .inl (SqL.of upd_same), ?_, k _ (same_upd hq)⟩
    rw [blank_len]
    show (Str.ofString (toString o.port)).length + (o.mode.length + ((Txt.join "," o.fs).length + 0)) + 3 * 1 ≤ 16777216
    omega
def fmtO (z : Str) : Option (List Str) :=
  if (Txt.split z ",").length ≤ 6 ∧ (Txt.split z ",").Nodup then (if (Txt.split z ",").all nameB = true then some (Txt.split z ",") else none) else none
/-- None, or a tuple of texts -/
def TupO (H : Hp) (x : V) : Option (List Str) → Prop
  | none => x = .non
  | some l => ∃ f, x = .ref f ∧ H f = some (.tup (l.map V.str))
def spFmt : Sp := fun vs H Q _ => ∃ z : Str, vs = [.str z] ∧ z.length ≤ 1000 ∧ ∀ x H', Same H H' → TupO H' x (fmtO z) → Q x H'
theorem ok_read_formats {P : Program} {w : World} {K : PySem.W.Frag} {mg : Str → Option Value} {base : Heap} {f : Addr} {fd : FuncData} (T : Tx K mg) (c_is_name : C8.Cal P w K mg base 2 "is_name" spName [])
    (F : FunD K "_read_formats" "_read_formats" (defArgs s_read_formats) (defBody s_read_formats) (defScope s_read_formats) [] [] f fd) : FnOk P w K mg base CX0 3 f fd ["word"] spFmt := by
  refine F.ok sc_read_formats (fun vs H Q E h => ?_) (fun cdv A outer s H vs Q E hr h => ?_)
  · obtain ⟨z, rfl, _⟩ := h
    rfl
  · obtain ⟨z, rfl, hz, k⟩ := h
    have hz2 : z.length + 2 ≤ sizeLine := Nat.le_trans (Nat.add_le_add_right hz 2) (by decide)
    have hp0 : ∀ y ∈ Txt.split z ",", y.length ≤ 1000 := fun y hy => Nat.le_trans (part_len hy) hz
    have eF : fmtO z = if (Txt.split z ",").length ≤ 6 ∧ (Txt.split z ",").Nodup then (if (Txt.split z ",").all nameB = true then some (Txt.split z ",") else none) else none := rfl
    have hy1 : (Txt.split z ",").length ≤ 1002 := Nat.le_trans (PyProof.Rows.split_le z ",") (by omega)
    refine ⟨_, PSs.nox (pss_cons (ps_set (i := 1) sc_read_formats.nd rfl (Or.inl rfl) (pe_split (pv 0) pe_str)) (C8.pss_cut (ps_if (PW.pt (pw_or (pt_cmpR op_gt (pe_callB call_len_seq rfl T.f_len PySem.boot_len (pa_cons (pv 1) pa_nil)) (pgI T.g_MOST_FORMATS) (nomark _)) (pw_or1 (pt_cmpR op_lt (TKS.pe_lenSetK (pv 1) T.f_len T.f_set) (pe_callB call_len_seq rfl T.f_len PySem.boot_len (pa_cons (pv 1) pa_nil)) (nomark _))))) (pss_one (ps_ret pe_non)) pss_nil) (pss_one (ps_ret (pe_ifExp (pt_val (pe_callB (cr_all rfl) rfl T.f_all (by decide +kernel) (pa_cons (pe_lc (own := [("name", 2)]) (g := gName 2) rfl sc_read_formats.nd (pi_list (pv 1)) (blkOk_by (own := [("name", 2)]) (N := ["word", "names", "name"]) (sc := defScope s_read_formats) (by decide +kernel)) (fun _ _ _ _ _ => pg_name (i := 2) sc_read_formats.nd rfl (Or.inl rfl)) (fun _ _ _ _ _ => pts_nil) (fun _ _ _ _ _ => (pe_c c_is_name hr (by decide) rfl (pa_cons (pv 2) pa_nil)))) pa_nil))) (pe_callTy call_tuple_of rfl T.f_tuple (by decide +kernel) (pa_cons (pv 1) pa_nil)) pe_non))))), ?_⟩
    refine ⟨_, rfl, ⟨_, rfl⟩, z, ",", rfl, rfl, by decide +kernel, hz2, fun p hp => ?_⟩
    have s1 := same_upd (o := .lst ((Txt.split z ",").map V.str)) hp
    generalize Txt.split z "," = ys at hp0 eF hy1 s1 ⊢
    refine ⟨fun σ' H' => σ' = [some (.str z), some (.ref p), none] ∧ H' = upd H p (.lst (ys.map V.str)) ∧ ys.length ≤ 6 ∧ ys.Nodup, ?_, ?_⟩
    · refine ⟨_, rfl, p, _, rfl, .inl (SqL.of upd_same), _, _, rfl, rfl, _, rfl, ?_⟩
      rw [List.length_map]
      by_cases h6 : ys.length ≤ 6
      · rw [decide_eq_false (by omega)]
        refine iteF ⟨_, rfl, p, ys.map Sum.inr, rfl, SqL.of (by rw [upd_same, key_strs]), by rw [List.length_map]; omega, _, rfl, p, _, rfl, .inl (SqL.of upd_same), _, _, rfl, rfl, _, rfl, ?_⟩
        have le := metK_len (fun i => (ys.map (Sum.inr : Str → Key)).getD i (.inl 0)) (ys.map (Sum.inr : Str → Key)).length
        have nd := met_all (ys.map (Sum.inr : Str → Key))
        rw [nodup_inr] at nd
        rw [List.length_map] at le nd ⊢
        by_cases hn : ys.Nodup
        · rw [nd.mpr hn, List.length_map, decide_eq_false (by omega)]
          exact iteF ⟨rfl, rfl, h6, hn⟩
        · have ne : (metK (fun i => (ys.map (Sum.inr : Str → Key)).getD i (.inl 0)) ys.length).length ≠ ys.length := fun q => hn (nd.mp q)
          rw [List.length_map, decide_eq_true (by omega)]
          refine iteT (k _ _ s1 ?_)
          rw [eF, if_neg (fun q => hn q.2)]
          rfl
      · rw [decide_eq_true (by omega)]
        refine iteT (iteT (k _ _ s1 ?_))
        rw [eF, if_neg (fun q => h6 q.1)]
        rfl
    · rintro σ' H' ⟨rfl, rfl, h6, hn⟩
      rw [if_pos ⟨h6, hn⟩] at eF
      refine ⟨_, rfl, p, rfl, ⟨_, SqL.of upd_same⟩, fun D hD => ?_⟩
      have hpD : p ≠ D := fun e => by
        rw [e, upd_same] at hD
        cases hD
      have hD0 : H D = none := by
        rw [upd_ne hpD.symm] at hD
        exact hD
      refine lc_itN (walk_list (xs := ys.map V.str)) (fun i H' => Same (upd H p (.lst (ys.map V.str))) H' ∧ H' D = some (.lst ((ys.take i).map fun y => V.bl (nameB y)))) ⟨same_upd hD, upd_same⟩ (fun i H1 hi q => SqL.of (q.1 _ _ upd_same)) (fun i v H1 H2 hi q yy => ?_) (fun H1 q => ?_)
      · obtain ⟨sm, ed⟩ := q
        obtain ⟨rfl, ev⟩ := yy
        rw [List.getElem?_map] at ev
        obtain ⟨w, ew, rfl⟩ := Option.map_eq_some_iff.mp ev
        rw [List.length_map] at hi
        refine ⟨rfl, _, rfl, w, rfl, hp0 w (List.mem_of_getElem? ew), fun H3 s3 => ⟨_, s3 _ _ ed, ?_, same_upd2 (sm.trans s3) hD, ?_⟩⟩
        · rw [List.length_map, List.length_take]
          exact Nat.lt_of_le_of_lt (show min i ys.length ≤ 6 by omega) (by decide)
        · rw [upd_same, List.take_add_one, ew, List.map_append]
          rfl
      · obtain ⟨sm, ed⟩ := q
        rw [List.length_map, List.take_length] at ed
        refine ⟨D, ys.map nameB, rfl, SqL.of (by rw [ed, List.map_map]; rfl), _, rfl, ?_⟩
        have eA : (ys.map nameB).all id = ys.all nameB := by
          rw [List.all_map]
          rfl
        rw [eA]
        by_cases hA : ys.all nameB = true
        · rw [if_pos hA] at eF
          rw [hA]
          refine iteT ⟨_, rfl, p, _, rfl, .inl ⟨SqL.of (sm _ _ upd_same), fun t ht => k _ _ ((s1.trans sm).trans (same_upd ht)) ?_⟩⟩
          rw [eF]
          exact ⟨t, rfl, upd_same⟩
        · rw [if_neg hA] at eF
          rw [ef hA]
          refine iteF (k _ _ (s1.trans sm) ?_)
          rw [eF]
          rfl
def modesL : List Str := ["both", "send", "take", "none"]
/-- the offer that three words write -/
def readP : V → Str → Option (List Str) → Option Off
  | .int p, b, some fs => if b ∈ modesL then some ⟨p, b, fs⟩ else none
  | _, _, _ => none
def readO : List Str → Option Off
  | [a, b, c] => readP (numV a 65535) b (fmtO c)
  | _ => none
theorem readP_ok (p : Int) (b : Str) (fs : List Str) : readP (.int p) b (some fs) = if b ∈ modesL then some ⟨p, b, fs⟩ else none := rfl
theorem readO_eq (a b c : Str) : readO [a, b, c] = readP (numV a 65535) b (fmtO c) := rfl
theorem readO_len {ws : List Str} (h : ws.length ≠ 3) : readO ws = none := by
  unfold readO
  split
  · exact absurd rfl h
  · rfl
theorem numV_cases (z : Str) (m : Int) : numV z m = .non ∨ ∃ i, numV z m = .int i := by
  unfold numV
  split
  · split
    · exact .inl rfl
    · split
      · exact .inr ⟨_, rfl⟩
      · exact .inl rfl
  · exact .inl rfl
def spRead : Sp := fun vs H Q _ => ∃ l ws, vs = [.ref l] ∧ H l = some (.lst (ws.map V.str)) ∧ (∀ z ∈ ws, z.length ≤ 1000) ∧ ws.length ≤ 1000 ∧ ∀ x H', Same H H' → OffO H' x (readO ws) → Q x H'
theorem ok_read_offer {P : Program} {w : World} {K : PySem.W.Frag} {mg : Str → Option Value} {base : Heap} {f : Addr} {fd : FuncData} (T : Tx K mg) (c_read_number : C8.Cal P w K mg base 2 "read_number" spNum []) (c_read_formats : C8.Cal P w K mg base 3 "_read_formats" spFmt [])
    (F : FunD K "read_offer" "read_offer" (defArgs s_read_offer) (defBody s_read_offer) (defScope s_read_offer) [] [] f fd) : FnOk P w K mg base CX0 4 f fd ["words"] spRead := by
  refine F.ok sc_read_offer (fun vs H Q E h => ?_) (fun cdv A outer s H vs Q E hr h => ?_)
  · obtain ⟨l, ws, rfl, _⟩ := h
    rfl
  · obtain ⟨l, ws, rfl, hl, hw, hn, k⟩ := h
    refine ⟨_, PSs.nox (C8.pss_cut (ps_if (pt_cmpR op_ne (pe_callB call_len_seq rfl T.f_len PySem.boot_len (pa_cons (pv 0) pa_nil)) pe_int (nomark _)) (pss_one (ps_ret pe_non)) pss_nil) (pss_cons (ps_set (i := 1) sc_read_offer.nd rfl (Or.inl rfl) (pe_c c_read_number hr (by decide) rfl (pa_cons (pe_ix ix_list (pv 0) pe_int (fun _ _ => rfl)) (pa_cons (pgI T.g_GREATEST_PORT) pa_nil)))) (pss_cons (ps_set (i := 2) sc_read_offer.nd rfl (Or.inl rfl) (pe_ix ix_list (pv 0) pe_int (fun _ _ => rfl))) (pss_cons (ps_set (i := 3) sc_read_offer.nd rfl (Or.inl rfl) (pe_c c_read_formats hr (by decide) rfl (pa_cons (pe_ix ix_list (pv 0) pe_int (fun _ _ => rfl)) pa_nil))) (C8.pss_cut (ps_if (PW.pt (pw_or (pt_cmpR op_isN (pv 1) pe_non (nomark _)) (pw_or (pt_cmpR op_notIn_seq (pv 2) (pgR T.g_MODES) (by with_unfolding_all rfl)) (pw_or1 (pt_cmpR op_isN (pv 3) pe_non (nomark _)))))) (pss_one (ps_ret pe_non)) pss_nil) (pss_one (ps_ret (pe_tup (pa_cons (pv 1) (pa_cons (pv 2) (pa_cons (pv 3) pa_nil))))))))))), ?_⟩
    refine ⟨fun σ' H' => σ' = [some (.ref l), none, none, none] ∧ H' = H ∧ ws.length = 3, ?_, ?_⟩
    · refine ⟨_, rfl, l, _, rfl, .inl (SqL.of hl), rfl, _, rfl, ?_⟩
      rw [List.length_map]
      by_cases h3 : ws.length = 3
      · rw [h3]
        exact iteF ⟨rfl, rfl, rfl⟩
      · have e : decide (V.int (ws.length : Nat) = V.int 3) = false := decide_eq_false fun q => h3 (by
          have := V.int.inj q
          omega)
        rw [e]
        refine iteT (k _ _ (Same.refl H) ?_)
        rw [readO_len h3]
        rfl
    · rintro σ' H' ⟨rfl, rfl, h3⟩
      obtain ⟨a, b, c, rfl⟩ : ∃ a b c, ws = [a, b, c] := by
        cases ws with
        | nil => cases h3
        | cons a r => cases r with
          | nil => cases h3
          | cons b r => cases r with
            | nil => cases h3
            | cons c r => cases r with
              | nil => exact ⟨a, b, c, rfl⟩
              | cons d r => simp at h3
      refine ⟨_, rfl, l, _, 0, _, rfl, rfl, SqL.of hl, rfl, a, 65535, rfl, hw a (by simp), fun H1 s1 => ?_⟩
      refine ⟨_, rfl, l, _, 1, _, rfl, rfl, SqL.of (s1 _ _ hl), rfl, ?_⟩
      refine ⟨_, rfl, l, _, 2, _, rfl, rfl, SqL.of (s1 _ _ hl), rfl, c, rfl, hw c (by simp), fun x H2 s2 hx => ?_⟩
      have s12 := s1.trans s2
      refine ⟨fun σ' H' => σ' = [some (.ref l), some (numV a 65535), some (.str b), some x] ∧ H' = H2 ∧ (∃ p, numV a 65535 = .int p) ∧ b ∈ modesL ∧ ∃ fs, fmtO c = some fs, ?_, ?_⟩
      · refine ⟨_, rfl, rfl, _, rfl, ?_⟩
        rcases numV_cases a 65535 with e | ⟨p, e⟩
        · rw [e]
          refine iteT (iteT (k _ _ s12 ?_))
          rw [readO_eq, e]
          rfl
        · rw [e]
          refine iteF ⟨_, rfl, _, modesL.map V.str, rfl, .inr (T.v_MODES H2), rfl, rfl, _, rfl, ?_⟩
          rw [inV_strs]
          by_cases hb : b ∈ modesL
          · rw [decide_eq_true hb]
            refine iteF ⟨_, rfl, rfl, _, rfl, ?_⟩
            cases ef : fmtO c with
            | none =>
              rw [ef] at hx
              cases (show x = .non from hx)
              refine iteT (k _ _ s12 ?_)
              rw [readO_eq, e, ef]
              rfl
            | some fs =>
              rw [ef] at hx
              obtain ⟨f, rfl, _⟩ := hx
              exact iteF ⟨rfl, rfl, ⟨p, rfl⟩, hb, fs, rfl⟩
          · rw [decide_eq_false hb]
            refine iteT (iteT (k _ _ s12 ?_))
            rw [readO_eq, e]
            cases fmtO c with
            | none => rfl
            | some fs =>
              rw [readP_ok, if_neg hb]
              rfl
      · rintro σ' H3 ⟨rfl, rfl, ⟨p, e⟩, hb, fs, ef⟩
        rw [ef] at hx
        obtain ⟨f, rfl, e2⟩ := hx
        rw [e]
        refine ⟨_, rfl, _, rfl, _, rfl, by show 3 ≤ sizeLine; decide, fun q hq => k _ _ (s12.trans (same_upd hq)) ?_⟩
        rw [readO_eq, e, ef]
        rw [readP_ok, if_pos hb]
        exact ⟨q, f, rfl, upd_same, (same_upd hq) _ _ e2⟩

end K7
set_option maxHeartbeats 4000000
namespace K7
open PySem PySem.Spec PyProof.Rows L2 SX TK TKS
open C8 (pe_c)
/-! ### letters -/
structure Ltr where
  verb : Str
  call : Str
  origin : Str
  otag : Str
  target : Str
  ttag : Str
  seq : Int
  way : Str
  code : V
  offer : V
  stay : V
  goal : V
def Ltr.fl (L : Ltr) : List (Str × V) := [("verb", .str L.verb), ("code", L.code), ("call", .str L.call), ("origin", .str L.origin), ("origin_tag", .str L.otag), ("target", .str L.target), ("target_tag", .str L.ttag), ("seq", .int L.seq), ("way", .str L.way), ("offer", L.offer), ("stay", L.stay), ("goal", L.goal)]
def LetAt (K : PySem.W.Frag) (H : Hp) (a : Addr) (L : Ltr) : Prop := ∃ dx, H a = some (.ins (He.ga K "Letter") dx L.fl)
theorem LetAt.same {K : PySem.W.Frag} {H H' : Hp} {a : Addr} {L : Ltr} (h : LetAt K H a L) (s : Same H H') : LetAt K H' a L := by
  obtain ⟨dx, e⟩ := h
  exact ⟨dx, s _ _ e⟩
def Ltr.args (L : Ltr) : List V := [.str L.verb, .str L.call, .str L.origin, .str L.otag, .str L.target, .str L.ttag, .int L.seq, .str L.way, L.code, L.offer, L.stay, L.goal]
def spLetInit (K : PySem.W.Frag) : Sp := fun vs H Q _ => ∃ (p dx : Addr) (L : Ltr), vs = .ref p :: L.args ∧ H p = some (.ins (He.ga K "Letter") dx []) ∧ Q .non (upd H p (.ins (He.ga K "Letter") dx L.fl))
theorem ok_Letter___init {P : Program} {w : World} {K : PySem.W.Frag} {mg : Str → Option Value} {base : Heap} {f : Addr} {fd : FuncData} (T : Tx K mg) 
    (F : FunD K "__init__" "Letter.__init__" (defArgs s_Letter___init) (defBody s_Letter___init) (defScope s_Letter___init) [] [("code", (V.non)), ("offer", (V.non)), ("stay", (V.non)), ("goal", (V.non))] f fd) : FnOk P w K mg base CX0 1 f fd ["self", "verb", "call", "origin", "origin_tag", "target", "target_tag", "seq", "way", "code", "offer", "stay", "goal"] (spLetInit K) := by
  refine F.ok sc_Letter___init (fun vs H Q E h => ?_) (fun cdv A outer s H vs Q E hr h => ?_)
  · obtain ⟨p, dx, L, rfl, _⟩ := h
    rfl
  · obtain ⟨p, dx, L, rfl, hp, k⟩ := h
    refine ⟨_, PSs.nox (pss_cons (ps_fldC rfl T.cl_Letter T.na_Letter_verb (pv 0) (pv 1) rfl) (pss_cons (ps_fldC rfl T.cl_Letter T.na_Letter_code (pv 0) (pv 9) rfl) (pss_cons (ps_fldC rfl T.cl_Letter T.na_Letter_call (pv 0) (pv 2) rfl) (pss_cons (ps_fldC rfl T.cl_Letter T.na_Letter_origin (pv 0) (pv 3) rfl) (pss_cons (ps_fldC rfl T.cl_Letter T.na_Letter_origin_tag (pv 0) (pv 4) rfl) (pss_cons (ps_fldC rfl T.cl_Letter T.na_Letter_target (pv 0) (pv 5) rfl) (pss_cons (ps_fldC rfl T.cl_Letter T.na_Letter_target_tag (pv 0) (pv 6) rfl) (pss_cons (ps_fldC rfl T.cl_Letter T.na_Letter_seq (pv 0) (pv 7) rfl) (pss_cons (ps_fldC rfl T.cl_Letter T.na_Letter_way (pv 0) (pv 8) rfl) (pss_cons (ps_fldC rfl T.cl_Letter T.na_Letter_offer (pv 0) (pv 10) rfl) (pss_cons (ps_fldC rfl T.cl_Letter T.na_Letter_stay (pv 0) (pv 11) rfl) (pss_one (ps_fldC rfl T.cl_Letter T.na_Letter_goal (pv 0) (pv 12) rfl))))))))))))), ?_⟩
    refine ⟨_, rfl, _, rfl, p, dx, _, rfl, hp, sm, ?_⟩
    refine ⟨_, rfl, _, rfl, p, dx, _, rfl, upd_same, sm, ?_⟩
    refine ⟨_, rfl, _, rfl, p, dx, _, rfl, upd_same, sm, ?_⟩
    refine ⟨_, rfl, _, rfl, p, dx, _, rfl, upd_same, sm, ?_⟩
    refine ⟨_, rfl, _, rfl, p, dx, _, rfl, upd_same, sm, ?_⟩
    refine ⟨_, rfl, _, rfl, p, dx, _, rfl, upd_same, sm, ?_⟩
    refine ⟨_, rfl, _, rfl, p, dx, _, rfl, upd_same, sm, ?_⟩
    refine ⟨_, rfl, _, rfl, p, dx, _, rfl, upd_same, sm, ?_⟩
    refine ⟨_, rfl, _, rfl, p, dx, _, rfl, upd_same, sm, ?_⟩
    refine ⟨_, rfl, _, rfl, p, dx, _, rfl, upd_same, sm, ?_⟩
    refine ⟨_, rfl, _, rfl, p, dx, _, rfl, upd_same, sm, ?_⟩
    refine ⟨_, rfl, _, rfl, p, dx, _, rfl, upd_same, sm, ?_⟩
    simp only [upd_upd]
    exact k
def Ltr.partsV (L : Ltr) : List V := [.str L.verb, L.code, .str L.call, .str L.origin, .str L.otag, .str L.target, .str L.ttag, .int L.seq, .str L.way, L.offer, L.stay, L.goal]
def spParts (K : PySem.W.Frag) : Sp := fun vs H Q _ => ∃ (a : Addr) (L : Ltr), vs = [.ref a] ∧ LetAt K H a L ∧ ∀ t, H t = none → Q (.ref t) (upd H t (.tup L.partsV))
theorem ok_Letter_parts {P : Program} {w : World} {K : PySem.W.Frag} {mg : Str → Option Value} {base : Heap} {f : Addr} {fd : FuncData} (T : Tx K mg) 
    (F : FunD K "parts" "Letter.parts" (defArgs s_Letter_parts) (defBody s_Letter_parts) (defScope s_Letter_parts) [] [] f fd) : FnOk P w K mg base CX0 1 f fd ["self"] (spParts K) := by
  refine F.ok sc_Letter_parts (fun vs H Q E h => ?_) (fun cdv A outer s H vs Q E hr h => ?_)
  · obtain ⟨p, L, rfl, _⟩ := h
    rfl
  · obtain ⟨p, L, rfl, ⟨dx, hp⟩, k⟩ := h
    refine ⟨_, PSs.nox (pss_one (ps_ret (pe_tup (pa_cons (pe_fldC rfl T.cl_Letter T.na_Letter_verb (pv 0) rfl) (pa_cons (pe_fldC rfl T.cl_Letter T.na_Letter_code (pv 0) rfl) (pa_cons (pe_fldC rfl T.cl_Letter T.na_Letter_call (pv 0) rfl) (pa_cons (pe_fldC rfl T.cl_Letter T.na_Letter_origin (pv 0) rfl) (pa_cons (pe_fldC rfl T.cl_Letter T.na_Letter_origin_tag (pv 0) rfl) (pa_cons (pe_fldC rfl T.cl_Letter T.na_Letter_target (pv 0) rfl) (pa_cons (pe_fldC rfl T.cl_Letter T.na_Letter_target_tag (pv 0) rfl) (pa_cons (pe_fldC rfl T.cl_Letter T.na_Letter_seq (pv 0) rfl) (pa_cons (pe_fldC rfl T.cl_Letter T.na_Letter_way (pv 0) rfl) (pa_cons (pe_fldC rfl T.cl_Letter T.na_Letter_offer (pv 0) rfl) (pa_cons (pe_fldC rfl T.cl_Letter T.na_Letter_stay (pv 0) rfl) (pa_cons (pe_fldC rfl T.cl_Letter T.na_Letter_goal (pv 0) rfl) pa_nil))))))))))))))), ?_⟩
    refine ⟨_, rfl, p, dx, _, _, rfl, hp, rfl, _, rfl, p, dx, _, _, rfl, hp, rfl, _, rfl, p, dx, _, _, rfl, hp, rfl, _, rfl, p, dx, _, _, rfl, hp, rfl, _, rfl, p, dx, _, _, rfl, hp, rfl, _, rfl, p, dx, _, _, rfl, hp, rfl, ?_⟩
    refine ⟨_, rfl, p, dx, _, _, rfl, hp, rfl, _, rfl, p, dx, _, _, rfl, hp, rfl, _, rfl, p, dx, _, _, rfl, hp, rfl, _, rfl, p, dx, _, _, rfl, hp, rfl, _, rfl, p, dx, _, _, rfl, hp, rfl, _, rfl, p, dx, _, _, rfl, hp, rfl, ?_⟩
    exact ⟨by show 12 ≤ sizeLine; decide, k⟩
def Ltr.reply (L : Ltr) (code : V) (tag : Str) (offer stay : V) : Ltr := ⟨L.verb, L.call, L.origin, L.otag, L.target, tag, L.seq, L.way, code, offer, stay, .non⟩
def spLReply (K : PySem.W.Frag) : Sp := fun vs H Q _ => ∃ (a : Addr) (L : Ltr) (code : V) (tag : Str) (offer stay : V), vs = [.ref a, code, .str tag, offer, stay] ∧ LetAt K H a L ∧ ∀ b H', Same H H' → H b = none → LetAt K H' b (L.reply code tag offer stay) → Q (.ref b) H'
theorem ok_Letter_reply {P : Program} {w : World} {K : PySem.W.Frag} {mg : Str → Option Value} {base : Heap} {f : Addr} {fd : FuncData} (T : Tx K mg) (c_mk_Letter_b : MakK P w K mg base 1 "Letter" (He.ga K "Letter") (spLetInit K) 0 ["verb", "code", "call", "origin", "origin_tag", "target", "target_tag", "seq", "way", "offer", "stay"] (fun vs zs => vs ++ ((((zs.drop 0).take 1) ++ (((zs.drop 2).take 7) ++ (((zs.drop 1).take 1) ++ (((zs.drop 9).take 2) ++ ((([(V.non)] : List V).drop 0).take 1))))))))
    (F : FunD K "reply" "Letter.reply" (defArgs s_Letter_reply) (defBody s_Letter_reply) (defScope s_Letter_reply) [(V.non), (V.non)] [] f fd) : FnOk P w K mg base CX0 3 f fd ["self", "code", "tag", "offer", "stay"] (spLReply K) := by
  refine F.ok sc_Letter_reply (fun vs H Q E h => ?_) (fun cdv A outer s H vs Q E hr h => ?_)
  · obtain ⟨p, L, code, tag, offer, stay, rfl, _⟩ := h
    rfl
  · obtain ⟨p, L, code, tag, offer, stay, rfl, ⟨dx, hp⟩, k⟩ := h
    refine ⟨_, PSs.nox (pss_one (ps_ret (pe_mkK0 c_mk_Letter_b hr (by decide) rfl (pk_cons (pe_fldC rfl T.cl_Letter T.na_Letter_verb (pv 0) rfl) (pk_cons (pv 1) (pk_cons (pe_fldC rfl T.cl_Letter T.na_Letter_call (pv 0) rfl) (pk_cons (pe_fldC rfl T.cl_Letter T.na_Letter_origin (pv 0) rfl) (pk_cons (pe_fldC rfl T.cl_Letter T.na_Letter_origin_tag (pv 0) rfl) (pk_cons (pe_fldC rfl T.cl_Letter T.na_Letter_target (pv 0) rfl) (pk_cons (pv 2) (pk_cons (pe_fldC rfl T.cl_Letter T.na_Letter_seq (pv 0) rfl) (pk_cons (pe_fldC rfl T.cl_Letter T.na_Letter_way (pv 0) rfl) (pk_cons (pv 3) (pk_cons (pv 4) pk_nil)))))))))))))), ?_⟩
    refine ⟨_, rfl, p, dx, _, _, rfl, hp, rfl, _, rfl, _, rfl, p, dx, _, _, rfl, hp, rfl, _, rfl, p, dx, _, _, rfl, hp, rfl, _, rfl, p, dx, _, _, rfl, hp, rfl, _, rfl, p, dx, _, _, rfl, hp, rfl, _, rfl, _, rfl, p, dx, _, _, rfl, hp, rfl, _, rfl, p, dx, _, _, rfl, hp, rfl, _, rfl, _, rfl, rfl, rfl, ?_⟩
    intro x dy hx hdy hne
    refine ⟨x, dy, L.reply code tag offer stay, rfl, upd_same, rfl, ?_⟩
    rw [upd_upd]
    exact k x _ (same_own hx hdy) hx ⟨dy, upd_same⟩

end K7
set_option maxHeartbeats 4000000
namespace K7
open PySem PySem.Spec PyProof.Rows L2 SX TK TKS
open C8 (pe_c)
/-! ### the text of a letter without offer, stay and goal -/
theorem emp_len : Str.empty.length = 0 := rfl
theorem k_request : ("request " : Str).length = 8 := by decide +kernel
theorem k_reply : ("reply " : Str).length = 6 := by decide +kernel
theorem k_blank : (" " : Str).length = 1 := by decide +kernel
theorem k_call : ("call " : Str).length = 5 := by decide +kernel
theorem k_from : ("from " : Str).length = 5 := by decide +kernel
theorem k_to : ("to " : Str).length = 3 := by decide +kernel
theorem k_seq : ("seq " : Str).length = 4 := by decide +kernel
theorem k_way : ("way " : Str).length = 4 := by decide +kernel
theorem k_nl : ("\n" : Str).length = 1 := by decide +kernel
def TxOk (z : Str) : Prop := PyData.strOk z = true
structure LOk (L : Ltr) : Prop where
  oks : TxOk L.verb ∧ TxOk L.call ∧ TxOk L.origin ∧ TxOk L.otag ∧ TxOk L.target ∧ TxOk L.ttag ∧ TxOk L.way
  seq0 : 0 ≤ L.seq
  verb : L.verb.length ≤ 1000
  call : L.call.length ≤ 1000
  origin : L.origin.length ≤ 1000
  otag : L.otag.length ≤ 1000
  target : L.target.length ≤ 1000
  ttag : L.ttag.length ≤ 1000
  seq : L.seq.natAbs < 1000000000
  way : L.way.length ≤ 1000
  code : L.code = .non ∨ ∃ c : Int, L.code = .int c ∧ 0 ≤ c ∧ c.natAbs < 1000000000
def headS (L : Ltr) : Str := match L.code with
  | .int c => Str.empty ++ "reply " ++ numS c ++ " " ++ L.verb
  | _ => Str.empty ++ "request " ++ L.verb
theorem headS_len {L : Ltr} (g : LOk L) : (headS L).length ≤ 2000 := by
  have := g.verb
  rcases g.code with e | ⟨c, e, hc0, hc⟩
  · have q : headS L = Str.empty ++ "request " ++ L.verb := by unfold headS; rw [e]
    rw [q, cat_len, cat_len, emp_len, k_request]
    omega
  · have q : headS L = Str.empty ++ "reply " ++ numS c ++ " " ++ L.verb := by unfold headS; rw [e]
    have := numS_len hc
    rw [q, cat_len, cat_len, cat_len, cat_len, emp_len, k_reply, k_blank]
    omega
def spHead (K : PySem.W.Frag) : Sp := fun vs H Q _ => ∃ (a : Addr) (L : Ltr), vs = [.ref a] ∧ LetAt K H a L ∧ LOk L ∧ Q (.str (headS L)) H
theorem ok_write_head {P : Program} {w : World} {K : PySem.W.Frag} {mg : Str → Option Value} {base : Heap} {f : Addr} {fd : FuncData} (T : Tx K mg) 
    (F : FunD K "_write_head" "_write_head" (defArgs s_write_head) (defBody s_write_head) (defScope s_write_head) [] [] f fd) : FnOk P w K mg base CX0 1 f fd ["letter"] (spHead K) := by
  refine F.ok sc_write_head (fun vs H Q E h => ?_) (fun cdv A outer s H vs Q E hr h => ?_)
  · obtain ⟨a, L, rfl, _⟩ := h
    rfl
  · obtain ⟨a, L, rfl, ⟨dx, hp⟩, g, k⟩ := h
    have g1 := g.verb
    refine ⟨_, PSs.nox (C8.pss_cut (ps_if (pt_cmpR op_isN (pe_fldC rfl T.cl_Letter T.na_Letter_code (pv 0) rfl) pe_non (nomark _)) (pss_one (ps_ret (pe_joined (PJ.cons pe_str (PJ.cons (pe_fmt (pe_fldC rfl T.cl_Letter T.na_Letter_verb (pv 0) rfl)) PJ.nil))))) pss_nil) (pss_one (ps_ret (pe_joined (PJ.cons pe_str (PJ.cons (pe_fmt (pe_fldC rfl T.cl_Letter T.na_Letter_code (pv 0) rfl)) (PJ.cons pe_str (PJ.cons (pe_fmt (pe_fldC rfl T.cl_Letter T.na_Letter_verb (pv 0) rfl)) PJ.nil)))))))), ?_⟩
    rcases g.code with e | ⟨c, e, hc0, hc⟩
    · have q : headS L = Str.empty ++ "request " ++ L.verb := by unfold headS; rw [e]
      rw [q] at k
      refine ⟨fun _ _ => False, ?_, fun _ _ z => z.elim⟩
      refine ⟨_, rfl, a, dx, _, _, rfl, hp, rfl, rfl, _, rfl, ?_⟩
      rw [e]
      refine iteT ⟨_, rfl, szl (by rw [cat_len, emp_len, k_request]; omega), _, rfl, a, dx, _, _, rfl, hp, rfl, .inl ⟨_, rfl, szl (by omega), _, rfl, szl (by rw [cat_len, cat_len, emp_len, k_request]; omega), k⟩⟩
    · have q : headS L = Str.empty ++ "reply " ++ numS c ++ " " ++ L.verb := by unfold headS; rw [e]
      have := numS_len hc
      rw [q] at k
      refine ⟨fun σ' H' => σ' = [some (.ref a)] ∧ H' = H, ?_, ?_⟩
      · refine ⟨_, rfl, a, dx, _, _, rfl, hp, rfl, rfl, _, rfl, ?_⟩
        rw [e]
        exact iteF ⟨rfl, rfl⟩
      · rintro σ' H' ⟨rfl, rfl⟩
        refine ⟨_, rfl, szl (by rw [cat_len, emp_len, k_reply]; omega), _, rfl, a, dx, _, _, rfl, hp, rfl, .inr ⟨c, e, numS_log hc, ?_⟩⟩
        refine ⟨_, rfl, szl (by show (_ ++ _ ++ numS c).length ≤ _; rw [cat_len, cat_len, emp_len, k_reply]; omega), ?_⟩
        refine ⟨_, rfl, szl (by show (_ ++ _ ++ numS c ++ _).length ≤ _; rw [cat_len, cat_len, cat_len, emp_len, k_reply, k_blank]; omega), ?_⟩
        exact ⟨_, rfl, a, dx, _, _, rfl, hp, rfl, .inl ⟨_, rfl, szl (by omega), _, rfl, szl (by show (_ ++ _ ++ numS c ++ _ ++ _).length ≤ _; rw [cat_len, cat_len, cat_len, cat_len, emp_len, k_reply, k_blank]; omega), k⟩⟩
def toS (L : Ltr) : Str := if ((L.ttag.length : Int) != 0) = true then Str.empty ++ "to " ++ L.target ++ " " ++ L.ttag else Str.empty ++ "to " ++ L.target
def linesS (L : Ltr) : List Str := [headS L, Str.empty ++ "call " ++ L.call, Str.empty ++ "from " ++ L.origin ++ " " ++ L.otag, toS L, Str.empty ++ "seq " ++ numS L.seq, Str.empty ++ "way " ++ L.way]
def textOf (l : List Str) : Str := Txt.join "" (l.map fun z => z ++ "\n")
theorem toS_len {L : Ltr} (g : LOk L) : (toS L).length ≤ 3000 := by
  have := g.target
  have := g.ttag
  unfold toS
  split
  · rw [cat_len, cat_len, cat_len, cat_len, emp_len, k_to, k_blank]
    omega
  · rw [cat_len, cat_len, emp_len, k_to]
    omega
theorem linesS_len {L : Ltr} (g : LOk L) : ∀ z ∈ linesS L, z.length ≤ 3000 := by
  intro z hz
  have := g.call
  have := g.origin
  have := g.otag
  have := g.way
  have := numS_len g.seq
  simp only [linesS, List.mem_cons, List.not_mem_nil, or_false] at hz
  rcases hz with rfl | rfl | rfl | rfl | rfl | rfl
  · exact Nat.le_trans (headS_len g) (by decide)
  · rw [cat_len, cat_len, emp_len, k_call]; omega
  · rw [cat_len, cat_len, cat_len, cat_len, emp_len, k_from, k_blank]; omega
  · exact toS_len g
  · rw [cat_len, cat_len, emp_len, k_seq]; omega
  · rw [cat_len, cat_len, emp_len, k_way]; omega
theorem textOf_fits {l : List Str} (h : ∀ z ∈ l, z.length ≤ 3000) (hn : l.length ≤ 100) : ((l.map fun z => z ++ ("\n" : Str)).map (·.length)).sum + (l.map fun z => z ++ ("\n" : Str)).length * ("" : Str).length ≤ 1000000 := by
  have e0 : ("" : Str).length = 0 := rfl
  rw [e0, Nat.mul_zero, Nat.add_zero]
  refine Nat.le_trans (sum_le (m := 3001) fun z hz => ?_) ?_
  · obtain ⟨y, hy, rfl⟩ := List.mem_map.mp hz
    rw [cat_len, k_nl]
    exact Nat.succ_le_succ (h y hy)
  · rw [List.length_map]
    omega
theorem linesS_ok {L : Ltr} (g : LOk L) : ∀ z ∈ linesS L, PyData.strOk z = true := by
  obtain ⟨h1, h2, h3, h4, h5, h6, h7⟩ := g.oks
  have q : PyData.strOk Str.empty = true := by decide +kernel
  have e1 := ok_num g.seq0
  intro z hz
  simp only [linesS, List.mem_cons, List.not_mem_nil, or_false] at hz
  rcases hz with rfl | rfl | rfl | rfl | rfl | rfl
  · rcases g.code with e | ⟨c, e, hc0, hc⟩
    · have e2 : headS L = Str.empty ++ "request " ++ L.verb := by unfold headS; rw [e]
      rw [e2]
      exact ok_cat (ok_cat q (by decide +kernel)) h1
    · have e2 : headS L = Str.empty ++ "reply " ++ numS c ++ " " ++ L.verb := by unfold headS; rw [e]
      rw [e2]
      exact ok_cat (ok_cat (ok_cat (ok_cat q (by decide +kernel)) (ok_num hc0)) (by decide +kernel)) h1
  · exact ok_cat (ok_cat q (by decide +kernel)) h2
  · exact ok_cat (ok_cat (ok_cat (ok_cat q (by decide +kernel)) h3) (by decide +kernel)) h4
  · unfold toS
    split
    · exact ok_cat (ok_cat (ok_cat (ok_cat q (by decide +kernel)) h5) (by decide +kernel)) h6
    · exact ok_cat (ok_cat q (by decide +kernel)) h5
  · exact ok_cat (ok_cat q (by decide +kernel)) e1
  · exact ok_cat (ok_cat q (by decide +kernel)) h7
theorem textOf_ok {l : List Str} (h : ∀ z ∈ l, PyData.strOk z = true) : PyData.strOk (textOf l) = true :=
  ok_join (by decide +kernel) fun z hz => by
    obtain ⟨y, hy, rfl⟩ := List.mem_map.mp hz
    exact ok_cat (h y hy) (by decide +kernel)

/-! ### the text of any letter -/
theorem k_offer : ("offer " : Str).length = 6 := by decide +kernel
theorem k_stay : ("stay " : Str).length = 5 := by decide +kernel
theorem k_goal : ("goal " : Str).length = 5 := by decide +kernel
def offL : Option Off → List Str
  | none => []
  | some o => [Str.empty ++ "offer " ++ wordsS o]
def stayL : V → List Str
  | .int n => [Str.empty ++ "stay " ++ numS n]
  | _ => []
def goalL : V → List Str
  | .str z => [Str.empty ++ "goal " ++ z]
  | _ => []
def linesX (L : Ltr) (o : Option Off) : List Str := linesS L ++ offL o ++ stayL L.stay ++ goalL L.goal
structure XOk (L : Ltr) (o : Option Off) : Prop where
  off : ∀ u, o = some u → OffOk u
  offT : ∀ u, o = some u → TxOk (wordsS u)
  stay : L.stay = .non ∨ ∃ c : Int, L.stay = .int c ∧ 0 ≤ c ∧ c.natAbs < 1000000000
  goal : L.goal = .non ∨ ∃ z : Str, L.goal = .str z ∧ TxOk z ∧ z.length ≤ 1000
theorem wordsS_len {o : Off} (ok : OffOk o) : (wordsS o).length ≤ 130 := by
  obtain ⟨j1, j2⟩ := ok.join
  obtain ⟨t1, t2⟩ := ok.str
  have lm := ok.m
  have b := join_len " " [Str.ofString (toString o.port), o.mode, Txt.join "," o.fs]
  rw [blank_len] at b
  unfold wordsS
  refine Nat.le_trans b ?_
  show (Str.ofString (toString o.port)).length + (o.mode.length + ((Txt.join "," o.fs).length + 0)) + 3 * 1 ≤ 130
  omega
theorem linesX_n (L : Ltr) (o : Option Off) : (linesX L o).length ≤ 9 := by
  unfold linesX
  rw [List.length_append, List.length_append, List.length_append]
  have : (offL o).length ≤ 1 := by cases o <;> simp [offL]
  have : (stayL L.stay).length ≤ 1 := by unfold stayL; split <;> simp
  have : (goalL L.goal).length ≤ 1 := by unfold goalL; split <;> simp
  show 6 + _ + _ + _ ≤ 9
  omega
theorem linesX_len {L : Ltr} {o : Option Off} (g : LOk L) (xk : XOk L o) : ∀ z ∈ linesX L o, z.length ≤ 3000 := by
  intro z hz
  unfold linesX at hz
  rw [List.mem_append, List.mem_append, List.mem_append] at hz
  rcases hz with ((hz | hz) | hz) | hz
  · exact linesS_len g z hz
  · cases o with
    | none => cases hz
    | some o =>
      have := wordsS_len (xk.off o rfl)
      rw [List.mem_singleton.mp hz, cat_len, cat_len, emp_len, k_offer]
      omega
  · rcases xk.stay with e | ⟨c, e, hc0, hc⟩
    · rw [e] at hz
      cases hz
    · have := numS_len hc
      rw [e] at hz
      rw [List.mem_singleton.mp hz, cat_len, cat_len, emp_len, k_stay]
      omega
  · rcases xk.goal with e | ⟨y, e, hz0, hy⟩
    · rw [e] at hz
      cases hz
    · rw [e] at hz
      rw [List.mem_singleton.mp hz, cat_len, cat_len, emp_len, k_goal]
      omega
theorem linesX_ok {L : Ltr} {o : Option Off} (g : LOk L) (xk : XOk L o) : ∀ z ∈ linesX L o, PyData.strOk z = true := by
  have q : PyData.strOk Str.empty = true := by decide +kernel
  intro z hz
  unfold linesX at hz
  rw [List.mem_append, List.mem_append, List.mem_append] at hz
  rcases hz with ((hz | hz) | hz) | hz
  · exact linesS_ok g z hz
  · cases o with
    | none => cases hz
    | some o =>
      rw [List.mem_singleton.mp hz]
      exact ok_cat (ok_cat q (by decide +kernel)) (xk.offT o rfl)
  · rcases xk.stay with e | ⟨c, e, hc0, hc⟩
    · rw [e] at hz
      cases hz
    · rw [e] at hz
      rw [List.mem_singleton.mp hz]
      exact ok_cat (ok_cat q (by decide +kernel)) (ok_num hc0)
  · rcases xk.goal with e | ⟨y, e, hz0, hy⟩
    · rw [e] at hz
      cases hz
    · rw [e] at hz
      rw [List.mem_singleton.mp hz]
      exact ok_cat (ok_cat q (by decide +kernel)) hz0
def spWrite1 (K : PySem.W.Frag) : Sp := fun vs H Q _ => ∃ (a : Addr) (L : Ltr), vs = [.ref a] ∧ LetAt K H a L ∧ LOk L ∧ (∃ o, OffO H L.offer o ∧ XOk L o ∧ ∀ H', Same H H' → Q (.str (textOf (linesX L o))) H')
theorem ok_write {P : Program} {w : World} {K : PySem.W.Frag} {mg : Str → Option Value} {base : Heap} {f : Addr} {fd : FuncData} (T : Tx K mg) (c_write_head : C8.Cal P w K mg base 1 "_write_head" (spHead K) []) (c_write_offer : C8.Cal P w K mg base 1 "write_offer" spWrite [])
    (F : FunD K "write" "write" (defArgs s_write) (defBody s_write) (defScope s_write) [] [] f fd) : FnOk P w K mg base CX0 2 f fd ["letter"] (spWrite1 K) := by
  refine F.ok sc_write (fun vs H Q E h => ?_) (fun cdv A outer s H vs Q E hr h => ?_)
  · obtain ⟨a, L, rfl, _⟩ := h
    rfl
  · obtain ⟨a, L, rfl, hl, g, o, ho, xk, k⟩ := h
    obtain ⟨dx, hp⟩ := id hl
    have g1 := g.call
    have g2 := g.origin
    have g3 := g.otag
    have g4 := g.target
    have g5 := g.ttag
    have g6 := g.way
    have g7 := numS_len g.seq
    refine ⟨_, PSs.nox (pss_cons (ps_set (i := 1) sc_write.nd rfl (Or.inl rfl) (pe_lst (pa_cons (pe_c c_write_head hr (by decide) rfl (pa_cons (pv 0) pa_nil)) (pa_cons (pe_joined (PJ.cons pe_str (PJ.cons (pe_fmt (pe_fldC rfl T.cl_Letter T.na_Letter_call (pv 0) rfl)) PJ.nil))) (pa_cons (pe_joined (PJ.cons pe_str (PJ.cons (pe_fmt (pe_fldC rfl T.cl_Letter T.na_Letter_origin (pv 0) rfl)) (PJ.cons pe_str (PJ.cons (pe_fmt (pe_fldC rfl T.cl_Letter T.na_Letter_origin_tag (pv 0) rfl)) PJ.nil))))) pa_nil))))) (pss_cons (ps_expr (pe_bm PySem.F.plainAttrs_list PySem.F.slot_list_append PySem.F.type_list_append mt_append (pv 1) (pa_cons (pe_cut (pe_ifExp (pt_truth (pe_fldC rfl T.cl_Letter T.na_Letter_target_tag (pv 0) rfl) (fun _ => rfl)) (pe_joined (PJ.cons pe_str (PJ.cons (pe_fmt (pe_fldC rfl T.cl_Letter T.na_Letter_target (pv 0) rfl)) (PJ.cons pe_str (PJ.cons (pe_fmt (pe_fldC rfl T.cl_Letter T.na_Letter_target_tag (pv 0) rfl)) PJ.nil))))) (pe_joined (PJ.cons pe_str (PJ.cons (pe_fmt (pe_fldC rfl T.cl_Letter T.na_Letter_target (pv 0) rfl)) PJ.nil))))) pa_nil))) (pss_cons (ps_expr (pe_bm PySem.F.plainAttrs_list PySem.F.slot_list_extend PySem.F.type_list_extend mt_extend (pv 1) (pa_cons (pe_lst (pa_cons (pe_joined (PJ.cons pe_str (PJ.cons (pe_fmt (pe_fldC rfl T.cl_Letter T.na_Letter_seq (pv 0) rfl)) PJ.nil))) (pa_cons (pe_joined (PJ.cons pe_str (PJ.cons (pe_fmt (pe_fldC rfl T.cl_Letter T.na_Letter_way (pv 0) rfl)) PJ.nil))) pa_nil))) pa_nil))) (C8.pss_cut (ps_if (pt_cmpR op_notN (pe_fldC rfl T.cl_Letter T.na_Letter_offer (pv 0) rfl) pe_non (nomark _)) (pss_one (ps_expr (pe_bm PySem.F.plainAttrs_list PySem.F.slot_list_append PySem.F.type_list_append mt_append (pv 1) (pa_cons (pe_joined (PJ.cons pe_str (PJ.cons (pe_fmt (pe_c c_write_offer hr (by decide) rfl (pa_cons (pe_fldC rfl T.cl_Letter T.na_Letter_offer (pv 0) rfl) pa_nil))) PJ.nil))) pa_nil)))) pss_nil) (C8.pss_cut (ps_if (pt_cmpR op_notN (pe_fldC rfl T.cl_Letter T.na_Letter_stay (pv 0) rfl) pe_non (nomark _)) (pss_one (ps_expr (pe_bm PySem.F.plainAttrs_list PySem.F.slot_list_append PySem.F.type_list_append mt_append (pv 1) (pa_cons (pe_joined (PJ.cons pe_str (PJ.cons (pe_fmt (pe_fldC rfl T.cl_Letter T.na_Letter_stay (pv 0) rfl)) PJ.nil))) pa_nil)))) pss_nil) (C8.pss_cut (ps_if (pt_cmpR op_notN (pe_fldC rfl T.cl_Letter T.na_Letter_goal (pv 0) rfl) pe_non (nomark _)) (pss_one (ps_expr (pe_bm PySem.F.plainAttrs_list PySem.F.slot_list_append PySem.F.type_list_append mt_append (pv 1) (pa_cons (pe_joined (PJ.cons pe_str (PJ.cons (pe_fmt (pe_fldC rfl T.cl_Letter T.na_Letter_goal (pv 0) rfl)) PJ.nil))) pa_nil)))) pss_nil) (pss_one (ps_ret (pe_join pe_str (pe_lc (own := [("line", 2)]) (g := gName 2) rfl sc_write.nd (pi_list (pv 1)) (blkOk_by (own := [("line", 2)]) (N := ["letter", "lines", "line"]) (sc := defScope s_write) (by decide +kernel)) (fun _ _ _ _ _ => pg_name (i := 2) sc_write.nd rfl (Or.inl rfl)) (fun _ _ _ _ _ => pts_nil) (fun _ _ _ _ _ => (pe_op op_add_str (pv 2) pe_str)))))))))))), ?_⟩
    refine ⟨_, rfl, a, L, rfl, hl, g, ?_⟩
    refine ⟨_, rfl, szl (by rw [cat_len, emp_len, k_call]; omega), _, rfl, a, dx, _, _, rfl, hp, rfl, .inl ⟨_, rfl, szl (by omega), _, rfl, szl (by rw [cat_len, cat_len, emp_len, k_call]; omega), ?_⟩⟩
    refine ⟨_, rfl, szl (by rw [cat_len, emp_len, k_from]; omega), _, rfl, a, dx, _, _, rfl, hp, rfl, .inl ⟨_, rfl, szl (by omega), _, rfl, szl (by rw [cat_len, cat_len, emp_len, k_from]; omega), ?_⟩⟩
    refine ⟨_, rfl, szl (by rw [cat_len, cat_len, cat_len, emp_len, k_from, k_blank]; omega), _, rfl, a, dx, _, _, rfl, hp, rfl, .inl ⟨_, rfl, szl (by omega), _, rfl, szl (by rw [cat_len, cat_len, cat_len, cat_len, emp_len, k_from, k_blank]; omega), ?_⟩⟩
    refine ⟨by show 3 ≤ sizeLine; decide, fun l hnl => ?_⟩
    have al : a ≠ l := ne_of_none hp hnl
    -- lines.append(to)
    refine ⟨_, rfl, .inl ⟨rfl, _, SqL.of upd_same⟩, fun v H' => v = .str (toS L) ∧ H' = upd H l (.lst [.str (headS L), .str (Str.empty ++ "call " ++ L.call), .str (Str.empty ++ "from " ++ L.origin ++ " " ++ L.otag)]), ?_, ?_⟩
    · have hp1 : ∀ o, (upd H l o) a = some (.ins (He.ga K "Letter") dx L.fl) := fun o => by rw [upd_ne al]; exact hp
      refine ⟨_, rfl, a, dx, _, .str L.ttag, rfl, hp1 _, rfl, _, ⟨szl (by omega), rfl⟩, ?_⟩
      cases e : ((L.ttag.length : Int) != 0) with
      | true =>
        have q : toS L = Str.empty ++ "to " ++ L.target ++ " " ++ L.ttag := by unfold toS; rw [e]; rfl
        rw [q]
        refine iteT ⟨_, rfl, szl (by rw [cat_len, emp_len, k_to]; omega), _, rfl, a, dx, _, _, rfl, hp1 _, rfl, .inl ⟨_, rfl, szl (by omega), _, rfl, szl (by rw [cat_len, cat_len, emp_len, k_to]; omega), ?_⟩⟩
        exact ⟨_, rfl, szl (by rw [cat_len, cat_len, cat_len, emp_len, k_to, k_blank]; omega), _, rfl, a, dx, _, _, rfl, hp1 _, rfl, .inl ⟨_, rfl, szl (by omega), _, rfl, szl (by rw [cat_len, cat_len, cat_len, cat_len, emp_len, k_to, k_blank]; omega), rfl, rfl⟩⟩
      | false =>
        have q : toS L = Str.empty ++ "to " ++ L.target := by unfold toS; rw [e]; rfl
        rw [q]
        exact iteF ⟨_, rfl, szl (by rw [cat_len, emp_len, k_to]; omega), _, rfl, a, dx, _, _, rfl, hp1 _, rfl, .inl ⟨_, rfl, szl (by omega), _, rfl, szl (by rw [cat_len, cat_len, emp_len, k_to]; omega), rfl, rfl⟩⟩
    rintro v H' ⟨rfl, rfl⟩
    refine ⟨l, _, _, rfl, rfl, upd_same, by show 3 < sizeLine; decide, ?_⟩
    rw [upd_upd]
    -- lines.extend([seq, way])
    have hp1 : ∀ o, (upd H l o) a = some (.ins (He.ga K "Letter") dx L.fl) := fun o => by rw [upd_ne al]; exact hp
    refine ⟨_, rfl, .inl ⟨rfl, _, SqL.of upd_same⟩, _, rfl, szl (by rw [cat_len, emp_len, k_seq]; omega), _, rfl, a, dx, _, _, rfl, hp1 _, rfl, .inr ⟨_, rfl, numS_log g.seq, ?_⟩⟩
    refine ⟨_, rfl, szl (by show (_ ++ _ ++ numS L.seq).length ≤ _; rw [cat_len, cat_len, emp_len, k_seq]; omega), ?_⟩
    refine ⟨_, rfl, szl (by rw [cat_len, emp_len, k_way]; omega), _, rfl, a, dx, _, _, rfl, hp1 _, rfl, .inl ⟨_, rfl, szl (by omega), _, rfl, szl (by rw [cat_len, cat_len, emp_len, k_way]; omega), ?_⟩⟩
    refine ⟨by show 2 ≤ sizeLine; decide, fun l2 hn2 => ?_⟩
    have l2l : l ≠ l2 := fun e => by rw [← e, upd_same] at hn2; cases hn2
    have hn20 : H l2 = none := by rw [upd_ne l2l.symm] at hn2; exact hn2
    refine ⟨l, l2, _, _, rfl, rfl, (by rw [upd_ne l2l]; exact upd_same), upd_same, by show 6 ≤ sizeLine; decide, ?_⟩
    have sH : Same H (upd (upd (upd H l (.lst [.str (headS L), .str (Str.empty ++ "call " ++ L.call), .str (Str.empty ++ "from " ++ L.origin ++ " " ++ L.otag), .str (toS L)])) l2 (.lst [.str (Str.empty ++ "seq " ++ numS L.seq), .str (Str.empty ++ "way " ++ L.way)])) l (.lst ((linesS L).map V.str))) := TK.Same.upd_of ((same_upd hnl).trans (same_upd hn2)) hnl
    -- the offer, the stay, the goal
    have app : ∀ {H1 : Hp} {l1 : List Str} {z : Str}, H1 l = some (.lst (l1.map V.str)) → upd H1 l (.lst (l1.map V.str ++ [.str z])) = upd H1 l (.lst ((l1 ++ [z]).map V.str)) := fun _ => by rw [List.map_append]; rfl
    refine ⟨fun σ' H' => σ' = [some (.ref a), some (.ref l), none] ∧ Same H H' ∧ H' l = some (.lst ((linesS L ++ offL o).map V.str)), ?_, ?_⟩
    · refine ⟨_, rfl, a, dx, _, _, rfl, sH _ _ hp, rfl, rfl, _, rfl, ?_⟩
      rw [ho.none_iff]
      cases o with
      | none =>
        refine iteF ⟨rfl, sH, ?_⟩
        rw [show offL none = [] from rfl, List.append_nil]
        exact upd_same
      | some o =>
        have ok := xk.off o rfl
        have wl := wordsS_len ok
        refine iteT ⟨_, rfl, .inl ⟨rfl, _, SqL.of upd_same⟩, _, rfl, szl (by rw [cat_len, emp_len, k_offer]; omega), ?_⟩
        refine ⟨_, rfl, a, dx, _, _, rfl, sH _ _ hp, rfl, _, o, rfl, ho.same sH, ok, fun H2 s2 => .inl ⟨_, rfl, szl (by omega), _, rfl, szl (by rw [cat_len, cat_len, emp_len, k_offer]; omega), ?_⟩⟩
        have h2 := s2 _ _ (show (upd _ l _) l = some (.lst ((linesS L).map V.str)) from upd_same)
        refine ⟨l, _, _, rfl, rfl, h2, by show 6 < sizeLine; decide, ?_⟩
        refine ⟨rfl, TK.Same.upd_of (sH.trans s2) hnl, ?_⟩
        rw [upd_same, List.map_append]
        rfl
    rintro σ' H1 ⟨rfl, sH, hl1⟩
    have n1 : (linesS L ++ offL o).length ≤ 7 := by
      rw [List.length_append]
      have : (offL o).length ≤ 1 := by cases o <;> simp [offL]
      show 6 + _ ≤ 7
      omega
    have zl1 := linesX_len (L := L) (o := o) g xk
    unfold linesX at zl1
    refine ⟨fun σ' H' => σ' = [some (.ref a), some (.ref l), none] ∧ Same H H' ∧ H' l = some (.lst ((linesS L ++ offL o ++ stayL L.stay).map V.str)), ?_, ?_⟩
    · refine ⟨_, rfl, a, dx, _, _, rfl, sH _ _ hp, rfl, rfl, _, rfl, ?_⟩
      rcases xk.stay with e | ⟨c, e, hc0, hc⟩
      · rw [e]
        refine iteF ⟨rfl, sH, ?_⟩
        rw [show stayL V.non = [] from rfl, List.append_nil]
        exact hl1
      · have := numS_len hc
        rw [e]
        refine iteT ⟨_, rfl, .inl ⟨rfl, _, SqL.of hl1⟩, _, rfl, szl (by rw [cat_len, emp_len, k_stay]; omega), ?_⟩
        refine ⟨_, rfl, a, dx, _, _, rfl, sH _ _ hp, rfl, .inr ⟨c, e, numS_log hc, ?_⟩⟩
        refine ⟨_, rfl, szl (by show (_ ++ _ ++ numS c).length ≤ _; rw [cat_len, cat_len, emp_len, k_stay]; omega), ?_⟩
        refine ⟨l, _, _, rfl, rfl, hl1, by rw [List.length_map]; exact Nat.lt_of_le_of_lt n1 (by decide), ?_⟩
        refine ⟨rfl, TK.Same.upd_of sH hnl, ?_⟩
        rw [upd_same, List.map_append (l₂ := stayL _)]
        rfl
    rintro σ' H2 ⟨rfl, sH, hl1⟩
    have n2 : (linesS L ++ offL o ++ stayL L.stay).length ≤ 8 := by
      rw [List.length_append]
      have : (stayL L.stay).length ≤ 1 := by unfold stayL; split <;> simp
      omega
    refine ⟨fun σ' H' => σ' = [some (.ref a), some (.ref l), none] ∧ Same H H' ∧ H' l = some (.lst ((linesX L o).map V.str)), ?_, ?_⟩
    · refine ⟨_, rfl, a, dx, _, _, rfl, sH _ _ hp, rfl, rfl, _, rfl, ?_⟩
      unfold linesX
      rcases xk.goal with e | ⟨z, e, hz0, hz⟩
      · rw [e]
        refine iteF ⟨rfl, sH, ?_⟩
        rw [show goalL V.non = [] from rfl, List.append_nil]
        exact hl1
      · rw [e]
        refine iteT ⟨_, rfl, .inl ⟨rfl, _, SqL.of hl1⟩, _, rfl, szl (by rw [cat_len, emp_len, k_goal]; omega), ?_⟩
        refine ⟨_, rfl, a, dx, _, _, rfl, sH _ _ hp, rfl, .inl ⟨z, e, szl (by omega), _, rfl, szl (by rw [cat_len, cat_len, emp_len, k_goal]; omega), ?_⟩⟩
        refine ⟨l, _, _, rfl, rfl, hl1, by rw [List.length_map]; exact Nat.lt_of_le_of_lt n2 (by decide), ?_⟩
        refine ⟨rfl, TK.Same.upd_of sH hnl, ?_⟩
        rw [upd_same, List.map_append (l₂ := goalL _)]
        rfl
    rintro σ' H3 ⟨rfl, sH, hl1⟩
    have n3 := linesX_n L o
    -- the join
    refine ⟨⟨_, rfl⟩, _, rfl, l, rfl, ⟨_, SqL.of hl1⟩, fun D hD => ?_⟩
    have hS2 : ∀ u, SqL K (upd H3 D u) l ((linesX L o).map V.str) := fun o => SqL.of ((same_upd hD) _ _ hl1)
    have hfit := textOf_fits (linesX_len g xk) (Nat.le_trans n3 (by decide))
    refine lc_pureN walk_list (fun i => V.str ((linesX L o).getD i "" ++ "\n")) (by rw [List.length_map]; exact Nat.le_trans n3 (by show 9 ≤ sizeLine; decide)) (fun _ _ => hS2 _) (fun i x H4 kk hi y q => ?_) ?_
    · obtain ⟨rfl, hx⟩ := y
      rw [List.length_map] at hi
      rw [List.getElem?_map, List.getElem?_eq_getElem hi] at hx
      obtain rfl := Option.some.inj hx
      refine ⟨rfl, _, rfl, _, _, rfl, rfl, Nat.le_trans (Nat.add_le_add (linesX_len g xk _ (List.getElem_mem hi)) (Nat.le_of_eq k_nl)) (by decide), ?_⟩
      rw [List.getD_eq_getElem?_getD, List.getElem?_eq_getElem hi] at q
      exact q
    · rw [List.length_map, range_map_getD (linesX L o) "" fun z => V.str (z ++ "\n")]
      refine ⟨_, D, (linesX L o).map fun z => z ++ "\n", rfl, rfl, .inl (SqL.of ?_), ?_, ?_⟩
      · rw [List.map_map]
        exact upd_same
      · exact Nat.le_trans hfit (by decide)
      · exact k _ (sH.trans (same_upd hD))

end K7
set_option maxHeartbeats 4000000
namespace K7
open PySem PySem.Spec PyProof.Rows L2 SX TK TKS
open C8 (pe_c)
/-! ### an offer's words, read back -/
theorem numL_zero : ∀ n : Nat, (TL.numL n).getD 0 0 = 48 → n = 0 := by
  intro n
  induction n using Nat.strongRecOn with
  | _ n ih =>
    intro h
    by_cases h1 : n < 10
    · rw [TL.numL_lt h1] at h
      have : 48 + n = 48 := h
      omega
    · have h2 : 10 ≤ n := by omega
      rw [TL.numL_step h2] at h
      have h3 : (TL.numL (n / 10)).getD 0 0 = 48 := by
        cases e : TL.numL (n / 10) with
        | nil => exact absurd e (TL.numL_ne _)
        | cons a r =>
          rw [e] at h
          exact h
      have := ih (n / 10) (by omega) h3
      omega
theorem digits_in : ∀ c, 48 ≤ c → c ≤ 57 → c ∈ TL.tl zDG := by
  intro c h1 h2
  have e : TL.tl zDG = [48, 49, 50, 51, 52, 53, 54, 55, 56, 57] := by decide +kernel
  rw [e]
  simp only [List.mem_cons, List.not_mem_nil, or_false]
  omega
theorem num_back {i m : Int} (h0 : 0 ≤ i) (h1 : i ≤ m) (h2 : i ≤ 999999999) : numV (Str.ofString (toString i)) m = .int i := by
  obtain ⟨n, rfl⟩ := Int.eq_ofNat_of_zero_le h0
  rw [num_S]
  have hl : (TL.numL n).length ≤ 9 := TL.numL_len (by decide) (by omega)
  have hp : 0 < (TL.numL n).length := List.length_pos_iff.mpr (TL.numL_ne n)
  have hd := TL.numL_digits n
  have c1 : consB (S (TL.numL n)) zDG 9 = true := by
    unfold consB consL
    rw [Bool.and_eq_true, Bool.and_eq_true, decide_eq_true_eq, decide_eq_true_eq, List.all_eq_true]
    refine ⟨⟨?_, ?_⟩, fun c hc => decide_eq_true (digits_in c (hd c hc).1 (hd c hc).2)⟩
    · show (1 : Int) ≤ ((TL.numL n).length : Int)
      omega
    · show ((TL.numL n).length : Int) ≤ 9
      omega
  have c2 : (decide (V.str (S [(TL.tl (S (TL.numL n))).getD 0 0]) = V.str "0") && !decide (V.str (S (TL.numL n)) = V.str "0")) = false := by
    by_cases e : (TL.numL n).getD 0 0 = 48
    · have e0 := numL_zero n e
      subst e0
      decide +kernel
    · have e1 : decide (V.str (S [(TL.tl (S (TL.numL n))).getD 0 0]) = V.str "0") = false := decide_eq_false fun q => e (by
        have q2 := V.str.inj q
        rw [show ("0" : Str) = S [48] by decide +kernel] at q2
        exact (List.cons.inj (S_inj q2)).1)
      rw [e1]
      rfl
  unfold numV
  rw [if_pos c1, if_neg (by rw [c2]; exact Bool.false_ne_true)]
  show (if ((NumText.digitsVal (TL.numL n) : Nat) : Int) ≤ m then V.int (NumText.digitsVal (TL.numL n) : Nat) else .non) = _
  rw [TL.numL_val, if_pos h1]
theorem modes_plain : ∀ z ∈ modesL, 32 ∉ TL.tl z := by decide +kernel
theorem joinL_free {c : Nat} {s : List Nat} (hs : c ∉ s) : ∀ l : List (List Nat), (∀ p ∈ l, c ∉ p) → c ∉ TL.joinL s l
  | [], _ => by simp [TL.joinL]
  | [p], h => h p (by simp)
  | p :: q :: r, h => by
    show c ∉ p ++ (s ++ TL.joinL s (q :: r))
    rw [List.mem_append, List.mem_append]
    rintro (z | z | z)
    · exact h p (by simp) z
    · exact hs z
    · exact joinL_free hs (q :: r) (fun x hx => h x (List.mem_cons_of_mem _ hx)) z
theorem str_noblank {i : Int} (h0 : 0 ≤ i) : 32 ∉ TL.tl (Str.ofString (toString i)) := by
  obtain ⟨n, rfl⟩ := Int.eq_ofNat_of_zero_le h0
  rw [TL.tl_num]
  exact TL.numL_free (by omega)

/-! ### dicts of parts -/
theorem mergeK_app : ∀ (more kvs : List (Key × V)), ((kvs ++ more).map (·.1)).Nodup → mergeK kvs more = kvs ++ more
  | [], kvs, _ => by
    rw [List.append_nil]
    rfl
  | kv :: more, kvs, h => by
    have e : mergeK kvs (kv :: more) = mergeK (putK kvs kv.1 kv.2) more := rfl
    have hv : valV kvs kv.1 = none := by
      have h1 := valV_any kv.1 kvs
      have h2 : (kvs.any fun q => decide (q.1 = kv.1)) = false := by
        rw [Bool.eq_false_iff]
        intro z
        obtain ⟨q, hq, e⟩ := List.any_eq_true.mp z
        rw [List.map_append, List.map_cons, List.nodup_append] at h
        exact h.2.2 q.1 (List.mem_map.mpr ⟨q, hq, rfl⟩) kv.1 (List.mem_cons_self ..) (of_decide_eq_true e)
      rw [h2] at h1
      cases q : valV kvs kv.1 with
      | none => rfl
      | some x => rw [q] at h1; cases h1
    rw [e, putK_new _ hv, mergeK_app more _ (by simpa using h)]
    simp
theorem dkOf_keys : ∀ {ks : List Str} {zs : List V}, ks.length = zs.length → (dkOf ks zs).map (·.1) = ks.map Sum.inr
  | [], _, _ => rfl
  | _ :: _, [], h => nomatch h
  | k :: ks, z :: zs, h => by
    show Sum.inr k :: (dkOf ks zs).map (·.1) = _
    rw [dkOf_keys (Nat.succ.inj h)]
    rfl
theorem dkOf_app : ∀ {ks ks' : List Str} {zs zs' : List V}, ks.length = zs.length → dkOf ks zs ++ dkOf ks' zs' = dkOf (ks ++ ks') (zs ++ zs')
  | [], _, [], _, _ => rfl
  | [], _, _ :: _, _, h => nomatch h
  | _ :: _, _, [], _, h => nomatch h
  | k :: ks, _, z :: zs, _, h => congrArg (List.cons (Sum.inr k, z)) (dkOf_app (Nat.succ.inj h))
theorem nd_inr {ks : List Str} (h : ks.Nodup) : (ks.map (Sum.inr : Str → Key)).Nodup := List.Pairwise.map _ (fun _ _ q e => q (Sum.inr.inj e)) h
theorem merge_dk {ks ks' : List Str} {zs zs' : List V} (hl : ks.length = zs.length) (hl' : ks'.length = zs'.length) (nd : (ks ++ ks').Nodup) : mergeK (dkOf ks zs) (dkOf ks' zs') = dkOf (ks ++ ks') (zs ++ zs') := by
  rw [mergeK_app, dkOf_app hl]
  rw [List.map_append, dkOf_keys hl, dkOf_keys hl', ← List.map_append]
  exact nd_inr nd
theorem merge_dk0 {ks : List Str} {zs : List V} (hl : ks.length = zs.length) (nd : ks.Nodup) : mergeK [] (dkOf ks zs) = dkOf ks zs := merge_dk (ks := []) (zs := []) rfl hl nd
/-! ### the head of a letter, read -/
def verbsL : List Str := ["CALL", "KEEP", "STOP", "END", "TURN", "MOVE", "LIVE", "SIGN"]
def codesL : List Int := [18, 20, 41, 43, 44, 45, 46, 48, 50]
theorem verbs_v : ([.str "CALL", .str "KEEP", .str "STOP", .str "END", .str "TURN", .str "MOVE", .str "LIVE", .str "SIGN"] : List V) = verbsL.map V.str := rfl
theorem verbs_len : ∀ z ∈ verbsL, z.length ≤ 16 := by decide +kernel
def headW (v : Str) : Option Int → List Str
  | none => ["request", v]
  | some c => ["reply", numS c, v]
def headK : Option Int → List Str
  | none => ["verb"]
  | some _ => ["verb", "code"]
def headZ (v : Str) : Option Int → List V
  | none => [.str v]
  | some c => [.str v, .int c]
theorem code_num : ∀ c ∈ codesL, numV (numS c) 99 = .int c := fun c hc => by
  have h : 0 ≤ c ∧ c ≤ 99 := (by decide : ∀ c ∈ codesL, 0 ≤ c ∧ c ≤ 99) c hc
  exact num_back h.1 h.2 (by omega)
theorem code_in : ∀ c ∈ codesL, inV (.int c) [.int 18, .int 20, .int 41, .int 43, .int 44, .int 45, .int 46, .int 48, .int 50] = true := by decide
theorem code_int : ∀ c ∈ codesL, PySem.intText? (numS c) = some c := fun c hc => by
  have h : 0 ≤ c ∧ c ≤ 99 := (by decide : ∀ c ∈ codesL, 0 ≤ c ∧ c ≤ 99) c hc
  obtain ⟨n, rfl⟩ := Int.eq_ofNat_of_zero_le h.1
  have e : numS (n : Int) = S (TL.numL n) := num_S _
  rw [e, PySem.intText_digits (x := S (TL.numL n)) (fun c hc => TL.numL_digits n c hc) (TL.numL_ne n) (by
    show (TL.numL n).length ≤ 4300
    have := TL.numL_len (n := n) (k := 9) (by decide) (by omega)
    omega)]
  show some (((NumText.digitsVal (TL.numL n) : Nat) : Int)) = _
  rw [TL.numL_val]
def spReadHead : Sp := fun vs H Q _ => ∃ l v c, vs = [.ref l] ∧ H l = some (.lst ((headW v c).map V.str)) ∧ v ∈ verbsL ∧ (∀ n, c = some n → n ∈ codesL) ∧ ∀ d H', Same H H' → H d = none → H' d = some (.dK (dkOf (headK c) (headZ v c))) → Q (.ref d) H'
theorem ok_read_head {P : Program} {w : World} {K : PySem.W.Frag} {mg : Str → Option Value} {base : Heap} {f : Addr} {fd : FuncData} (T : Tx K mg) (c_read_number : C8.Cal P w K mg base 2 "read_number" spNum [])
    (F : FunD K "_read_head" "_read_head" (defArgs s_read_head) (defBody s_read_head) (defScope s_read_head) [] [] f fd) : FnOk P w K mg base CX0 3 f fd ["words"] spReadHead := by
  refine F.ok sc_read_head (fun vs H Q E h => ?_) (fun cdv A outer s H vs Q E hr h => ?_)
  · obtain ⟨l, v, c, rfl, _⟩ := h
    rfl
  · obtain ⟨l, v, c, rfl, hl, hv, hc, k⟩ := h
    have lv := verbs_len v hv
    have inv : inV (.str v) (verbsL.map V.str) = true := by rw [inV_strs]; exact decide_eq_true hv
    refine ⟨_, PSs.nox (C8.pss_cut (ps_if (pt_cmpR op_notIn_seq (pe_ix ix_list (pv 0) (pe_un un_neg pe_int) (fun _ _ => rfl)) (pgR T.g_VERBS) (by with_unfolding_all rfl)) (pss_one (ps_ret pe_non)) pss_nil) (C8.pss_cut (ps_if (PW.pt (pw_and (pt_cmpR op_eq (pe_callB call_len_seq rfl T.f_len PySem.boot_len (pa_cons (pv 0) pa_nil)) pe_int (nomark _)) (pw_and1 (pt_cmpR op_eq (pe_ix ix_list (pv 0) pe_int (fun _ _ => rfl)) pe_str (nomark _))))) (pss_one (ps_ret (pe_disp (pps_cons pe_str (pe_ix ix_list (pv 0) pe_int (fun _ _ => rfl)) pps_nil) rfl rfl (by simp) (by decide)))) pss_nil) (C8.pss_cut (ps_if (PW.pt (pw_and (pt_cmpR op_eq (pe_callB call_len_seq rfl T.f_len PySem.boot_len (pa_cons (pv 0) pa_nil)) pe_int (nomark _)) (pw_and (pt_cmpR op_eq (pe_ix ix_list (pv 0) pe_int (fun _ _ => rfl)) pe_str (nomark _)) (pw_and1 (pt_cmpR op_in_seq (pe_c c_read_number hr (by decide) rfl (pa_cons (pe_ix ix_list (pv 0) pe_int (fun _ _ => rfl)) (pa_cons (pgI T.g_GREATEST_CODE) pa_nil))) (pgR T.g_CODES) (by with_unfolding_all rfl)))))) (pss_one (ps_ret (pe_disp (pps_cons pe_str (pe_ix ix_list (pv 0) pe_int (fun _ _ => rfl)) (pps_cons pe_str (pe_callTy call_int_str rfl T.f_int (by decide +kernel) (pa_cons (pe_ix ix_list (pv 0) pe_int (fun _ _ => rfl)) pa_nil)) pps_nil)) rfl rfl (by simp) (by decide)))) pss_nil) (pss_one (ps_ret pe_non))))), ?_⟩
    refine ⟨fun σ' H' => σ' = [some (.ref l)] ∧ H' = H, ?_, ?_⟩
    · cases c with
      | none =>
        refine ⟨_, rfl, 1, rfl, l, _, -1, _, rfl, rfl, SqL.of hl, rfl, _, verbsL.map V.str, rfl, .inr (T.v_VERBS H), rfl, flat_strs _, _, rfl, ?_⟩
        rw [inv]
        exact iteF ⟨rfl, rfl⟩
      | some n =>
        refine ⟨_, rfl, 1, rfl, l, _, -1, _, rfl, rfl, SqL.of hl, rfl, _, verbsL.map V.str, rfl, .inr (T.v_VERBS H), rfl, flat_strs _, _, rfl, ?_⟩
        rw [inv]
        exact iteF ⟨rfl, rfl⟩
    rintro σ' H' ⟨rfl, rfl⟩
    cases c with
    | none =>
      refine ⟨fun _ _ => False, ?_, fun _ _ z => z.elim⟩
      refine ⟨_, rfl, l, _, rfl, .inl (SqL.of hl), rfl, _, rfl, iteT ⟨_, rfl, l, _, 0, _, rfl, rfl, SqL.of hl, rfl, rfl, _, rfl, iteT fun p hp => ?_⟩⟩
      refine ⟨_, rfl, l, _, 1, _, rfl, rfl, SqL.of ((same_upd hp) _ _ hl), rfl, upd_same, dkOf ["verb"] [.str v], rfl, by show 1 ≤ 15; decide, ?_⟩
      rw [upd_upd, merge_dk0 rfl (by decide +kernel)]
      exact k p _ (same_upd hp) hp upd_same
    | some n =>
      have hn := hc n rfl
      refine ⟨fun σ' H2 => σ' = [some (.ref l)] ∧ H2 = H', ⟨_, rfl, l, _, rfl, .inl (SqL.of hl), rfl, _, rfl, iteF ⟨rfl, rfl⟩⟩, ?_⟩
      rintro σ' H2 ⟨rfl, rfl⟩
      refine ⟨fun _ _ => False, ?_, fun _ _ z => z.elim⟩
      have zn : (numS n).length ≤ 10 := numS_len (by have : 0 ≤ n ∧ n ≤ 99 := (by decide : ∀ c ∈ codesL, 0 ≤ c ∧ c ≤ 99) n hn; omega)
      refine ⟨_, rfl, l, _, rfl, .inl (SqL.of hl), rfl, _, rfl, iteT ⟨_, rfl, l, _, 0, _, rfl, rfl, SqL.of hl, rfl, rfl, _, rfl, iteT ?_⟩⟩
      refine ⟨_, rfl, l, _, 1, _, rfl, rfl, SqL.of hl, rfl, numS n, 99, rfl, Nat.le_trans zn (by decide), fun H3 s3 => ?_⟩
      rw [code_num n hn]
      refine ⟨_, _, rfl, .inr (T.v_CODES H3), rfl, rfl, _, rfl, ?_⟩
      rw [code_in n hn]
      refine iteT fun p hp => ?_
      have hl3 : ∀ o, (upd H3 p o) l = some (.lst ((["reply", numS n, v] : List Str).map V.str)) := fun o => (same_upd hp) _ _ (s3 _ _ hl)
      have hb := code_int n hn
      refine ⟨_, rfl, l, _, 2, _, rfl, rfl, SqL.of (hl3 _), rfl, _, rfl, l, _, 1, _, rfl, rfl, SqL.of (hl3 _), rfl, numS n, n, rfl, hb, Nat.le_trans zn (by decide), ?_⟩
      refine ⟨upd_same, dkOf ["verb", "code"] [.str v, .int n], rfl, by show 2 ≤ 15; decide, ?_⟩
      rw [upd_upd, merge_dk0 rfl (by decide +kernel)]
      exact k p _ (s3.trans (same_upd hp)) (by
        cases q : H2 p with
        | none => rfl
        | some u =>
          have := s3 _ _ q
          rw [hp] at this
          cases this) upd_same
end K7
set_option maxHeartbeats 4000000
namespace K7
open PySem PySem.Spec PyProof.Rows L2 SX TK TKS
open C8 (pe_c)
/-! ### the lines of a letter, read -/
theorem fresh_of {H H1 : Hp} {p : Addr} (s : Same H H1) (h : H1 p = none) : H p = none := by
  cases q : H p with
  | none => rfl
  | some u =>
    have := s _ _ q
    rw [h] at this
    cases this
def spOrigin : Sp := fun vs H Q _ => ∃ l o t, vs = [.ref l] ∧ H l = some (.lst [.str o, .str t]) ∧ o.length ≤ 1000 ∧ t.length ≤ 1000 ∧ (splitB o).isSome = true ∧ tagB t = true ∧ ∀ d H', Same H H' → H d = none → H' d = some (.dK (dkOf ["origin", "origin_tag"] [.str o, .str t])) → Q (.ref d) H'
theorem ok_read_origin {P : Program} {w : World} {K : PySem.W.Frag} {mg : Str → Option Value} {base : Heap} {f : Addr} {fd : FuncData} (T : Tx K mg) (c_is_address : C8.Cal P w K mg base 4 "is_address" spIsAddr []) (c_is_tag : C8.Cal P w K mg base 2 "is_tag" spTag [])
    (F : FunD K "_read_origin" "_read_origin" (defArgs s_read_origin) (defBody s_read_origin) (defScope s_read_origin) [] [] f fd) : FnOk P w K mg base CX0 5 f fd ["words"] spOrigin := by
  refine F.ok sc_read_origin (fun vs H Q E h => ?_) (fun cdv A outer s H vs Q E hr h => ?_)
  · obtain ⟨l, o, t, rfl, _⟩ := h
    rfl
  · obtain ⟨l, o, t, rfl, hl, lo, lt, ho, ht, k⟩ := h
    refine ⟨_, PSs.nox (C8.pss_cut (ps_if (PW.pt (pw_and (pt_cmpR op_eq (pe_callB call_len_seq rfl T.f_len PySem.boot_len (pa_cons (pv 0) pa_nil)) pe_int (nomark _)) (pw_and (pt_val (pe_c c_is_address hr (by decide) rfl (pa_cons (pe_ix ix_list (pv 0) pe_int (fun _ _ => rfl)) pa_nil))) (pw_and1 (pt_val (pe_c c_is_tag hr (by decide) rfl (pa_cons (pe_ix ix_list (pv 0) pe_int (fun _ _ => rfl)) pa_nil))))))) (pss_one (ps_ret (pe_disp (pps_cons pe_str (pe_ix ix_list (pv 0) pe_int (fun _ _ => rfl)) (pps_cons pe_str (pe_ix ix_list (pv 0) pe_int (fun _ _ => rfl)) pps_nil)) rfl rfl (by simp) (by decide)))) pss_nil) (pss_one (ps_ret pe_non))), ?_⟩
    refine ⟨fun _ _ => False, ?_, fun _ _ z => z.elim⟩
    refine ⟨_, rfl, l, _, rfl, .inl (SqL.of hl), rfl, _, rfl, iteT ⟨_, rfl, l, _, 0, _, rfl, rfl, SqL.of hl, rfl, o, rfl, lo, fun H1 s1 => ⟨_, rfl, ?_⟩⟩⟩
    rw [ho]
    refine iteT ⟨_, rfl, l, _, 1, _, rfl, rfl, SqL.of (s1 _ _ hl), rfl, t, rfl, lt, fun H2 s2 => ⟨_, rfl, ?_⟩⟩
    rw [ht]
    refine iteT fun p hp => ?_
    have h3 := (s1.trans s2).trans (same_upd (o := .dK []) hp)
    refine ⟨_, rfl, l, _, 0, _, rfl, rfl, SqL.of (h3 _ _ hl), rfl, _, rfl, l, _, 1, _, rfl, rfl, SqL.of (h3 _ _ hl), rfl, upd_same, dkOf ["origin", "origin_tag"] [.str o, .str t], rfl, by show 2 ≤ 15; decide, ?_⟩
    rw [upd_upd, merge_dk0 rfl (by decide +kernel)]
    exact k p _ ((s1.trans s2).trans (same_upd hp)) (fresh_of (s1.trans s2) hp) upd_same
def tgW (t g : Str) : List Str := if g.length = 0 then [t] else [t, g]
def spTarget : Sp := fun vs H Q _ => ∃ l t g, vs = [.ref l] ∧ H l = some (.lst ((tgW t g).map V.str)) ∧ t.length ≤ 1000 ∧ g.length ≤ 1000 ∧ (splitB t).isSome = true ∧ (g = "" ∨ (g.length ≠ 0 ∧ tagB g = true)) ∧ ∀ d H', Same H H' → H d = none → H' d = some (.dK (dkOf ["target", "target_tag"] [.str t, .str g])) → Q (.ref d) H'
theorem ok_read_target {P : Program} {w : World} {K : PySem.W.Frag} {mg : Str → Option Value} {base : Heap} {f : Addr} {fd : FuncData} (T : Tx K mg) (c_is_address : C8.Cal P w K mg base 4 "is_address" spIsAddr []) (c_is_tag : C8.Cal P w K mg base 2 "is_tag" spTag [])
    (F : FunD K "_read_target" "_read_target" (defArgs s_read_target) (defBody s_read_target) (defScope s_read_target) [] [] f fd) : FnOk P w K mg base CX0 5 f fd ["words"] spTarget := by
  refine F.ok sc_read_target (fun vs H Q E h => ?_) (fun cdv A outer s H vs Q E hr h => ?_)
  · obtain ⟨l, t, g, rfl, _⟩ := h
    rfl
  · obtain ⟨l, t, g, rfl, hl, lt, lg, ht, hg, k⟩ := h
    refine ⟨_, PSs.nox (C8.pss_cut (ps_if (PW.pt (pw_and (pt_cmpR op_eq (pe_callB call_len_seq rfl T.f_len PySem.boot_len (pa_cons (pv 0) pa_nil)) pe_int (nomark _)) (pw_and1 (pt_val (pe_c c_is_address hr (by decide) rfl (pa_cons (pe_ix ix_list (pv 0) pe_int (fun _ _ => rfl)) pa_nil)))))) (pss_one (ps_ret (pe_disp (pps_cons pe_str (pe_ix ix_list (pv 0) pe_int (fun _ _ => rfl)) (pps_cons pe_str pe_str pps_nil)) rfl rfl (by simp) (by decide)))) pss_nil) (C8.pss_cut (ps_if (PW.pt (pw_and (pt_cmpR op_eq (pe_callB call_len_seq rfl T.f_len PySem.boot_len (pa_cons (pv 0) pa_nil)) pe_int (nomark _)) (pw_and (pt_val (pe_c c_is_address hr (by decide) rfl (pa_cons (pe_ix ix_list (pv 0) pe_int (fun _ _ => rfl)) pa_nil))) (pw_and1 (pt_val (pe_c c_is_tag hr (by decide) rfl (pa_cons (pe_ix ix_list (pv 0) pe_int (fun _ _ => rfl)) pa_nil))))))) (pss_one (ps_ret (pe_disp (pps_cons pe_str (pe_ix ix_list (pv 0) pe_int (fun _ _ => rfl)) (pps_cons pe_str (pe_ix ix_list (pv 0) pe_int (fun _ _ => rfl)) pps_nil)) rfl rfl (by simp) (by decide)))) pss_nil) (pss_one (ps_ret pe_non)))), ?_⟩
    unfold tgW at hl
    rcases hg with rfl | ⟨hg, hg2⟩
    · rw [if_pos (show ("" : Str).length = 0 from rfl)] at hl
      refine ⟨fun _ _ => False, ?_, fun _ _ z => z.elim⟩
      refine ⟨_, rfl, l, _, rfl, .inl (SqL.of hl), rfl, _, rfl, iteT ⟨_, rfl, l, _, 0, _, rfl, rfl, SqL.of hl, rfl, t, rfl, lt, fun H1 s1 => ⟨_, rfl, ?_⟩⟩⟩
      rw [ht]
      refine iteT fun p hp => ?_
      have h3 := s1.trans (same_upd (o := .dK []) hp)
      refine ⟨_, rfl, l, _, 0, _, rfl, rfl, SqL.of (h3 _ _ hl), rfl, upd_same, dkOf ["target", "target_tag"] [.str t, .str ""], rfl, by show 2 ≤ 15; decide, ?_⟩
      rw [upd_upd, merge_dk0 rfl (by decide +kernel)]
      exact k p _ (s1.trans (same_upd hp)) (fresh_of s1 hp) upd_same
    · rw [if_neg hg] at hl
      refine ⟨fun σ' H' => σ' = [some (.ref l)] ∧ H' = H, ⟨_, rfl, l, _, rfl, .inl (SqL.of hl), rfl, _, rfl, iteF ⟨rfl, rfl⟩⟩, ?_⟩
      rintro σ' H' ⟨rfl, rfl⟩
      refine ⟨fun _ _ => False, ?_, fun _ _ z => z.elim⟩
      refine ⟨_, rfl, l, _, rfl, .inl (SqL.of hl), rfl, _, rfl, iteT ⟨_, rfl, l, _, 0, _, rfl, rfl, SqL.of hl, rfl, t, rfl, lt, fun H1 s1 => ⟨_, rfl, ?_⟩⟩⟩
      rw [ht]
      refine iteT ⟨_, rfl, l, _, 1, _, rfl, rfl, SqL.of (s1 _ _ hl), rfl, g, rfl, lg, fun H2 s2 => ⟨_, rfl, ?_⟩⟩
      rw [hg2]
      refine iteT fun p hp => ?_
      have h3 := (s1.trans s2).trans (same_upd (o := .dK []) hp)
      refine ⟨_, rfl, l, _, 0, _, rfl, rfl, SqL.of (h3 _ _ hl), rfl, _, rfl, l, _, 1, _, rfl, rfl, SqL.of (h3 _ _ hl), rfl, upd_same, dkOf ["target", "target_tag"] [.str t, .str g], rfl, by show 2 ≤ 15; decide, ?_⟩
      rw [upd_upd, merge_dk0 rfl (by decide +kernel)]
      exact k p _ ((s1.trans s2).trans (same_upd hp)) (fresh_of (s1.trans s2) hp) upd_same
/-- what a line of one word says -/
inductive Sing : Str → Str → V → Prop
  | seq {w : Str} {n : Int} (h : numV w 999999 = .int n) : Sing "seq" w (.int n)
  | stay {w : Str} {n : Int} (h : numV w 9999 = .int n) : Sing "stay" w (.int n)
  | goal {w : Str} (h : (splitB w).isSome = true) : Sing "goal" w (.str w)
  | call {w : Str} (h : tagB w = true) : Sing "call" w (.str w)
  | way {w : Str} (h : tagB w = true) : Sing "way" w (.str w)
def spSingle : Sp := fun vs H Q _ => ∃ key w x, vs = [.str key, .str w] ∧ w.length ≤ 1000 ∧ Sing key w x ∧ ∀ d H', Same H H' → H d = none → H' d = some (.dK (dkOf [key] [x])) → Q (.ref d) H'
theorem ok_read_single {P : Program} {w : World} {K : PySem.W.Frag} {mg : Str → Option Value} {base : Heap} {f : Addr} {fd : FuncData} (T : Tx K mg) (c_is_address : C8.Cal P w K mg base 4 "is_address" spIsAddr []) (c_is_tag : C8.Cal P w K mg base 2 "is_tag" spTag []) (c_read_number : C8.Cal P w K mg base 2 "read_number" spNum [])
    (F : FunD K "_read_single" "_read_single" (defArgs s_read_single) (defBody s_read_single) (defScope s_read_single) [] [] f fd) : FnOk P w K mg base CX0 5 f fd ["key", "word"] spSingle := by
  refine F.ok sc_read_single (fun vs H Q E h => ?_) (fun cdv A outer s H vs Q E hr h => ?_)
  · obtain ⟨key, w, x, rfl, _⟩ := h
    rfl
  · obtain ⟨key, w, x, rfl, lw, hs, k⟩ := h
    refine ⟨_, PSs.nox (C8.pss_cut (ps_if (PW.pt (pw_or (pt_cmpR op_eq (pv 0) pe_str (nomark _)) (pw_or1 (pt_cmpR op_eq (pv 0) pe_str (nomark _))))) (pss_cons (ps_set (i := 2) sc_read_single.nd rfl (Or.inl rfl) (pe_c c_read_number hr (by decide) rfl (pa_cons (pv 1) (pa_cons (pe_ifExp (pt_cmpR op_eq (pv 0) pe_str (nomark _)) (pgI T.g_GREATEST_SEQ) (pgI T.g_LONGEST_STAY)) pa_nil)))) (pss_one (ps_ret (pe_ifExp (pt_cmpR op_notN (pv 2) pe_non (nomark _)) (pe_disp (pps_cons (pv 0) (pv 2) pps_nil) rfl rfl (by simp) (by decide)) pe_non)))) pss_nil) (pss_cons (ps_set (i := 3) sc_read_single.nd rfl (Or.inl rfl) (pe_ifExp (pt_cmpR op_eq (pv 0) pe_str (nomark _)) (pe_c c_is_address hr (by decide) rfl (pa_cons (pv 1) pa_nil)) (pe_c c_is_tag hr (by decide) rfl (pa_cons (pv 1) pa_nil)))) (pss_one (ps_ret (pe_ifExp (pt_val (pv 3)) (pe_disp (pps_cons (pv 0) (pv 1) pps_nil) rfl rfl (by simp) (by decide)) pe_non))))), ?_⟩
    cases hs with
    | @seq _ n h =>
      refine ⟨fun _ _ => False, ?_, fun _ _ z => z.elim⟩
      refine ⟨_, rfl, rfl, _, rfl, iteT ⟨_, rfl, _, rfl, rfl, _, rfl, iteT ⟨w, 999999, rfl, lw, fun H1 s1 => ?_⟩⟩⟩
      rw [h]
      refine ⟨_, rfl, rfl, _, rfl, iteT fun p hp => ⟨_, rfl, _, rfl, upd_same, dkOf ["seq"] [.int n], rfl, by show 1 ≤ 15; decide, ?_⟩⟩
      rw [upd_upd, merge_dk0 rfl (by decide +kernel)]
      exact k p _ (s1.trans (same_upd hp)) (fresh_of s1 hp) upd_same
    | @stay _ n h =>
      refine ⟨fun _ _ => False, ?_, fun _ _ z => z.elim⟩
      refine ⟨_, rfl, rfl, _, rfl, iteF ⟨_, rfl, rfl, _, rfl, iteT ⟨_, rfl, _, rfl, rfl, _, rfl, iteF ⟨w, 9999, rfl, lw, fun H1 s1 => ?_⟩⟩⟩⟩
      rw [h]
      refine ⟨_, rfl, rfl, _, rfl, iteT fun p hp => ⟨_, rfl, _, rfl, upd_same, dkOf ["stay"] [.int n], rfl, by show 1 ≤ 15; decide, ?_⟩⟩
      rw [upd_upd, merge_dk0 rfl (by decide +kernel)]
      exact k p _ (s1.trans (same_upd hp)) (fresh_of s1 hp) upd_same
    | goal h =>
      refine ⟨fun σ' H' => σ' = [some (.str "goal"), some (.str w), none, none] ∧ H' = H, ⟨_, rfl, rfl, _, rfl, iteF ⟨_, rfl, rfl, _, rfl, iteF ⟨rfl, rfl⟩⟩⟩, ?_⟩
      rintro σ' H' ⟨rfl, rfl⟩
      refine ⟨_, rfl, rfl, _, rfl, iteT ⟨_, rfl, w, rfl, lw, fun H1 s1 => ?_⟩⟩
      rw [h]
      refine ⟨_, rfl, _, rfl, iteT fun p hp => ⟨_, rfl, _, rfl, upd_same, dkOf ["goal"] [.str w], rfl, by show 1 ≤ 15; decide, ?_⟩⟩
      rw [upd_upd, merge_dk0 rfl (by decide +kernel)]
      exact k p _ (s1.trans (same_upd hp)) (fresh_of s1 hp) upd_same
    | call h =>
      refine ⟨fun σ' H' => σ' = [some (.str "call"), some (.str w), none, none] ∧ H' = H, ⟨_, rfl, rfl, _, rfl, iteF ⟨_, rfl, rfl, _, rfl, iteF ⟨rfl, rfl⟩⟩⟩, ?_⟩
      rintro σ' H' ⟨rfl, rfl⟩
      refine ⟨_, rfl, rfl, _, rfl, iteF ⟨_, rfl, w, rfl, lw, fun H1 s1 => ?_⟩⟩
      rw [h]
      refine ⟨_, rfl, _, rfl, iteT fun p hp => ⟨_, rfl, _, rfl, upd_same, dkOf ["call"] [.str w], rfl, by show 1 ≤ 15; decide, ?_⟩⟩
      rw [upd_upd, merge_dk0 rfl (by decide +kernel)]
      exact k p _ (s1.trans (same_upd hp)) (fresh_of s1 hp) upd_same
    | way h =>
      refine ⟨fun σ' H' => σ' = [some (.str "way"), some (.str w), none, none] ∧ H' = H, ⟨_, rfl, rfl, _, rfl, iteF ⟨_, rfl, rfl, _, rfl, iteF ⟨rfl, rfl⟩⟩⟩, ?_⟩
      rintro σ' H' ⟨rfl, rfl⟩
      refine ⟨_, rfl, rfl, _, rfl, iteF ⟨_, rfl, w, rfl, lw, fun H1 s1 => ?_⟩⟩
      rw [h]
      refine ⟨_, rfl, _, rfl, iteT fun p hp => ⟨_, rfl, _, rfl, upd_same, dkOf ["way"] [.str w], rfl, by show 1 ≤ 15; decide, ?_⟩⟩
      rw [upd_upd, merge_dk0 rfl (by decide +kernel)]
      exact k p _ (s1.trans (same_upd hp)) (fresh_of s1 hp) upd_same
end K7
set_option maxHeartbeats 4000000
namespace K7
open PySem PySem.Spec PyProof.Rows L2 SX TK TKS
open C8 (pe_c)
/-! ### a line of a letter, read -/
theorem cutV_1 (x : V) (xs : List V) : cutV (x :: xs) (some 1) none = xs := by
  unfold cutV
  have a : HT.sIx (x :: xs).length 0 (some 1) = 1 := by
    unfold HT.sIx
    simp
  have b : HT.sIx (x :: xs).length (x :: xs).length none = (x :: xs).length := by rfl
  rw [a, b]
  simp
theorem at_hd (x : Str) (l : List Str) : atI ((x :: l).map V.str) 0 = some (.str x) := atC (V.str x) _
def spLine : Sp := fun vs H Q _ => ∃ (key line : Str) (ws : List Str), vs = [.str key, .str line] ∧ Txt.split line " " = ws ∧ line.length ≤ 3000 ∧ (∀ z ∈ ws, z.length ≤ 1000) ∧ ws.length ≤ 1000 ∧
  ((∃ w r, ws = w :: r ∧ w ≠ key ∧ ∀ H', Same H H' → Q .non H')
  ∨ (∃ o t, key = "from" ∧ ws = ([("from" : Str), o, t] : List Str) ∧ (splitB o).isSome = true ∧ tagB t = true ∧ ∀ d H', Same H H' → H d = none → H' d = some (.dK (dkOf ["origin", "origin_tag"] [.str o, .str t])) → Q (.ref d) H')
  ∨ (∃ t g, key = "to" ∧ ws = (("to" : Str) :: tgW t g : List Str) ∧ (splitB t).isSome = true ∧ (g = "" ∨ (g.length ≠ 0 ∧ tagB g = true)) ∧ ∀ d H', Same H H' → H d = none → H' d = some (.dK (dkOf ["target", "target_tag"] [.str t, .str g])) → Q (.ref d) H')
  ∨ (∃ r o, key = "offer" ∧ ws = (("offer" : Str) :: r : List Str) ∧ readO r = some o ∧ ∀ d x H', Same H H' → H d = none → OffAt H' x o → H' d = some (.dK (dkOf ["offer"] [x])) → Q (.ref d) H')
  ∨ (∃ w x, ws = [key, w] ∧ Sing key w x ∧ ∀ d H', Same H H' → H d = none → H' d = some (.dK (dkOf [key] [x])) → Q (.ref d) H'))
theorem ok_read_line {P : Program} {w : World} {K : PySem.W.Frag} {mg : Str → Option Value} {base : Heap} {f : Addr} {fd : FuncData} (T : Tx K mg) (c_read_origin : C8.Cal P w K mg base 5 "_read_origin" spOrigin []) (c_read_target : C8.Cal P w K mg base 5 "_read_target" spTarget []) (c_read_single : C8.Cal P w K mg base 5 "_read_single" spSingle []) (c_read_offer : C8.Cal P w K mg base 4 "read_offer" spRead [])
    (F : FunD K "_read_line" "_read_line" (defArgs s_read_line) (defBody s_read_line) (defScope s_read_line) [] [] f fd) : FnOk P w K mg base CX0 6 f fd ["key", "line"] spLine := by
  refine F.ok sc_read_line (fun vs H Q E h => ?_) (fun cdv A outer s H vs Q E hr h => ?_)
  · obtain ⟨key, line, ws, rfl, _⟩ := h
    rfl
  · obtain ⟨key, line, ws, rfl, ew, ll, lw, lz, k⟩ := h
    have hz2 : line.length + 2 ≤ sizeLine := Nat.le_trans (Nat.add_le_add_right ll 2) (by decide)
    refine ⟨_, PSs.nox (pss_cons (ps_set (i := 2) sc_read_line.nd rfl (Or.inl rfl) (pe_split (pv 1) pe_str)) (C8.pss_cut (ps_if (pt_cmpR op_ne (pe_ix ix_list (pv 2) pe_int (fun _ _ => rfl)) (pv 0) (nomark _)) (pss_one (ps_ret pe_non)) pss_nil) (C8.pss_cut (ps_if (pt_cmpR op_eq (pv 0) pe_str (nomark _)) (pss_one (ps_ret (pe_c c_read_origin hr (by decide) rfl (pa_cons (pe_slice sl_list (pv 2) (po_some pe_int) po_none) pa_nil)))) pss_nil) (C8.pss_cut (ps_if (pt_cmpR op_eq (pv 0) pe_str (nomark _)) (pss_one (ps_ret (pe_c c_read_target hr (by decide) rfl (pa_cons (pe_slice sl_list (pv 2) (po_some pe_int) po_none) pa_nil)))) pss_nil) (C8.pss_cut (ps_if (pt_cmpR op_eq (pv 0) pe_str (nomark _)) (pss_cons (ps_set (i := 3) sc_read_line.nd rfl (Or.inl rfl) (pe_c c_read_offer hr (by decide) rfl (pa_cons (pe_slice sl_list (pv 2) (po_some pe_int) po_none) pa_nil))) (pss_one (ps_ret (pe_ifExp (pt_cmpR op_notN (pv 3) pe_non (nomark _)) (pe_disp (pps_cons pe_str (pv 3) pps_nil) rfl rfl (by simp) (by decide)) pe_non)))) pss_nil) (pss_one (ps_ret (pe_ifExp (pt_cmpR op_eq (pe_callB call_len_seq rfl T.f_len PySem.boot_len (pa_cons (pv 2) pa_nil)) pe_int (nomark _)) (pe_c c_read_single hr (by decide) rfl (pa_cons (pv 0) (pa_cons (pe_ix ix_list (pv 2) pe_int (fun _ _ => rfl)) pa_nil))) pe_non)))))))), ?_⟩
    refine ⟨_, rfl, ⟨_, rfl⟩, line, " ", rfl, rfl, by decide +kernel, hz2, fun p hp => ?_⟩
    rw [ew]
    have s1 := same_upd (o := .lst (ws.map V.str)) hp
    have e1 : (upd H p (.lst (ws.map V.str))) p = some (.lst (ws.map V.str)) := upd_same
    generalize (upd H p (.lst (ws.map V.str))) = H1 at *
    rcases k with ⟨w, r, rfl, hw, k⟩ | ⟨o, t, rfl, rfl, ho, ht, k⟩ | ⟨t, g, rfl, rfl, ht, hg, k⟩ | ⟨r, o, rfl, rfl, ho, k⟩ | ⟨w, x, rfl, hs, k⟩
    · refine ⟨fun _ _ => False, ?_, fun _ _ z => z.elim⟩
      refine ⟨_, rfl, p, _, 0, .str w, rfl, rfl, SqL.of e1, at_hd _ _, _, rfl, rfl, _, rfl, ?_⟩
      rw [decide_eq_false (show ¬ V.str w = V.str key from fun q => hw (V.str.inj q))]
      exact iteT (k _ s1)
    · refine ⟨fun σ' H' => σ' = [some (.str "from"), some (.str line), some (.ref p), none] ∧ H' = H1, ⟨_, rfl, p, _, 0, .str "from", rfl, rfl, SqL.of e1, rfl, _, rfl, rfl, _, rfl, iteF ⟨rfl, rfl⟩⟩, ?_⟩
      rintro σ' H2 ⟨rfl, e⟩
      obtain rfl : H1 = H2 := e.symm
      refine ⟨fun _ _ => False, ?_, fun _ _ z => z.elim⟩
      refine ⟨_, rfl, rfl, _, rfl, iteT ⟨_, rfl, 1, rfl, p, _, rfl, SqL.of e1, fun q hq => ?_⟩⟩
      refine ⟨q, o, t, rfl, ?_, lw o (by simp), lw t (by simp), ho, ht, fun d H2 s2 hd e2 => k d H2 ((s1.trans (same_upd hq)).trans s2) (fresh_of (s1.trans (same_upd hq)) hd) e2⟩
      rw [upd_same]
      exact congrArg (fun z => some (HO.lst z)) (cutV_1 _ _)
    · refine ⟨fun σ' H' => σ' = [some (.str "to"), some (.str line), some (.ref p), none] ∧ H' = H1, ⟨_, rfl, p, _, 0, .str "to", rfl, rfl, SqL.of e1, at_hd _ _, _, rfl, rfl, _, rfl, iteF ⟨rfl, rfl⟩⟩, ?_⟩
      rintro σ' H2 ⟨rfl, e⟩
      obtain rfl : H1 = H2 := e.symm
      refine ⟨fun σ' H' => σ' = [some (.str "to"), some (.str line), some (.ref p), none] ∧ H' = H1, ⟨_, rfl, rfl, _, rfl, iteF ⟨rfl, rfl⟩⟩, ?_⟩
      rintro σ' H2 ⟨rfl, e⟩
      obtain rfl : H1 = H2 := e.symm
      refine ⟨fun _ _ => False, ?_, fun _ _ z => z.elim⟩
      refine ⟨_, rfl, rfl, _, rfl, iteT ⟨_, rfl, 1, rfl, p, _, rfl, SqL.of e1, fun q hq => ?_⟩⟩
      refine ⟨q, t, g, rfl, ?_, lw t (by unfold tgW; split <;> simp), ?_, ht, hg, fun d H2 s2 hd e2 => k d H2 ((s1.trans (same_upd hq)).trans s2) (fresh_of (s1.trans (same_upd hq)) hd) e2⟩
      · rw [upd_same]
        exact congrArg (fun z => some (HO.lst z)) (cutV_1 _ _)
      · rcases hg with rfl | ⟨hg, _⟩
        · decide
        · exact lw g (by unfold tgW; rw [if_neg hg]; simp)
    · refine ⟨fun σ' H' => σ' = [some (.str "offer"), some (.str line), some (.ref p), none] ∧ H' = H1, ⟨_, rfl, p, _, 0, .str "offer", rfl, rfl, SqL.of e1, at_hd _ _, _, rfl, rfl, _, rfl, iteF ⟨rfl, rfl⟩⟩, ?_⟩
      rintro σ' H2 ⟨rfl, e⟩
      obtain rfl : H1 = H2 := e.symm
      refine ⟨fun σ' H' => σ' = [some (.str "offer"), some (.str line), some (.ref p), none] ∧ H' = H1, ⟨_, rfl, rfl, _, rfl, iteF ⟨rfl, rfl⟩⟩, ?_⟩
      rintro σ' H2 ⟨rfl, e⟩
      obtain rfl : H1 = H2 := e.symm
      refine ⟨fun σ' H' => σ' = [some (.str "offer"), some (.str line), some (.ref p), none] ∧ H' = H1, ⟨_, rfl, rfl, _, rfl, iteF ⟨rfl, rfl⟩⟩, ?_⟩
      rintro σ' H2 ⟨rfl, e⟩
      obtain rfl : H1 = H2 := e.symm
      refine ⟨fun _ _ => False, ?_, fun _ _ z => z.elim⟩
      refine ⟨_, rfl, rfl, _, rfl, iteT ⟨_, rfl, 1, rfl, p, _, rfl, SqL.of e1, fun q hq => ?_⟩⟩
      refine ⟨q, r, rfl, ?_, fun z hz => lw z (List.mem_cons_of_mem _ hz), by rw [List.length_cons] at lz; omega, fun x H2 s2 hx => ?_⟩
      · rw [upd_same]
        exact congrArg (fun z => some (HO.lst z)) (cutV_1 _ _)
      · rw [ho] at hx
        have hx2 : OffAt H2 x o := hx
        obtain ⟨b, f, rfl, _⟩ := id hx2
        have s3 := (s1.trans (same_upd hq)).trans s2
        refine ⟨_, rfl, rfl, _, rfl, iteT fun y hy => ⟨_, rfl, upd_same, dkOf ["offer"] [.ref b], rfl, by show 1 ≤ 15; decide, ?_⟩⟩
        rw [upd_upd, merge_dk0 rfl (by decide +kernel)]
        exact k y _ _ (s3.trans (same_upd hy)) (fresh_of s3 hy) (hx2.same (same_upd hy)) upd_same
    · have hk : key ≠ "from" ∧ key ≠ "to" ∧ key ≠ "offer" := by
        cases hs <;> decide +kernel
      have d1 : ∀ z : Str, key ≠ z → decide (V.str key = V.str z) = false := fun z h => decide_eq_false fun q => h (V.str.inj q)
      refine ⟨fun σ' H' => σ' = [some (.str key), some (.str line), some (.ref p), none] ∧ H' = H1, ⟨_, rfl, p, _, 0, .str key, rfl, rfl, SqL.of e1, rfl, _, rfl, rfl, _, rfl, ?_⟩, ?_⟩
      · rw [decide_eq_true rfl]
        exact iteF ⟨rfl, rfl⟩
      rintro σ' H2 ⟨rfl, e⟩
      obtain rfl : H1 = H2 := e.symm
      refine ⟨fun σ' H' => σ' = [some (.str key), some (.str line), some (.ref p), none] ∧ H' = H1, ⟨_, rfl, rfl, _, rfl, ?_⟩, ?_⟩
      · rw [d1 _ hk.1]
        exact iteF ⟨rfl, rfl⟩
      rintro σ' H2 ⟨rfl, e⟩
      obtain rfl : H1 = H2 := e.symm
      refine ⟨fun σ' H' => σ' = [some (.str key), some (.str line), some (.ref p), none] ∧ H' = H1, ⟨_, rfl, rfl, _, rfl, ?_⟩, ?_⟩
      · rw [d1 _ hk.2.1]
        exact iteF ⟨rfl, rfl⟩
      rintro σ' H2 ⟨rfl, e⟩
      obtain rfl : H1 = H2 := e.symm
      refine ⟨fun σ' H' => σ' = [some (.str key), some (.str line), some (.ref p), none] ∧ H' = H1, ⟨_, rfl, rfl, _, rfl, ?_⟩, ?_⟩
      · rw [d1 _ hk.2.2]
        exact iteF ⟨rfl, rfl⟩
      rintro σ' H2 ⟨rfl, e⟩
      obtain rfl : H1 = H2 := e.symm
      refine ⟨_, rfl, p, _, rfl, .inl (SqL.of e1), rfl, _, rfl, iteT ⟨_, rfl, _, rfl, p, _, 1, _, rfl, rfl, SqL.of e1, rfl, ?_⟩⟩
      exact ⟨key, w, x, rfl, lw w (by simp), hs, fun d H2 s2 hd e2 => k d H2 (s1.trans s2) (fresh_of s1 hd) e2⟩
end K7
set_option maxHeartbeats 4000000
namespace K7
open PySem PySem.Spec PyProof.Rows L2 SX TK TKS
open C8 (pe_c)
/-! ### a letter that can be read -/
def codeV : Option Int → V
  | none => .non
  | some c => .int c
structure GLet (L : Ltr) (o : Option Off) (c : Option Int) : Prop where
  verb : L.verb ∈ verbsL
  code : L.code = codeV c
  codeOk : ∀ n, c = some n → n ∈ codesL
  call : tagB L.call = true
  origin : (splitB L.origin).isSome = true
  otag : tagB L.otag = true
  target : (splitB L.target).isSome = true
  ttag : L.ttag = "" ∨ (L.ttag.length ≠ 0 ∧ tagB L.ttag = true)
  seq0 : 0 ≤ L.seq
  seq1 : L.seq ≤ 999999
  way : tagB L.way = true
  off : ∀ u, o = some u → readO (Txt.split (wordsS u) " ") = some u ∧ OffOk u ∧ 10 ∉ TL.tl (wordsS u) ∧ PyData.strOk (wordsS u) = true ∧ (∀ z ∈ Txt.split (wordsS u) " ", z.length ≤ 1000) ∧ (Txt.split (wordsS u) " ").length ≤ 999
  stay : L.stay = .non ∨ ∃ n : Int, L.stay = .int n ∧ 0 ≤ n ∧ n ≤ 9999
  goal : L.goal = .non ∨ ∃ z : Str, L.goal = .str z ∧ (splitB z).isSome = true
theorem tm_free : ∀ c ∈ TL.tl zTM, c ≠ 32 ∧ c ≠ 10 := by decide +kernel
theorem nm_free : ∀ c ∈ TL.tl zNM, c ≠ 32 ∧ c ≠ 10 := by decide +kernel
theorem tag_free {z : Str} (h : tagB z = true) : 32 ∉ TL.tl z ∧ 10 ∉ TL.tl z ∧ z.length ≤ 16 := by
  obtain ⟨_, h2, h3⟩ := consB_len h
  exact ⟨fun m => (tm_free _ (h3 _ m)).1 rfl, fun m => (tm_free _ (h3 _ m)).2 rfl, by rw [len_eq]; omega⟩
theorem name_free {z : Str} (h : nameB z = true) : 32 ∉ TL.tl z ∧ 10 ∉ TL.tl z ∧ z.length ≤ 16 := by
  unfold nameB at h
  rw [Bool.and_eq_true] at h
  obtain ⟨_, h2, h3⟩ := consB_len h.1
  exact ⟨fun m => (nm_free _ (h3 _ m)).1 rfl, fun m => (nm_free _ (h3 _ m)).2 rfl, by rw [len_eq]; omega⟩
theorem addr_free {z : Str} (h : (splitB z).isSome = true) : 32 ∉ TL.tl z ∧ 10 ∉ TL.tl z ∧ z.length ≤ 33 := by
  unfold splitB at h
  cases e : Txt.split z "@" with
  | nil => rw [e] at h; cases h
  | cons u r => cases r with
    | nil => rw [e] at h; cases h
    | cons w r => cases r with
      | cons _ _ => rw [e] at h; cases h
      | nil =>
        rw [e] at h
        obtain ⟨ez, _, _⟩ := split_parts e
        by_cases g : (nameB u && nameB w) = true
        · rw [Bool.and_eq_true] at g
          obtain ⟨a1, a2, a3⟩ := name_free g.1
          obtain ⟨b1, b2, b3⟩ := name_free g.2
          have el := congrArg List.length ez
          rw [List.length_append, List.length_cons, ← len_eq, ← len_eq, ← len_eq] at el
          rw [ez]
          simp only [List.mem_append, List.mem_cons]
          refine ⟨?_, ?_, by omega⟩
          · rintro (q | q | q)
            · exact a1 q
            · cases q
            · exact b1 q
          · rintro (q | q | q)
            · exact a2 q
            · cases q
            · exact b2 q
        · have e2 : splitO [u, w] = none := by
            show (if (nameB u && nameB w) = true then some (u, w) else none) = none
            rw [if_neg g]
          rw [e2] at h
          cases h
theorem num_free {i : Int} (h0 : 0 ≤ i) : 32 ∉ TL.tl (numS i) ∧ 10 ∉ TL.tl (numS i) := by
  rw [numS_tl h0]
  exact ⟨TL.numL_free (by omega), TL.numL_free (by omega)⟩
theorem cut_sp {ws : List Str} (hne : ws ≠ []) (h : ∀ w ∈ ws, 32 ∉ TL.tl w) : Txt.split (Txt.join " " ws) " " = ws :=
  TL.split_join (y := " ") (s := 32) (S := []) (by decide +kernel) (by decide +kernel) hne h
theorem cut_nl {ws : List Str} (hne : ws ≠ []) (h : ∀ w ∈ ws, 10 ∉ TL.tl w) : Txt.split (Txt.join "\n" ws) "\n" = ws :=
  TL.split_join (y := "\n") (s := 10) (S := []) (by decide +kernel) (by decide +kernel) hne h
theorem tl_sp : TL.tl (" " : Str) = [32] := by decide +kernel
theorem tl_nl : TL.tl ("\n" : Str) = [10] := by decide +kernel
theorem tl_e : TL.tl Str.empty = [] := rfl
theorem join2 {a b p : Str} (h : TL.tl p = TL.tl a ++ [32]) : Str.empty ++ p ++ b = Txt.join " " [a, b] := by
  rw [show ∀ l, Txt.join " " l = Str.join " " l from fun l => TL.join_eq _ _]
  apply TL.ext_tl
  rw [TL.tl_join, TL.tl_append, TL.tl_append, tl_e, h, tl_sp]
  simp [TL.joinL]
theorem join3 {a b c p : Str} (h : TL.tl p = TL.tl a ++ [32]) : Str.empty ++ p ++ b ++ " " ++ c = Txt.join " " [a, b, c] := by
  rw [show ∀ l, Txt.join " " l = Str.join " " l from fun l => TL.join_eq _ _]
  apply TL.ext_tl
  rw [TL.tl_join, TL.tl_append, TL.tl_append, TL.tl_append, TL.tl_append, tl_e, h, tl_sp]
  simp [TL.joinL]
theorem text_join : ∀ l : List Str, textOf l = Txt.join "\n" (l ++ [("" : Str)]) := by
  intro l
  unfold textOf
  rw [show ∀ y l, Txt.join y l = Str.join y l from fun y l => TL.join_eq _ _]
  rw [show ∀ y l, Txt.join y l = Str.join y l from fun y l => TL.join_eq _ _]
  apply TL.ext_tl
  rw [TL.tl_join, TL.tl_join, tl_nl, show TL.tl ("" : Str) = [] from rfl]
  induction l with
  | nil => rfl
  | cons a r ih =>
    have e1 : ∀ m : List Str, TL.joinL [] ((a :: m).map fun z => TL.tl (z ++ ("\n" : Str))) = TL.tl a ++ ([10] ++ TL.joinL [] (m.map fun z => TL.tl (z ++ ("\n" : Str)))) := by
      intro m
      cases m with
      | nil =>
        show TL.tl (a ++ ("\n" : Str)) = _
        rw [TL.tl_append, tl_nl]
        rfl
      | cons b m =>
        show TL.tl (a ++ ("\n" : Str)) ++ ([] ++ TL.joinL [] _) = _
        rw [TL.tl_append, tl_nl, List.nil_append, List.append_assoc]
        rfl
    rw [List.map_map] at ih ⊢
    have e2 := e1 r
    refine e2.trans ?_
    have e3 : TL.joinL [10] ((a :: r ++ [("" : Str)]).map TL.tl) = TL.tl a ++ ([10] ++ TL.joinL [10] ((r ++ [("" : Str)]).map TL.tl)) := by
      cases r <;> rfl
    rw [e3]
    exact congrArg (fun z => TL.tl a ++ ([10] ++ z)) ih
theorem text_cut {l : List Str} (h : ∀ w ∈ l, 10 ∉ TL.tl w) : Txt.split (textOf l) "\n" = l ++ [("" : Str)] := by
  rw [text_join]
  refine cut_nl (by simp) fun w hw => ?_
  rcases List.mem_append.mp hw with q | q
  · exact h w q
  · rw [List.mem_singleton.mp q]
    exact List.not_mem_nil
theorem cut2 {a b p : Str} (h : TL.tl p = TL.tl a ++ [32]) (ha : 32 ∉ TL.tl a) (hb : 32 ∉ TL.tl b) : Txt.split (Str.empty ++ p ++ b) " " = [a, b] := by
  rw [join2 h]
  refine cut_sp (by simp) fun w hw => ?_
  simp only [List.mem_cons, List.not_mem_nil, or_false] at hw
  rcases hw with rfl | rfl
  · exact ha
  · exact hb
theorem cut3 {a b c p : Str} (h : TL.tl p = TL.tl a ++ [32]) (ha : 32 ∉ TL.tl a) (hb : 32 ∉ TL.tl b) (hc : 32 ∉ TL.tl c) : Txt.split (Str.empty ++ p ++ b ++ " " ++ c) " " = [a, b, c] := by
  rw [join3 h]
  refine cut_sp (by simp) fun w hw => ?_
  simp only [List.mem_cons, List.not_mem_nil, or_false] at hw
  rcases hw with rfl | rfl | rfl
  · exact ha
  · exact hb
  · exact hc
end K7
set_option maxHeartbeats 4000000
namespace K7
open PySem PySem.Spec PyProof.Rows L2 SX TK TKS
open C8 (pe_c)
theorem tm_ok : ∀ c ∈ TL.tl zTM, c < 0x110000 := by decide +kernel
theorem nm_ok : ∀ c ∈ TL.tl zNM, c < 0x110000 := by decide +kernel
theorem tag_ok {z : Str} (h : tagB z = true) : PyData.strOk z = true := ok_iff.mpr fun c hc => tm_ok _ ((consB_len h).2.2 c hc)
theorem name_okS {z : Str} (h : nameB z = true) : ∀ c ∈ TL.tl z, c < 0x110000 := fun c hc => by
  unfold nameB at h
  rw [Bool.and_eq_true] at h
  exact nm_ok _ ((consB_len h.1).2.2 c hc)
theorem addr_ok {z : Str} (h : (splitB z).isSome = true) : PyData.strOk z = true := by
  rw [ok_iff]
  unfold splitB at h
  cases e : Txt.split z "@" with
  | nil => rw [e] at h; cases h
  | cons u r => cases r with
    | nil => rw [e] at h; cases h
    | cons w r => cases r with
      | cons _ _ => rw [e] at h; cases h
      | nil =>
        rw [e] at h
        obtain ⟨ez, _, _⟩ := split_parts e
        by_cases g : (nameB u && nameB w) = true
        · rw [Bool.and_eq_true] at g
          intro c hc
          rw [ez, List.mem_append, List.mem_cons] at hc
          rcases hc with q | q | q
          · exact name_okS g.1 c q
          · rw [q]; decide
          · exact name_okS g.2 c q
        · have e2 : splitO [u, w] = none := by
            show (if (nameB u && nameB w) = true then some (u, w) else none) = none
            rw [if_neg g]
          rw [e2] at h
          cases h
theorem verbs_ok : ∀ z ∈ verbsL, PyData.strOk z = true ∧ 32 ∉ TL.tl z ∧ 10 ∉ TL.tl z := by decide +kernel
theorem GLet.lok {L : Ltr} {o : Option Off} {c : Option Int} (g : GLet L o c) : LOk L := by
  have a1 := tag_free g.call
  have a2 := addr_free g.origin
  have a3 := tag_free g.otag
  have a4 := addr_free g.target
  have a5 := tag_free g.way
  have a6 := verbs_len _ g.verb
  have s0 := g.seq0
  have s1 := g.seq1
  have tt : PyData.strOk L.ttag = true ∧ L.ttag.length ≤ 16 := by
    rcases g.ttag with e | ⟨_, e⟩
    · rw [e]
      exact ⟨by decide +kernel, by decide +kernel⟩
    · exact ⟨tag_ok e, (tag_free e).2.2⟩
  refine ⟨⟨(verbs_ok _ g.verb).1, tag_ok g.call, addr_ok g.origin, tag_ok g.otag, addr_ok g.target, tt.1, tag_ok g.way⟩, s0, by omega, by omega, by omega, by omega, by omega, by omega, by omega, by omega, ?_⟩
  rw [g.code]
  cases c with
  | none => exact .inl rfl
  | some n =>
    have h : 0 ≤ n ∧ n ≤ 99 := (by decide : ∀ c ∈ codesL, 0 ≤ c ∧ c ≤ 99) n (g.codeOk n rfl)
    exact .inr ⟨n, rfl, h.1, by omega⟩
theorem GLet.xok {L : Ltr} {o : Option Off} {c : Option Int} (g : GLet L o c) : XOk L o := by
  refine ⟨fun u e => (g.off u e).2.1, fun u e => (g.off u e).2.2.2.1, ?_, ?_⟩
  · rcases g.stay with e | ⟨n, e, h0, h1⟩
    · exact .inl e
    · exact .inr ⟨n, e, h0, by omega⟩
  · rcases g.goal with e | ⟨z, e, h⟩
    · exact .inl e
    · have := (addr_free h).2.2
      exact .inr ⟨z, e, addr_ok h, by omega⟩
/-! ### the lines that every letter has -/
def keyI : Nat → Str
  | 0 => "call"
  | 1 => "from"
  | 2 => "to"
  | 3 => "seq"
  | _ => "way"
def lineI (L : Ltr) : Nat → Str
  | 0 => Str.empty ++ "call " ++ L.call
  | 1 => Str.empty ++ "from " ++ L.origin ++ " " ++ L.otag
  | 2 => toS L
  | 3 => Str.empty ++ "seq " ++ numS L.seq
  | _ => Str.empty ++ "way " ++ L.way
def ksI : Nat → List Str
  | 0 => ["call"]
  | 1 => ["origin", "origin_tag"]
  | 2 => ["target", "target_tag"]
  | 3 => ["seq"]
  | _ => ["way"]
def zsI (L : Ltr) : Nat → List V
  | 0 => [.str L.call]
  | 1 => [.str L.origin, .str L.otag]
  | 2 => [.str L.target, .str L.ttag]
  | 3 => [.int L.seq]
  | _ => [.str L.way]
theorem toS_cut {L : Ltr} {o : Option Off} {c : Option Int} (g : GLet L o c) : Txt.split (toS L) " " = (("to" : Str) :: tgW L.target L.ttag : List Str) := by
  have a4 := addr_free g.target
  unfold toS tgW
  rcases g.ttag with e | ⟨h, e⟩
  · rw [e, if_neg (by decide +kernel), if_pos (show ("" : Str).length = 0 from rfl)]
    exact cut2 (by decide +kernel) (by decide +kernel) a4.1
  · rw [if_pos (by simpa using h), if_neg h]
    exact cut3 (by decide +kernel) (by decide +kernel) a4.1 (tag_free e).1
theorem need_line {L : Ltr} {o : Option Off} {c : Option Int} (g : GLet L o c) (i : Nat) {H : Hp} {Q : VK} {E : XK} (k : ∀ d H', Same H H' → H d = none → H' d = some (.dK (dkOf (ksI i) (zsI L i))) → Q (.ref d) H') : spLine [.str (keyI i), .str (lineI L i)] H Q E := by
  have ll := linesS_len g.lok
  have a1 := tag_free g.call
  have a2 := addr_free g.origin
  have a3 := tag_free g.otag
  have a4 := addr_free g.target
  have a5 := tag_free g.way
  have w2 : ∀ (x y : Str), x.length ≤ 1000 → y.length ≤ 1000 → ∀ z ∈ [x, y], z.length ≤ 1000 := by
    intro x y hx hy z hz
    simp only [List.mem_cons, List.not_mem_nil, or_false] at hz
    rcases hz with rfl | rfl
    · exact hx
    · exact hy
  match i, k with
  | 0, k => exact ⟨_, _, ["call", L.call], rfl, cut2 (by decide +kernel) (by decide +kernel) a1.1, ll _ (by simp [linesS, lineI]), w2 _ _ (by decide +kernel) (by omega), by simp, .inr (.inr (.inr (.inr ⟨_, _, rfl, .call g.call, k⟩)))⟩
  | 1, k => exact ⟨_, _, ["from", L.origin, L.otag], rfl, cut3 (by decide +kernel) (by decide +kernel) a2.1 a3.1, ll _ (by simp [linesS, lineI]), (fun z hz => by
      simp only [List.mem_cons, List.not_mem_nil, or_false] at hz
      rcases hz with rfl | rfl | rfl
      · decide +kernel
      · omega
      · omega), by simp, .inr (.inl ⟨_, _, rfl, rfl, g.origin, g.otag, k⟩)⟩
  | 2, k => exact ⟨_, _, _, rfl, toS_cut g, ll _ (by simp [linesS, lineI]), (fun z hz => by
      unfold tgW at hz
      rcases g.ttag with e | ⟨h, e⟩
      · rw [e, if_pos (show ("" : Str).length = 0 from rfl)] at hz
        exact w2 _ _ (by decide +kernel) (by omega) z hz
      · rw [if_neg h] at hz
        have := (tag_free e).2.2
        simp only [List.mem_cons, List.not_mem_nil, or_false] at hz
        rcases hz with rfl | rfl | rfl
        · decide +kernel
        · omega
        · omega), by unfold tgW; split <;> simp, .inr (.inr (.inl ⟨_, _, rfl, rfl, g.target, g.ttag, k⟩))⟩
  | 3, k => exact ⟨_, _, ["seq", numS L.seq], rfl, cut2 (by decide +kernel) (by decide +kernel) (num_free g.seq0).1, ll _ (by simp [linesS, lineI]), w2 _ _ (by decide +kernel) (Nat.le_trans (numS_len (by have := g.seq0; have := g.seq1; omega)) (by decide)), by simp, .inr (.inr (.inr (.inr ⟨_, _, rfl, .seq (num_back g.seq0 g.seq1 (by have := g.seq1; omega)), k⟩)))⟩
  | n + 4, k => exact ⟨_, _, ["way", L.way], rfl, cut2 (by decide +kernel) (by decide +kernel) a5.1, ll _ (by simp [linesS, lineI]), w2 _ _ (by decide +kernel) (by omega), by simp, .inr (.inr (.inr (.inr ⟨_, _, rfl, .way g.way, k⟩)))⟩
/-! ### the lines that a letter may have -/
def keyP : Nat → Str
  | 0 => "offer"
  | 1 => "stay"
  | _ => "goal"
def lineP (L : Ltr) (o : Option Off) : Nat → List Str
  | 0 => offL o
  | 1 => stayL L.stay
  | _ => goalL L.goal
/-- what stands for the part j -/
def XV (L : Ltr) (o : Option Off) (H : Hp) : Nat → V → Prop
  | 0, x => ∃ u, o = some u ∧ OffAt H x u
  | 1, x => x = L.stay
  | _, x => x = L.goal
theorem split_sp_ne (w : Str) : Txt.split w " " ≠ [] := by
  intro e
  have q := congrArg TL.tl (StrLaws.join_split w " ")
  rw [e, TL.tl_join] at q
  have q2 : TL.tl w = [] := q.symm
  have e2 : w = S [] := TL.ext_tl (by rw [q2])
  have e3 : Txt.split (S []) " " = [S []] := by decide +kernel
  rw [e2, e3] at e
  cases e
theorem cut_cons {a p : Str} (w : Str) (h : TL.tl p = TL.tl a ++ [32]) (ha : 32 ∉ TL.tl a) : Txt.split (Str.empty ++ p ++ w) " " = a :: Txt.split w " " := by
  have e1 := StrLaws.join_split w " "
  have e32 : (" " : Str) = S [32] := by decide +kernel
  have f1 : ∀ p ∈ Txt.split w " ", 32 ∉ TL.tl p := by
    rw [e32]
    exact StrLaws.split_free w 32
  have hne : Txt.split w " " ≠ [] := split_sp_ne w
  have e : Str.empty ++ p ++ w = Txt.join " " (a :: Txt.split w " ") := by
    rw [show ∀ l, Txt.join " " l = Str.join " " l from fun l => TL.join_eq _ _]
    apply TL.ext_tl
    rw [TL.tl_join, TL.tl_append, TL.tl_append, tl_e, h, tl_sp]
    have e2 := congrArg TL.tl e1
    rw [TL.tl_join, tl_sp] at e2
    cases q : Txt.split w " " with
    | nil => exact absurd q hne
    | cons b r =>
      rw [q] at e2
      show [] ++ (TL.tl a ++ [32]) ++ TL.tl w = TL.tl a ++ ([32] ++ TL.joinL [32] ((b :: r).map TL.tl))
      rw [e2, List.nil_append, List.append_assoc]
  rw [e]
  refine cut_sp (by simp) fun x hx => ?_
  rcases List.mem_cons.mp hx with rfl | q
  · exact ha
  · exact f1 x q
theorem poss_here {L : Ltr} {o : Option Off} {c : Option Int} (g : GLet L o c) (j : Nat) {z : Str} (hz : lineP L o j = [z]) {H : Hp} {Q : VK} {E : XK}
    (k : ∀ d x H', Same H H' → H d = none → XV L o H' j x → H' d = some (.dK (dkOf [keyP j] [x])) → Q (.ref d) H') : spLine [.str (keyP j), .str z] H Q E := by
  have ll : z.length ≤ 3000 := linesX_len g.lok g.xok z (by
    unfold linesX
    match j, hz with
    | 0, hz => rw [show offL o = [z] from hz]; simp
    | 1, hz => rw [show stayL L.stay = [z] from hz]; simp
    | n + 2, hz => rw [show goalL L.goal = [z] from hz]; simp)
  match j, hz, k with
  | 0, hz, k =>
    cases o with
    | none => cases hz
    | some u =>
      obtain ⟨r1, r2, r3, r4, r5, r6⟩ := g.off u rfl
      obtain rfl : Str.empty ++ "offer " ++ wordsS u = z := (List.cons.inj hz).1
      exact ⟨_, _, _, rfl, cut_cons (a := "offer") _ (by decide +kernel) (by decide +kernel), ll, (fun y hy => by
        rcases List.mem_cons.mp hy with rfl | q
        · decide +kernel
        · exact r5 y q), by rw [List.length_cons]; omega, .inr (.inr (.inr (.inl ⟨_, u, rfl, rfl, r1, fun d x H' s hd hx e => k d x H' s hd ⟨u, rfl, hx⟩ e⟩)))⟩
  | 1, hz, k =>
    rcases g.stay with e | ⟨n, e, h0, h1⟩
    · rw [show lineP L o 1 = stayL L.stay from rfl, e] at hz
      cases hz
    · rw [show lineP L o 1 = stayL L.stay from rfl, e] at hz
      obtain rfl : Str.empty ++ "stay " ++ numS n = z := (List.cons.inj hz).1
      have := numS_len (i := n) (by omega)
      exact ⟨_, _, ["stay", numS n], rfl, cut2 (by decide +kernel) (by decide +kernel) (num_free h0).1, ll, (fun y hy => by
        simp only [List.mem_cons, List.not_mem_nil, or_false] at hy
        rcases hy with rfl | rfl
        · decide +kernel
        · omega), by simp, .inr (.inr (.inr (.inr ⟨_, .int n, rfl, .stay (num_back h0 h1 (by omega)), fun d H' s hd q => k d _ H' s hd e.symm q⟩)))⟩
  | m + 2, hz, k =>
    rcases g.goal with e | ⟨y, e, h0⟩
    · rw [show lineP L o (m + 2) = goalL L.goal from rfl, e] at hz
      cases hz
    · rw [show lineP L o (m + 2) = goalL L.goal from rfl, e] at hz
      obtain rfl : Str.empty ++ "goal " ++ y = z := (List.cons.inj hz).1
      have ya := addr_free h0
      exact ⟨_, _, ["goal", y], rfl, cut2 (by decide +kernel) (by decide +kernel) ya.1, ll, (fun y hy => by
        simp only [List.mem_cons, List.not_mem_nil, or_false] at hy
        rcases hy with rfl | rfl
        · decide +kernel
        · omega), by simp, .inr (.inr (.inr (.inr ⟨_, .str y, rfl, .goal h0, fun d H' s hd q => k d _ H' s hd e.symm q⟩)))⟩
/-- the first word of the line j -/
theorem poss_not {L : Ltr} {o : Option Off} {c : Option Int} (g : GLet L o c) (j : Nat) {z key : Str} (hz : lineP L o j = [z]) (hk : keyP j ≠ key) {H : Hp} {Q : VK} {E : XK}
    (k : ∀ H', Same H H' → Q .non H') : spLine [.str key, .str z] H Q E := by
  have ll : z.length ≤ 3000 := linesX_len g.lok g.xok z (by
    unfold linesX
    match j, hz with
    | 0, hz => rw [show offL o = [z] from hz]; simp
    | 1, hz => rw [show stayL L.stay = [z] from hz]; simp
    | n + 2, hz => rw [show goalL L.goal = [z] from hz]; simp)
  match j, hz, hk with
  | 0, hz, hk =>
    cases o with
    | none => cases hz
    | some u =>
      obtain ⟨r1, r2, r3, r4, r5, r6⟩ := g.off u rfl
      obtain rfl : Str.empty ++ "offer " ++ wordsS u = z := (List.cons.inj hz).1
      exact ⟨_, _, _, rfl, cut_cons (a := "offer") _ (by decide +kernel) (by decide +kernel), ll, (fun y hy => by
        rcases List.mem_cons.mp hy with rfl | q
        · decide +kernel
        · exact r5 y q), by rw [List.length_cons]; omega, .inl ⟨_, _, rfl, hk, k⟩⟩
  | 1, hz, hk =>
    rcases g.stay with e | ⟨n, e, h0, h1⟩
    · rw [show lineP L o 1 = stayL L.stay from rfl, e] at hz
      cases hz
    · rw [show lineP L o 1 = stayL L.stay from rfl, e] at hz
      obtain rfl : Str.empty ++ "stay " ++ numS n = z := (List.cons.inj hz).1
      have := numS_len (i := n) (by omega)
      exact ⟨_, _, ["stay", numS n], rfl, cut2 (by decide +kernel) (by decide +kernel) (num_free h0).1, ll, (fun y hy => by
        simp only [List.mem_cons, List.not_mem_nil, or_false] at hy
        rcases hy with rfl | rfl
        · decide +kernel
        · omega), by simp, .inl ⟨_, _, rfl, hk, k⟩⟩
  | m + 2, hz, hk =>
    rcases g.goal with e | ⟨y, e, h0⟩
    · rw [show lineP L o (m + 2) = goalL L.goal from rfl, e] at hz
      cases hz
    · rw [show lineP L o (m + 2) = goalL L.goal from rfl, e] at hz
      obtain rfl : Str.empty ++ "goal " ++ y = z := (List.cons.inj hz).1
      have ya := addr_free h0
      exact ⟨_, _, ["goal", y], rfl, cut2 (by decide +kernel) (by decide +kernel) ya.1, ll, (fun y hy => by
        simp only [List.mem_cons, List.not_mem_nil, or_false] at hy
        rcases hy with rfl | rfl
        · decide +kernel
        · omega), by simp, .inl ⟨_, _, rfl, hk, k⟩⟩
end K7
set_option maxHeartbeats 4000000
namespace K7
open PySem PySem.Spec PyProof.Rows L2 SX TK TKS
open C8 (pe_c)
/-! ### read, of a letter's own text -/
theorem GLet.nonl {L : Ltr} {o : Option Off} {c : Option Int} (g : GLet L o c) : ∀ z ∈ linesX L o, 10 ∉ TL.tl z := by
  have a1 := (tag_free g.call).2.1
  have a2 := (addr_free g.origin).2.1
  have a3 := (tag_free g.otag).2.1
  have a4 := (addr_free g.target).2.1
  have a5 := (tag_free g.way).2.1
  have a6 := (verbs_ok _ g.verb).2.2
  have a7 := (num_free g.seq0).2
  have cat : ∀ {x y : Str}, 10 ∉ TL.tl x → 10 ∉ TL.tl y → 10 ∉ TL.tl (x ++ y) := fun hx hy => by
    rw [TL.tl_append, List.mem_append]
    exact fun h => h.elim hx hy
  have e0 : 10 ∉ TL.tl Str.empty := List.not_mem_nil
  intro z hz
  unfold linesX at hz
  rw [List.mem_append, List.mem_append, List.mem_append] at hz
  rcases hz with ((hz | hz) | hz) | hz
  · simp only [linesS, List.mem_cons, List.not_mem_nil, or_false] at hz
    rcases hz with rfl | rfl | rfl | rfl | rfl | rfl
    · unfold headS
      rw [g.code]
      cases c with
      | none => exact cat (cat e0 (by decide +kernel)) a6
      | some n =>
        have h : 0 ≤ n ∧ n ≤ 99 := (by decide : ∀ c ∈ codesL, 0 ≤ c ∧ c ≤ 99) n (g.codeOk n rfl)
        exact cat (cat (cat (cat e0 (by decide +kernel)) (num_free h.1).2) (by decide +kernel)) a6
    · exact cat (cat e0 (by decide +kernel)) a1
    · exact cat (cat (cat (cat e0 (by decide +kernel)) a2) (by decide +kernel)) a3
    · unfold toS
      split
      · rename_i h
        rcases g.ttag with e | ⟨_, e⟩
        · rw [e] at h
          exact absurd h (by decide +kernel)
        · exact cat (cat (cat (cat e0 (by decide +kernel)) a4) (by decide +kernel)) (tag_free e).2.1
      · exact cat (cat e0 (by decide +kernel)) a4
    · exact cat (cat e0 (by decide +kernel)) a7
    · exact cat (cat e0 (by decide +kernel)) a5
  · cases o with
    | none => cases hz
    | some u =>
      rw [List.mem_singleton.mp hz]
      exact cat (cat e0 (by decide +kernel)) (g.off u rfl).2.2.1
  · rcases g.stay with e | ⟨n, e, h0, _⟩
    · rw [e] at hz
      cases hz
    · rw [e] at hz
      rw [List.mem_singleton.mp hz]
      exact cat (cat e0 (by decide +kernel)) (num_free h0).2
  · rcases g.goal with e | ⟨y, e, h0⟩
    · rw [e] at hz
      cases hz
    · rw [e] at hz
      rw [List.mem_singleton.mp hz]
      exact cat (cat e0 (by decide +kernel)) (addr_free h0).2.1
theorem head_cut {L : Ltr} {o : Option Off} {c : Option Int} (g : GLet L o c) : Txt.split (headS L) " " = headW L.verb c := by
  have a6 := (verbs_ok _ g.verb).2.1
  unfold headS
  rw [g.code]
  cases c with
  | none => exact cut2 (by decide +kernel) (by decide +kernel) a6
  | some n =>
    have h : 0 ≤ n ∧ n ≤ 99 := (by decide : ∀ c ∈ codesL, 0 ≤ c ∧ c ≤ 99) n (g.codeOk n rfl)
    exact cut3 (by decide +kernel) (by decide +kernel) (num_free h.1).1 a6
theorem line_at (L : Ltr) (o : Option Off) (i : Nat) (hi : i < 5) : atI ((linesX L o).map V.str) ((((i : Nat) : Int) + 1 + 1) - 1) = some (.str (lineI L i)) := by
  have hl : 6 ≤ ((linesX L o).map V.str).length := by
    rw [List.length_map]
    unfold linesX
    rw [List.length_append, List.length_append, List.length_append]
    show 6 ≤ 6 + _ + _ + _
    omega
  rw [atN (V.str "") (by omega) (by omega)]
  have e : ((((i : Nat) : Int) + 1 + 1) - 1).toNat = i + 1 := by omega
  rw [e]
  match i, hi with
  | 0, _ => rfl
  | 1, _ => rfl
  | 2, _ => rfl
  | 3, _ => rfl
  | 4, _ => rfl
def hKb : Bool → List Str
  | false => ["verb"]
  | true => ["verb", "code"]
theorem hKb_eq (c : Option Int) : headK c = hKb c.isSome := by cases c <;> rfl
def KK (b : Bool) : Nat → List Str
  | 0 => hKb b
  | i + 1 => KK b i ++ ksI i
def ZZ (L : Ltr) (c : Option Int) : Nat → List V
  | 0 => headZ L.verb c
  | i + 1 => ZZ L c i ++ zsI L i
theorem ksI_len (L : Ltr) : ∀ i, (ksI i).length = (zsI L i).length
  | 0 => rfl
  | 1 => rfl
  | 2 => rfl
  | 3 => rfl
  | _ + 4 => rfl
theorem KK_len (L : Ltr) (c : Option Int) : ∀ i, (KK c.isSome i).length = (ZZ L c i).length
  | 0 => by cases c <;> rfl
  | i + 1 => by
    show (KK c.isSome i ++ ksI i).length = (ZZ L c i ++ zsI L i).length
    rw [List.length_append, List.length_append, KK_len L c i, ksI_len L i]
theorem KK_nd : ∀ b : Bool, ∀ i < 5, (KK b i ++ ksI i).Nodup := by decide +kernel
theorem KK_short : ∀ b : Bool, ∀ i < 6, (KK b i).length ≤ 9 := by decide +kernel
theorem dkOf_len {ks : List Str} {zs : List V} (h : ks.length = zs.length) : (dkOf ks zs).length = ks.length := by
  unfold dkOf
  rw [List.length_map, List.length_zip, h, Nat.min_self]
/-! the parts that a letter may have -/
def tailP (L : Ltr) (o : Option Off) : Nat → List Str
  | 0 => offL o ++ (stayL L.stay ++ goalL L.goal)
  | 1 => stayL L.stay ++ goalL L.goal
  | 2 => goalL L.goal
  | _ => []
def ExtAt (L : Ltr) (o : Option Off) (H : Hp) : Nat → List Str → List V → Prop
  | 0, kx, zx => kx = [] ∧ zx = []
  | j + 1, kx, zx => ∃ k0 z0, ExtAt L o H j k0 z0 ∧ ((lineP L o j = [] ∧ kx = k0 ∧ zx = z0) ∨ ∃ z x, lineP L o j = [z] ∧ XV L o H j x ∧ kx = k0 ++ [keyP j] ∧ zx = z0 ++ [x])
theorem XV.same {L : Ltr} {o : Option Off} {H H' : Hp} (s : Same H H') : ∀ {j : Nat} {x : V}, XV L o H j x → XV L o H' j x
  | 0, _, ⟨u, e, h⟩ => ⟨u, e, h.same s⟩
  | 1, _, h => h
  | _ + 2, _, h => h
theorem ExtAt.same {L : Ltr} {o : Option Off} {H H' : Hp} (s : Same H H') : ∀ {j : Nat} {kx : List Str} {zx : List V}, ExtAt L o H j kx zx → ExtAt L o H' j kx zx
  | 0, _, _, h => h
  | j + 1, _, _, ⟨k0, z0, h, q⟩ => ⟨k0, z0, h.same s, q.imp id fun ⟨z, x, a, b, e⟩ => ⟨z, x, a, b.same s, e⟩⟩
theorem ExtAt.sub {L : Ltr} {o : Option Off} {H : Hp} : ∀ {j : Nat} {kx : List Str} {zx : List V}, ExtAt L o H j kx zx → kx.Sublist ((List.range j).map keyP) ∧ kx.length = zx.length
  | 0, _, _, ⟨e1, e2⟩ => by rw [e1, e2]; exact ⟨List.Sublist.slnil, rfl⟩
  | j + 1, _, _, ⟨k0, z0, h, q⟩ => by
    obtain ⟨a, b⟩ := h.sub
    rw [List.range_succ, List.map_append]
    rcases q with ⟨_, rfl, rfl⟩ | ⟨z, x, _, _, rfl, rfl⟩
    · exact ⟨a.trans (List.sublist_append_left _ _), b⟩
    · exact ⟨a.append (List.Sublist.refl _), by rw [List.length_append, List.length_append, b]; rfl⟩
theorem PK_nd : ∀ b : Bool, ∀ j < 4, (KK b 5 ++ (List.range j).map keyP).Nodup := by decide +kernel
theorem lineP_cases (L : Ltr) (o : Option Off) : ∀ j, lineP L o j = [] ∨ ∃ z, lineP L o j = [z]
  | 0 => by
    show offL o = [] ∨ ∃ z, offL o = [z]
    cases o
    · exact .inl rfl
    · exact .inr ⟨_, rfl⟩
  | 1 => by
    show stayL L.stay = [] ∨ ∃ z, stayL L.stay = [z]
    unfold stayL
    split
    · exact .inr ⟨_, rfl⟩
    · exact .inl rfl
  | _ + 2 => by
    show goalL L.goal = [] ∨ ∃ z, goalL L.goal = [z]
    unfold goalL
    split
    · exact .inr ⟨_, rfl⟩
    · exact .inl rfl
theorem tail_split (L : Ltr) (o : Option Off) : ∀ j < 3, tailP L o j = lineP L o j ++ tailP L o (j + 1)
  | 0, _ => rfl
  | 1, _ => rfl
  | 2, _ => (List.append_nil _).symm
theorem next_line {L : Ltr} {o : Option Off} {z : Str} {r : List Str} : ∀ j < 3, tailP L o (j + 1) = z :: r → ∃ i, lineP L o i = [z] ∧ keyP i ≠ keyP j
  | 0, _, h => by
    have h2 : lineP L o 1 ++ lineP L o 2 = z :: r := h
    rcases lineP_cases L o 1 with e | ⟨y, e⟩
    · rw [e, List.nil_append] at h2
      rcases lineP_cases L o 2 with e3 | ⟨y, e3⟩
      · rw [e3] at h2
        cases h2
      · rw [e3] at h2
        obtain rfl : y = z := (List.cons.inj h2).1
        exact ⟨2, e3, by decide +kernel⟩
    · rw [e] at h2
      obtain rfl : y = z := (List.cons.inj h2).1
      exact ⟨1, e, by decide +kernel⟩
  | 1, _, h => by
    have h2 : lineP L o 2 = z :: r := h
    rcases lineP_cases L o 2 with e3 | ⟨y, e3⟩
    · rw [e3] at h2
      cases h2
    · rw [e3] at h2
      obtain rfl : y = z := (List.cons.inj h2).1
      exact ⟨2, e3, by decide +kernel⟩
  | 2, _, h => nomatch h
theorem drop_at {ls : List Str} {nn : Nat} {z : Str} {r : List Str} (h : ls.drop nn = z :: r) : nn < ls.length ∧ atI (ls.map V.str) ((nn : Nat) : Int) = some (.str z) ∧ ls.drop (nn + 1) = r := by
  have hlt : nn < ls.length := by
    rcases Nat.lt_or_ge nn ls.length with q | q
    · exact q
    · rw [List.drop_eq_nil_of_le q] at h
      cases h
  rw [List.drop_eq_getElem_cons hlt] at h
  obtain ⟨h1, h2⟩ := List.cons.inj h
  refine ⟨hlt, ?_, h2⟩
  rw [atN (V.str "") (by omega) (by rw [List.length_map]; omega), Int.toNat_natCast, List.getD_eq_getElem?_getD, List.getElem?_map, List.getElem?_eq_getElem hlt, h1]
  rfl
theorem XV.updD {L : Ltr} {o : Option Off} {H : Hp} {d : Addr} {kvs kvs' : List (Key × V)} (hd : H d = some (.dK kvs)) : ∀ {j : Nat} {x : V}, XV L o H j x → XV L o (upd H d (.dK kvs')) j x
  | 0, _, ⟨u, e, p, f, e0, e1, e2⟩ => ⟨u, e, p, f, e0, by rw [upd_ne (fun z => by rw [z, hd] at e1; cases e1)]; exact e1, by rw [upd_ne (fun z => by rw [z, hd] at e2; cases e2)]; exact e2⟩
  | 1, _, h => h
  | _ + 2, _, h => h
theorem ExtAt.updD {L : Ltr} {o : Option Off} {H : Hp} {d : Addr} {kvs kvs' : List (Key × V)} (hd : H d = some (.dK kvs)) : ∀ {j : Nat} {kx : List Str} {zx : List V}, ExtAt L o H j kx zx → ExtAt L o (upd H d (.dK kvs')) j kx zx
  | 0, _, _, h => h
  | j + 1, _, _, ⟨k0, z0, h, q⟩ => ⟨k0, z0, h.updD hd, q.imp id fun ⟨z, x, a, b, e⟩ => ⟨z, x, a, b.updD hd, e⟩⟩
end K7
set_option maxHeartbeats 4000000
set_option pp.maxSteps 400
namespace K7
open PySem PySem.Spec PyProof.Rows L2 SX TK TKS
open C8 (pe_c)
abbrev ssS : List Str → (List V → List V → List V) → Prop := SsOk "self" ["verb", "call", "origin", "origin_tag", "target", "target_tag", "seq", "way", "code", "offer", "stay", "goal"] ["verb", "call", "origin", "origin_tag", "target", "target_tag", "seq", "way"]
abbrev namesP : List Str := ["verb", "call", "origin", "origin_tag", "target", "target_tag", "seq", "way", "code", "offer", "stay", "goal"]
theorem all_in : ∀ b : Bool, ∀ k ∈ KK b 5 ++ (List.range 3).map keyP, k ∈ namesP ∧ k ≠ "self" := by decide +kernel
theorem need_in : ∀ b : Bool, ∀ k ∈ (["verb", "call", "origin", "origin_tag", "target", "target_tag", "seq", "way"] : List Str), k ∈ KK b 5 := by decide +kernel
theorem ext_ss {L : Ltr} {o : Option Off} {H : Hp} {kx : List Str} {zx : List V} (b : Bool) (h : ExtAt L o H 3 kx zx) : ssS (KK b 5 ++ kx) (fun vs zs => vs ++ byNameV namesP (KK b 5 ++ kx) zs) := by
  have sub : (KK b 5 ++ kx).Sublist (KK b 5 ++ (List.range 3).map keyP) := (List.Sublist.refl _).append h.sub.1
  refine ⟨List.nodup_cons.mpr ⟨fun m => (all_in b _ (sub.subset m)).2 rfl, (PK_nd b 3 (by decide)).sublist sub⟩, fun k hk => (all_in b k (sub.subset hk)).1, fun k hk => List.mem_append_left _ (need_in b k hk), rfl⟩
theorem ext_args {L : Ltr} {o : Option Off} {c : Option Int} {H : Hp} {kx : List Str} {zx : List V} (g : GLet L o c) (h : ExtAt L o H 3 kx zx) : ∃ ox, OffO H ox o ∧ byNameV namesP (KK c.isSome 5 ++ kx) (ZZ L c 5 ++ zx) = ({ L with offer := ox } : Ltr).args := by
  obtain ⟨k2, z2, ⟨k1, z1, ⟨k0, z0, ⟨rfl, rfl⟩, q0⟩, q1⟩, q2⟩ := h
  have hc := g.code
  have hst : stayL L.stay = [] → L.stay = .non := fun e => by
    rcases g.stay with q | ⟨n, q, _⟩
    · exact q
    · rw [q] at e
      cases e
  have hgl : goalL L.goal = [] → L.goal = .non := fun e => by
    rcases g.goal with q | ⟨n, q, _⟩
    · exact q
    · rw [q] at e
      cases e
  obtain ⟨ox, hox, e0⟩ : ∃ ox, OffO H ox o ∧ ((k1 = [] ∧ z1 = [] ∧ ox = .non) ∨ (k1 = [("offer" : Str)] ∧ z1 = [ox])) := by
    rcases q0 with ⟨e, rfl, rfl⟩ | ⟨z, x, e, ⟨u, rfl, hu⟩, rfl, rfl⟩
    · cases o with
      | none => exact ⟨.non, rfl, .inl ⟨rfl, rfl, rfl⟩⟩
      | some u => cases e
    · exact ⟨x, hu, .inr ⟨rfl, rfl⟩⟩
  refine ⟨ox, hox, ?_⟩
  obtain ⟨verb, call, origin, otag, target, ttag, seq, way, code, offer, stay, goal⟩ := L
  cases hc
  have e1 : (k2 = k1 ∧ z2 = z1 ∧ stay = .non) ∨ (k2 = k1 ++ [("stay" : Str)] ∧ z2 = z1 ++ [stay]) := by
    rcases q1 with ⟨e, rfl, rfl⟩ | ⟨z, x, e, hx, rfl, rfl⟩
    · exact .inl ⟨rfl, rfl, hst e⟩
    · cases (show x = stay from hx)
      exact .inr ⟨rfl, rfl⟩
  have e2 : (kx = k2 ∧ zx = z2 ∧ goal = .non) ∨ (kx = k2 ++ [("goal" : Str)] ∧ zx = z2 ++ [goal]) := by
    rcases q2 with ⟨e, rfl, rfl⟩ | ⟨z, x, e, hx, rfl, rfl⟩
    · exact .inl ⟨rfl, rfl, hgl e⟩
    · cases (show x = goal from hx)
      exact .inr ⟨rfl, rfl⟩
  clear q0 q1 q2 hst hgl g hox
  cases c with
  | none =>
    rcases e0 with ⟨rfl, rfl, rfl⟩ | ⟨rfl, rfl⟩ <;> rcases e1 with ⟨rfl, rfl, rfl⟩ | ⟨rfl, rfl⟩ <;> rcases e2 with ⟨rfl, rfl, rfl⟩ | ⟨rfl, rfl⟩ <;> rfl
  | some n =>
    rcases e0 with ⟨rfl, rfl, rfl⟩ | ⟨rfl, rfl⟩ <;> rcases e1 with ⟨rfl, rfl, rfl⟩ | ⟨rfl, rfl⟩ <;> rcases e2 with ⟨rfl, rfl, rfl⟩ | ⟨rfl, rfl⟩ <;> rfl
def spReadL (K : PySem.W.Frag) : Sp := fun vs H Q _ => ∃ L o c, vs = [.str (textOf (linesX L o))] ∧ GLet L o c ∧ ∀ a x H', Same H H' → H a = none → OffO H' x o → LetAt K H' a { L with offer := x } → Q (.ref a) H'
theorem ok_read {P : Program} {w : World} {K : PySem.W.Frag} {mg : Str → Option Value} {base : Heap} {f : Addr} {fd : FuncData} (T : Tx K mg) (c_read_head : C8.Cal P w K mg base 3 "_read_head" spReadHead []) (c_read_line : C8.Cal P w K mg base 6 "_read_line" spLine []) (c_mk_Letter_ss : TK.MakS P w K mg base 1 "Letter" (He.ga K "Letter") (spLetInit K) (TK.SsOk "self" ["verb", "call", "origin", "origin_tag", "target", "target_tag", "seq", "way", "code", "offer", "stay", "goal"] ["verb", "call", "origin", "origin_tag", "target", "target_tag", "seq", "way"]))
    (F : FunD K "read" "read" (defArgs s_read) (defBody s_read) (defScope s_read) [] [] f fd) : FnOk P w K mg base CX0 7 f fd ["text"] (spReadL K) := by
  refine F.ok sc_read (fun vs H Q E h => ?_) (fun cdv A outer s H vs Q E hr h => ?_)
  · obtain ⟨L, o, c, rfl, _⟩ := h
    rfl
  · obtain ⟨L, o, c, rfl, g, k⟩ := h
    have hlen := linesX_len g.lok g.xok
    have hn9 := linesX_n L o
    have hfit := textOf_fits hlen (Nat.le_trans hn9 (by decide))
    have hz2 : (textOf (linesX L o)).length + 2 ≤ sizeLine := by
      have b := join_len "" ((linesX L o).map fun z => z ++ ("\n" : Str))
      have : (textOf (linesX L o)).length ≤ 1000000 := Nat.le_trans b hfit
      exact Nat.le_trans (Nat.add_le_add_right this 2) (by decide)
    have hcut := text_cut g.nonl
    have hat := line_at L o
    have hhead := head_cut g
    refine ⟨_, PSs.nox (pss_cons (ps_set (i := 1) sc_read.nd rfl (Or.inl rfl) (pe_split (pv 0) pe_str)) (pss_cons (ps_set (i := 2) sc_read.nd rfl (Or.inl rfl) (pe_bm0 PySem.F.plainAttrs_list PySem.F.slot_list_pop PySem.F.type_list_pop mt_pop (pv 1))) (pss_cons (ps_set (i := 3) sc_read.nd rfl (Or.inl rfl) (pe_ifExp (pt_truth (pv 1) (fun _ => rfl)) (pe_c c_read_head hr (by decide) rfl (pa_cons (pe_split (pe_ix ix_list (pv 1) pe_int (fun _ _ => rfl)) pe_str) pa_nil)) pe_non)) (C8.pss_cut (ps_if (pt_cmpR op_isN (pv 3) pe_non (nomark _)) (pss_one ps_never) pss_nil) (pss_cons (ps_set (i := 4) sc_read.nd rfl (Or.inl rfl) pe_int) (pss_cons (ps_for PassesOwn.never rfl (pi_tup (pgR T.g_NEEDED)) (pg_name (i := 5) sc_read.nd rfl (Or.inl rfl)) (pss_cons (ps_aug (i := 4) sc_read.nd rfl (Or.inl rfl) pe_int ip_add) (pss_cons (ps_set (i := 6) sc_read.nd rfl (Or.inl rfl) (pe_ifExp (pt_cmpR op_le (pv 4) (pe_callB call_len_seq rfl T.f_len PySem.boot_len (pa_cons (pv 1) pa_nil)) (nomark _)) (pe_c c_read_line hr (by decide) rfl (pa_cons (pv 5) (pa_cons (pe_ix ix_list (pv 1) (pe_op op_sub (pv 4) pe_int) (fun _ _ => rfl)) pa_nil))) pe_non)) (C8.pss_cut (ps_if (pt_cmpR op_isN (pv 6) pe_non (nomark _)) (pss_one ps_never) pss_nil) (pss_one (ps_expr (TK.pe_dupd (pv 3) (pv 6) ⟨rfl, by rfl, rfl, rfl⟩))))))) (pss_cons (ps_for PassesOwn.never rfl (pi_tup (pgR T.g_POSSIBLE)) (pg_name (i := 5) sc_read.nd rfl (Or.inl rfl)) (pss_cons (ps_set (i := 6) sc_read.nd rfl (Or.inl rfl) (pe_ifExp (pt_cmpR op_lt (pv 4) (pe_callB call_len_seq rfl T.f_len PySem.boot_len (pa_cons (pv 1) pa_nil)) (nomark _)) (pe_c c_read_line hr (by decide) rfl (pa_cons (pv 5) (pa_cons (pe_ix ix_list (pv 1) (pv 4) (fun _ _ => rfl)) pa_nil))) pe_non)) (pss_one (ps_if (pt_cmpR op_notN (pv 6) pe_non (nomark _)) (pss_cons (ps_aug (i := 4) sc_read.nd rfl (Or.inl rfl) pe_int ip_add) (pss_one (ps_expr (TK.pe_dupd (pv 3) (pv 6) ⟨rfl, by rfl, rfl, rfl⟩)))) pss_nil)))) (C8.pss_cut (ps_if (PW.pt (pw_or (pt_cmpR op_lt (pv 4) (pe_callB call_len_seq rfl T.f_len PySem.boot_len (pa_cons (pv 1) pa_nil)) (nomark _)) (pw_or1 (pt_cmpR op_ne (pv 2) pe_str (nomark _))))) (pss_one ps_never) pss_nil) (pss_one (ps_ret (TK.pe_mkSS c_mk_Letter_ss hr (by decide) rfl (pv 3)))))))))))), ?_⟩
    refine ⟨_, rfl, ⟨_, rfl⟩, textOf (linesX L o), "\n", rfl, rfl, by decide +kernel, hz2, fun l hl => ?_⟩
    rw [hcut]
    generalize textOf (linesX L o) = tx
    have hlast : ((linesX L o ++ [("" : Str)]).map V.str)[((linesX L o ++ [("" : Str)]).map V.str).length - 1]? = some (.str "") := by simp
    have ed : ((linesX L o ++ [("" : Str)]).map V.str).dropLast = (linesX L o).map V.str := by simp
    refine ⟨_, rfl, .inl ⟨rfl, _, SqL.of upd_same⟩, l, _, _, rfl, rfl, upd_same, hlast, ?_⟩
    rw [upd_upd, ed]
    have s1 : Same H (upd H l (.lst ((linesX L o).map V.str))) := same_upd hl
    have e1 : (upd H l (.lst ((linesX L o).map V.str))) l = some (.lst ((linesX L o).map V.str)) := upd_same
    generalize upd H l (.lst ((linesX L o).map V.str)) = H1 at s1 e1 ⊢
    have h0 : atI ((linesX L o).map V.str) 0 = some (.str (headS L)) := atC (V.str (headS L)) _
    have hne : (!((linesX L o).map V.str).isEmpty) = true := rfl
    have hh3 : (headS L).length ≤ 2000 := headS_len g.lok
    refine ⟨_, rfl, _, .inl ⟨_, SqL.of e1, rfl⟩, ?_⟩
    rw [hne]
    refine iteT ⟨_, rfl, l, _, 0, .str (headS L), rfl, rfl, SqL.of e1, h0, ⟨_, rfl⟩, headS L, " ", rfl, rfl, by decide +kernel, Nat.le_trans (Nat.add_le_add_right hh3 2) (by decide), fun q hq => ?_⟩
    rw [hhead]
    have s2 := s1.trans (same_upd (o := .lst ((headW L.verb c).map V.str)) hq)
    have e2 := (same_upd (o := .lst ((headW L.verb c).map V.str)) hq) _ _ e1
    refine ⟨q, L.verb, c, rfl, upd_same, g.verb, g.codeOk, fun d H2 s3 hd ed => ?_⟩
    have s4 := s2.trans s3
    have e3 := s3 _ _ e2
    have hdH : H d = none := fresh_of s2 hd
    have ld : l ≠ d := fun e => by rw [← e, e2] at hd; cases hd
    rw [hKb_eq] at ed
    refine ⟨fun σ' H' => σ' = [some (.str tx), some (.ref l), some (.str ""), some (.ref d), none, none, none] ∧ H' = H2, ⟨_, rfl, rfl, _, rfl, iteF ⟨rfl, rfl⟩⟩, ?_⟩
    rintro σ' H3 ⟨rfl, e⟩
    obtain rfl : H2 = H3 := e.symm
    -- the lines that every letter has
    refine ⟨_, rfl, ⟨_, T.v_NEEDED _⟩, for_it walk_tup (fun i σ H' => ∃ v5 v6 : Option V, σ = [some (.str tx), some (.ref l), some (.str ""), some (.ref d), some (.int ((i : Nat) + 1)), v5, v6] ∧ Same H H' ∧ H' l = some (.lst ((linesX L o).map V.str)) ∧ H' d = some (.dK (dkOf (KK c.isSome i) (ZZ L c i)))) ⟨none, none, rfl, s4, e3, ed⟩ (fun _ _ H' _ _ => T.v_NEEDED H') ?_ ?_⟩
    · rintro i x σ H3 H4 hi ⟨v5, v6, rfl, s5, e5, e6⟩ ⟨rfl, hx⟩
      have hi5 : i < 5 := hi
      obtain rfl : V.str (keyI i) = x := by
        have q : ([.str "call", .str "from", .str "to", .str "seq", .str "way"] : List V)[i]? = some (.str (keyI i)) := by
          match i, hi5 with
          | 0, _ => rfl
          | 1, _ => rfl
          | 2, _ => rfl
          | 3, _ => rfl
          | 4, _ => rfl
        exact Option.some.inj (q.symm.trans hx)
      refine ⟨_, rfl, _, _, rfl, rfl, ?_⟩
      have hle : decide ((((i : Nat) : Int) + 1 + 1) ≤ (((linesX L o).map V.str).length : Nat)) = true := decide_eq_true (by
        rw [List.length_map]
        unfold linesX
        rw [List.length_append, List.length_append, List.length_append]
        show _ ≤ ((6 + _ + _ + _ : Nat) : Int)
        omega)
      refine ⟨_, rfl, _, rfl, l, _, rfl, .inl (SqL.of e5), _, _, rfl, rfl, _, rfl, ?_⟩
      rw [hle]
      refine iteT ⟨_, rfl, _, rfl, _, rfl, _, _, rfl, rfl, l, _, _, .str (lineI L i), rfl, rfl, SqL.of e5, hat i hi5, ?_⟩
      delta tNil
      dsimp only
      refine need_line g i fun d2 H5 s6 hd2 e7 => ?_
      refine ⟨fun σ' H' => σ' = [some (.str tx), some (.ref l), some (.str ""), some (.ref d), some (.int ((i : Nat) + 1 + 1)), some (.str (keyI i)), some (.ref d2)] ∧ H' = H5, ⟨_, rfl, rfl, _, rfl, iteF ⟨rfl, rfl⟩⟩, ?_⟩
      rintro σ' H6 ⟨rfl, e⟩
      obtain rfl : H5 = H6 := e.symm
      have dd2 : d ≠ d2 := fun e => by rw [← e, e6] at hd2; cases hd2
      have e8 := s6 _ _ e6
      refine ⟨_, rfl, d, rfl, .inl ⟨_, .inl e8⟩, _, rfl, d2, _, _, rfl, dd2, e8, .inl e7, ?_, ?_⟩
      · rw [dkOf_len (KK_len L c i), dkOf_len (ksI_len L i)]
        have := KK_short c.isSome i (by omega)
        have : (ksI i).length ≤ 2 := by
          unfold ksI
          split <;> decide
        exact Nat.le_trans (by omega : _ ≤ 20) (by decide)
      · refine ⟨_, _, rfl, TK.Same.upd_of (s5.trans s6) hdH, ?_, ?_⟩
        · rw [upd_ne ld]
          exact s6 _ _ e5
        · rw [upd_same, merge_dk (KK_len L c i) (ksI_len L i) (KK_nd c.isSome i hi5)]
          rfl
    · rintro σ H3 ⟨v5, v6, rfl, s5, e5, e6⟩
      -- the lines that a letter may have
      refine ⟨_, rfl, ⟨_, T.v_POSSIBLE _⟩, for_it walk_tup (fun j σ H' => ∃ (v5 v6 : Option V) (nn : Nat) (kx : List Str) (zx : List V), σ = [some (.str tx), some (.ref l), some (.str ""), some (.ref d), some (.int (nn : Nat)), v5, v6] ∧ Same H H' ∧ H' l = some (.lst ((linesX L o).map V.str)) ∧ H' d = some (.dK (dkOf (KK c.isSome 5 ++ kx) (ZZ L c 5 ++ zx))) ∧ (linesX L o).drop nn = tailP L o j ∧ nn ≤ (linesX L o).length ∧ ExtAt L o H' j kx zx) ⟨v5, v6, 6, [], [], rfl, s5, e5, ?_, ?_, ?_, rfl, rfl⟩ (fun _ _ H' _ _ => T.v_POSSIBLE H') ?_ ?_⟩
      · rw [List.append_nil, List.append_nil]
        exact e6
      · unfold linesX tailP
        rw [List.append_assoc, List.append_assoc]
        rfl
      · unfold linesX
        rw [List.length_append, List.length_append, List.length_append]
        show 6 ≤ 6 + _ + _ + _
        omega
      · rintro j x σ H4 H5 hj ⟨v5, v6, nn, kx, zx, rfl, s5, e5, e6, ht, hn, hx⟩ ⟨rfl, hx2⟩
        have hj3 : j < 3 := hj
        obtain rfl : V.str (keyP j) = x := by
          have q : ([.str "offer", .str "stay", .str "goal"] : List V)[j]? = some (.str (keyP j)) := by
            match j, hj3 with
            | 0, _ => rfl
            | 1, _ => rfl
            | 2, _ => rfl
          exact Option.some.inj (q.symm.trans hx2)
        have hsp := tail_split L o j hj3
        rw [hsp] at ht
        obtain ⟨hsub, hkl⟩ := hx.sub
        have none_case : ∀ (v6 : V) (H6 : Hp), v6 = .non → Same H5 H6 → lineP L o j = [] → ∃ (v5' v6' : Option V) (n' : Nat) (k' : List Str) (z' : List V), ([some (.str tx), some (.ref l), some (.str ""), some (.ref d), some (.int (nn : Nat)), some (.str (keyP j)), some v6] : List (Option V)) = [some (.str tx), some (.ref l), some (.str ""), some (.ref d), some (.int (n' : Nat)), v5', v6'] ∧ Same H H6 ∧ H6 l = some (.lst ((linesX L o).map V.str)) ∧ H6 d = some (.dK (dkOf (KK c.isSome 5 ++ k') (ZZ L c 5 ++ z'))) ∧ (linesX L o).drop n' = tailP L o (j + 1) ∧ n' ≤ (linesX L o).length ∧ ExtAt L o H6 (j + 1) k' z' := by
          rintro v6 H6 rfl s6 e7
          rw [e7, List.nil_append] at ht
          exact ⟨_, _, nn, kx, zx, rfl, s5.trans s6, s6 _ _ e5, s6 _ _ e6, ht, hn, kx, zx, hx.same s6, .inl ⟨e7, rfl, rfl⟩⟩
        rcases lineP_cases L o j with e7 | ⟨z, e7⟩
        · obtain e8 | ⟨z, r, e8⟩ : tailP L o (j + 1) = [] ∨ ∃ z r, tailP L o (j + 1) = z :: r := by
            cases tailP L o (j + 1) with
            | nil => exact .inl rfl
            | cons z r => exact .inr ⟨z, r, rfl⟩
          · have ht2 := ht
            rw [e7, e8] at ht2
            have hnn : ¬ ((nn : Nat) : Int) < (((linesX L o).map V.str).length : Nat) := by
              rw [List.length_map]
              have := congrArg List.length ht2
              rw [List.length_drop] at this
              have : (linesX L o).length - nn = 0 := this
              omega
            refine ⟨_, rfl, _, rfl, l, _, rfl, .inl (SqL.of e5), _, _, rfl, rfl, _, rfl, ?_⟩
            rw [decide_eq_false hnn]
            refine iteF ⟨_, rfl, rfl, _, rfl, iteF ?_⟩
            exact none_case .non H5 rfl (Same.refl H5) e7
          · obtain ⟨i, e9, hki⟩ := next_line j hj3 e8
            have ht2 := ht
            rw [e7, e8] at ht2
            obtain ⟨hlt, hat2, _⟩ := drop_at ht2
            refine ⟨_, rfl, _, rfl, l, _, rfl, .inl (SqL.of e5), _, _, rfl, rfl, _, rfl, ?_⟩
            rw [decide_eq_true (by rw [List.length_map]; omega)]
            refine iteT ⟨_, rfl, _, rfl, _, rfl, l, _, _, .str z, rfl, rfl, SqL.of e5, hat2, ?_⟩
            delta tNil
            dsimp only
            refine poss_not g i e9 hki fun H6 s6 => ?_
            refine ⟨_, rfl, rfl, _, rfl, iteF ?_⟩
            exact none_case .non H6 rfl s6 e7
        · rw [e7] at ht
          obtain ⟨hlt, hat2, hdr⟩ := drop_at ht
          refine ⟨_, rfl, _, rfl, l, _, rfl, .inl (SqL.of e5), _, _, rfl, rfl, _, rfl, ?_⟩
          rw [decide_eq_true (by rw [List.length_map]; omega)]
          refine iteT ⟨_, rfl, _, rfl, _, rfl, l, _, _, .str z, rfl, rfl, SqL.of e5, hat2, ?_⟩
          delta tNil
          dsimp only
          refine poss_here g j e7 fun d2 x H6 s6 hd2 hxv e9 => ?_
          have dd2 : d ≠ d2 := fun e => by rw [← e, e6] at hd2; cases hd2
          have e10 := s6 _ _ e6
          have hl5 : (KK c.isSome 5 ++ kx).length = (ZZ L c 5 ++ zx).length := by rw [List.length_append, List.length_append, KK_len, hkl]
          refine ⟨_, rfl, rfl, _, rfl, iteT ⟨_, rfl, _, _, rfl, rfl, ?_⟩⟩
          refine ⟨_, rfl, d, rfl, .inl ⟨_, .inl e10⟩, _, rfl, d2, _, _, rfl, dd2, e10, .inl e9, ?_, ?_⟩
          · rw [dkOf_len hl5, dkOf_len (ks := [keyP j]) (zs := [x]) rfl, List.length_append]
            have := KK_short c.isSome 5 (by omega)
            have := hsub.length_le
            rw [List.length_map, List.length_range] at this
            exact Nat.le_trans (by show _ + _ + 1 ≤ 20; omega) (by decide)
          · have nd : (KK c.isSome 5 ++ kx ++ [keyP j]).Nodup := by
              have q := PK_nd c.isSome (j + 1) (by omega)
              rw [List.range_succ, List.map_append] at q
              rw [List.append_assoc]
              exact q.sublist ((List.Sublist.refl _).append (hsub.append (List.Sublist.refl _)))
            refine ⟨_, _, nn + 1, kx ++ [keyP j], zx ++ [x], rfl, TK.Same.upd_of (s5.trans s6) hdH, ?_, ?_, hdr, hlt, kx, zx, ?_, .inr ⟨z, x, e7, ?_, rfl, rfl⟩⟩
            · rw [upd_ne ld]
              exact s6 _ _ e5
            · rw [upd_same, merge_dk hl5 rfl nd, List.append_assoc, List.append_assoc]
            · exact (hx.same s6).updD e10
            · exact hxv.updD e10
      · rintro σ H4 ⟨v5, v6, nn, kx, zx, rfl, s5, e5, e6, ht, hn, hx⟩
        have hnn : nn = (linesX L o).length := by
          have := congrArg List.length ht
          rw [List.length_drop] at this
          have : (linesX L o).length - nn = 0 := this
          omega
        refine ⟨fun σ' H' => σ' = [some (.str tx), some (.ref l), some (.str ""), some (.ref d), some (.int (nn : Nat)), v5, v6] ∧ H' = H4, ⟨_, rfl, _, rfl, l, _, rfl, .inl (SqL.of e5), _, _, rfl, rfl, _, rfl, ?_⟩, ?_⟩
        · rw [decide_eq_false (by rw [List.length_map]; omega)]
          exact iteF ⟨_, rfl, rfl, _, rfl, iteF ⟨rfl, rfl⟩⟩
        rintro σ' H5 ⟨rfl, e⟩
        obtain rfl : H4 = H5 := e.symm
        obtain ⟨ox, hox, eargs⟩ := ext_args g hx
        have hl5 : (KK c.isSome 5 ++ kx).length = (ZZ L c 5 ++ zx).length := by rw [List.length_append, List.length_append, KK_len, hx.sub.2]
        intro p hp
        have pd : p ≠ d := fun e => by rw [e, e6] at hp; cases hp
        refine ⟨_, rfl, upd_same, d, _, _, _, rfl, pd, .inl (by rw [upd_ne pd.symm]; exact e6), hl5, ext_ss c.isSome hx, ?_⟩
        intro x dx hx1 hx2 hne
        rw [upd_upd] at hx1 hx2 ⊢
        refine ⟨x, dx, { L with offer := ox }, congrArg (List.cons (V.ref x)) eargs, upd_same, rfl, ?_⟩
        rw [upd_upd]
        have sp := (same_upd (o := .dK (dkOf (KK c.isSome 5 ++ kx) (ZZ L c 5 ++ zx))) hp).trans (same_own (C := He.ga K "Letter") (fs := ({ L with offer := ox } : Ltr).fl) hx1 hx2)
        exact k x ox _ (s5.trans sp) (fresh_of (s5.trans (same_upd hp)) hx1) (hox.same sp) ⟨dx, upd_same⟩
end K7
set_option maxHeartbeats 2000000
/-! Cells: the changing part of the heap that something owns, as a list of places and what stands there. -/
namespace TKC
open PySem PySem.Spec PyProof.Rows L2 TK
/-- a method called with j of its defaults given by place -/
theorem metJ_of {P : Program} {w : World} {K : PySem.W.Frag} {mg : Str → Option Value} {base : Heap} {C : Addr} {n qual : Str} {params : Arguments} {body : List Stmt} {scope : Scope} {dvs : List V} {f : Addr} {fd : FuncData} {ps : List Str} {k : Nat} {sp : Sp} (j : Nat) (c : Cls K C) (m : Meth K C n f) (F : FunD K n qual params body scope dvs [] f fd) (G : FnOk P w K mg base L2.CX0 k f fd ps sp) (hd : dvs ≠ []) (hn : dvs.length ≤ ps.length) (hj : j ≤ dvs.length)
    (h : ∀ (T : Addr) (kV doc pm : Value) (an : Option Addr) (cdv ct : Value) (us its : List Value), us.length = ps.length - dvs.length + j → its.length = dvs.length →
      ∃ k, bindArgs (PySem.W.fnOf n qual params body scope (.ref T) kV doc pm an cdv ct) ⟨us, []⟩ = seqItems? (.ref T) >>= k ∧ k (some its.toArray) = pure (ps.zip (us ++ its.drop j))) : C8.Met P w K mg base k C n sp (dvs.drop j) := by
  obtain ⟨ds, h1, h2⟩ := F.binds1 (ps := ps) (ps.length - dvs.length + j) j hd (by omega) h
  exact ⟨f, fd, ps, ds, c, m, G, h2, h1⟩
/-- a method with positional defaults, the first of them given by keywords -/
theorem metKD_of {P : Program} {w : World} {K : PySem.W.Frag} {mg : Str → Option Value} {base : Heap} {C : Addr} {n qual : Str} {params : Arguments} {body : List Stmt} {scope : Scope} {dvs : List V} {f : Addr} {fd : FuncData} {ps ks : List Str} {k m : Nat} {sp : Sp} (c : Cls K C) (me : Meth K C n f) (F : FunD K n qual params body scope dvs [] f fd) (G : FnOk P w K mg base L2.CX0 k f fd ps sp) (hd : dvs ≠ [])
    (h : ∀ (T : Addr) (kV doc pm : Value) (an : Option Addr) (cdv ct : Value) (us its ws : List Value), us.length = m + 1 → its.length = dvs.length → ws.length = ks.length →
      ∃ k, bindArgs (PySem.W.fnOf n qual params body scope (.ref T) kV doc pm an cdv ct) ⟨us, ks.zip ws⟩ = seqItems? (.ref T) >>= k ∧ k (some its.toArray) = pure (ps.zip (us ++ ws ++ its.drop ks.length))) : TK.MetK P w K mg base k C n sp m ks (fun vs zs => vs ++ zs ++ dvs.drop ks.length) := by
  obtain ⟨its, b⟩ := F.kbindsD (m + 1) ks (fun us its ws => us ++ ws ++ its.drop ks.length) hd (fun r1 r2 r3 => (r1.append r3).append (r2.drop _)) h
  exact ⟨f, fd, ps, _, c, me, G, b⟩
abbrev Cell := Addr × HO
def keys (M : List Cell) : List Addr := M.map (·.1)
/-- tuples and letters (the instances of twelve fields) do not change -/
def imm : HO → Bool
  | .tup _ => true
  | .ins _ _ fs => decide (fs.length = 12)
  | _ => false
structure Cells (H : Hp) (M : List Cell) : Prop where
  nd : (keys M).Nodup
  at_ : ∀ q ∈ M, H q.1 = some q.2
/-- what stands in H outside A, and what does not change, stands in H'; A' is of A or new -/
structure Upd (A A' : List Addr) (H H' : Hp) : Prop where
  fr : ∀ b o, H b = some o → (b ∈ A → imm o = true) → H' b = some o
  nw : ∀ x ∈ A', x ∈ A ∨ H x = none
def Im (H H' : Hp) : Prop := ∀ b o, H b = some o → imm o = true → H' b = some o
theorem Im.refl (H : Hp) : Im H H := fun _ _ e _ => e
theorem Im.trans {H H1 H2 : Hp} (s : Im H H1) (t : Im H1 H2) : Im H H2 := fun b o e i => t b o (s b o e i) i
theorem Im.of_same {H H' : Hp} (s : Same H H') : Im H H' := fun b o e _ => s b o e
theorem Upd.im {A A' : List Addr} {H H' : Hp} (u : Upd A A' H H') : Im H H' := fun b o e i => u.fr b o e fun _ => i
theorem Upd.refl (A : List Addr) (H : Hp) : Upd A A H H := ⟨fun _ _ e _ => e, fun _ m => .inl m⟩
theorem Upd.of_same {A A' : List Addr} {H H' : Hp} (s : Same H H') (h : ∀ x ∈ A', x ∈ A ∨ H x = none) : Upd A A' H H' := ⟨fun b o e _ => s b o e, h⟩
theorem Upd.same {A : List Addr} {H H' : Hp} (s : Same H H') : Upd A A H H' := Upd.of_same s fun _ m => .inl m
theorem Upd.trans {A A1 A2 : List Addr} {H H1 H2 : Hp} (s : Upd A A1 H H1) (t : Upd A1 A2 H1 H2) : Upd A A2 H H2 := by
  refine ⟨fun b o e n => t.fr b o (s.fr b o e n) fun m => ?_, fun x m => ?_⟩
  · rcases s.nw b m with q | q
    · exact n q
    · rw [q] at e
      cases e
  · rcases t.nw x m with q | q
    · exact s.nw x q
    · by_cases h : x ∈ A
      · exact .inl h
      · right
        cases e : H x with
        | none => rfl
        | some o =>
          rw [s.fr x o e fun m => absurd m h] at q
          cases q
theorem Upd.grow {A A' B B' : List Addr} {H H' : Hp} (u : Upd A A' H H') (h : ∀ x ∈ A, x ∈ B) (h' : ∀ x ∈ B', x ∈ B ∨ x ∈ A') : Upd B B' H H' :=
  ⟨fun b o e n => u.fr b o e fun m => n (h b m), fun x m => (h' x m).elim .inl fun q => (u.nw x q).imp (h x) id⟩
theorem Upd.one {a : Addr} {o o' : HO} {H : Hp} (h : H a = some o) (n : imm o = false) : Upd [a] [a] H (upd H a o') :=
  ⟨fun b u e i => by
    by_cases q : b = a
    · subst q
      rw [h] at e
      cases e
      have := i (List.mem_singleton.mpr rfl)
      rw [n] at this
      cases this
    · rw [upd_ne q]
      exact e, fun _ m => .inl m⟩
theorem Upd.new {a : Addr} {o : HO} {H : Hp} (h : H a = none) : Upd [] [a] H (upd H a o) :=
  ⟨fun b u e _ => by
    rw [upd_ne (ne_of_none e h)]
    exact e, fun x m => .inr (by rw [List.mem_singleton.mp m]; exact h)⟩
theorem Cells.get {H : Hp} {M : List Cell} (c : Cells H M) {a : Addr} {o : HO} (m : (a, o) ∈ M) : H a = some o := c.at_ _ m
theorem Cells.nil (H : Hp) : Cells H [] := ⟨List.nodup_nil, fun _ m => nomatch m⟩
theorem Cells.same {H H' : Hp} {M : List Cell} (c : Cells H M) (s : Same H H') : Cells H' M := ⟨c.nd, fun q m => s _ _ (c.at_ q m)⟩
theorem keys_app (M N : List Cell) : keys (M ++ N) = keys M ++ keys N := List.map_append
theorem Cells.perm {H : Hp} {M N : List Cell} (c : Cells H M) (p : M.Perm N) : Cells H N := ⟨(p.map _).nodup_iff.mp c.nd, fun q m => c.at_ q (p.mem_iff.mpr m)⟩
theorem Cells.sub {H : Hp} {M N : List Cell} (c : Cells H M) (s : N.Sublist M) : Cells H N := ⟨(s.map _).nodup c.nd, fun q m => c.at_ q (s.subset m)⟩
theorem mem_keys {M : List Cell} {q : Cell} (m : q ∈ M) : q.1 ∈ keys M := List.mem_map.mpr ⟨q, m, rfl⟩
theorem Cells.alive {H : Hp} {M : List Cell} (c : Cells H M) {x : Addr} (m : x ∈ keys M) : ∃ o, H x = some o := by
  obtain ⟨q, hq, rfl⟩ := List.mem_map.mp m
  exact ⟨_, c.at_ q hq⟩
theorem Cells.fresh {H : Hp} {M : List Cell} (c : Cells H M) {x : Addr} (h : H x = none) : x ∉ keys M := fun m => by
  obtain ⟨o, e⟩ := c.alive m
  rw [h] at e
  cases e
theorem Cells.add {H : Hp} {M : List Cell} (c : Cells H M) {a : Addr} {o : HO} (h : H a = none) : Cells (upd H a o) ((a, o) :: M) := by
  refine ⟨List.nodup_cons.mpr ⟨c.fresh h, c.nd⟩, fun q m => ?_⟩
  rcases List.mem_cons.mp m with rfl | m
  · exact upd_same
  · rw [upd_ne (ne_of_none (c.at_ q m) h)]
    exact c.at_ q m
/-- one part of the cells, changed -/
theorem Cells.frame {H H' : Hp} {M1 M2 M2' M3 : List Cell} (c : Cells H (M1 ++ M2 ++ M3)) (d : Cells H' M2') (u : Upd (keys M2) (keys M2') H H') : Cells H' (M1 ++ M2' ++ M3) ∧ Upd (keys (M1 ++ M2 ++ M3)) (keys (M1 ++ M2' ++ M3)) H H' := by
  have nd := c.nd
  rw [keys_app, keys_app, List.append_assoc, List.nodup_append] at nd
  obtain ⟨n1, n23, dis1⟩ := nd
  rw [List.nodup_append] at n23
  obtain ⟨n2, n3, dis2⟩ := n23
  have a1 : ∀ x ∈ keys M1, ∃ o, H x = some o := fun x m => c.alive (by rw [keys_app, keys_app]; exact List.mem_append_left _ (List.mem_append_left _ m))
  have a3 : ∀ x ∈ keys M3, ∃ o, H x = some o := fun x m => c.alive (by rw [keys_app]; exact List.mem_append_right _ m)
  have out : ∀ x, (∃ o, H x = some o) → x ∉ keys M2 → x ∉ keys M2' := fun x ⟨o, e⟩ h m => (u.nw x m).elim h fun z => by rw [e] at z; cases z
  refine ⟨⟨?_, fun q m => ?_⟩, u.grow (fun x m => ?_) (fun x m => ?_)⟩
  · rw [keys_app, keys_app, List.append_assoc, List.nodup_append, List.nodup_append]
    refine ⟨n1, ⟨d.nd, n3, fun x h2 y h3 e => ?_⟩, fun x h1 y h23 e => ?_⟩
    · subst e
      exact out x (a3 x h3) (fun m => dis2 x m x h3 rfl) h2
    · subst e
      rcases List.mem_append.mp h23 with h2 | h3
      · exact out x (a1 x h1) (fun m => dis1 x h1 x (List.mem_append_left _ m) rfl) h2
      · exact dis1 x h1 x (List.mem_append_right _ h3) rfl
  · rcases List.mem_append.mp m with m | m
    · rcases List.mem_append.mp m with m | m
      · exact u.fr _ _ (c.at_ q (List.mem_append_left _ (List.mem_append_left _ m))) fun z => absurd rfl (dis1 _ (mem_keys m) _ (List.mem_append_left _ z))
      · exact d.at_ q m
    · exact u.fr _ _ (c.at_ q (List.mem_append_right _ m)) fun z => absurd rfl (dis2 _ z _ (mem_keys m))
  · rw [keys_app, keys_app]
    exact List.mem_append_left _ (List.mem_append_right _ m)
  · rw [keys_app, keys_app] at m
    rcases List.mem_append.mp m with m | m
    · rcases List.mem_append.mp m with m | m
      · exact .inl (by rw [keys_app, keys_app]; exact List.mem_append_left _ (List.mem_append_left _ m))
      · exact .inr m
    · exact .inl (by rw [keys_app]; exact List.mem_append_right _ m)
theorem Cells.set {H : Hp} {M1 M3 : List Cell} {a : Addr} {o o' : HO} (c : Cells H (M1 ++ (a, o) :: M3)) (n : imm o = false) : Cells (upd H a o') (M1 ++ (a, o') :: M3) ∧ Upd (keys (M1 ++ (a, o) :: M3)) (keys (M1 ++ (a, o') :: M3)) H (upd H a o') := by
  have h : H a = some o := c.get (by simp)
  have e : ∀ v : HO, M1 ++ (a, v) :: M3 = M1 ++ [(a, v)] ++ M3 := fun v => by simp
  rw [e] at c ⊢
  rw [e]
  exact c.frame (M2' := [(a, o')]) ⟨by simp [keys], fun q m => by rw [List.mem_singleton.mp m]; exact upd_same⟩ (Upd.one h n)
/-! ### steps from cells to cells -/
structure Run (H : Hp) (M : List Cell) (H' : Hp) (M' : List Cell) : Prop where
  c : Cells H' M'
  u : Upd (keys M) (keys M') H H'
section
variable {H H1 H2 : Hp} {M M1 M2 A B : List Cell} {a : Addr} {o o' : HO}
theorem Run.refl (c : Cells H M) : Run H M H M := ⟨c, Upd.refl _ _⟩
theorem Run.trans (r : Run H M H1 M1) (t : Run H1 M1 H2 M2) : Run H M H2 M2 := ⟨t.c, r.u.trans t.u⟩
theorem Run.im (r : Run H M H1 M1) : Im H H1 := r.u.im
theorem Run.same (r : Run H M H1 M1) (s : Same H1 H2) : Run H M H2 M1 := ⟨r.c.same s, r.u.trans (Upd.same s)⟩
theorem Run.add (r : Run H M H1 M1) (h : H1 a = none) : Run H M (upd H1 a o) ((a, o) :: M1) := ⟨r.c.add h, r.u.trans (Upd.of_same (same_upd h) fun x m => by
  rcases List.mem_cons.mp m with rfl | m
  · exact .inr h
  · exact .inl m)⟩
theorem Run.own {x dx : Addr} (r : Run H M H1 M1) (hx : H1 x = none) (hd : H1 dx = none) (n : x ≠ dx) : Run H M (upd (upd H1 dx (.own x)) x o) ((x, o) :: M1) := (r.same (same_upd hd)).add (by rw [upd_ne n]; exact hx)
theorem Run.set (r : Run H M H1 (A ++ (a, o) :: B)) (n : imm o = false) : Run H M (upd H1 a o') (A ++ (a, o') :: B) := by
  obtain ⟨c, u⟩ := r.c.set (o' := o') n
  exact ⟨c, r.u.trans u⟩
theorem Run.perm (r : Run H M H1 M1) (p : M1.Perm M2) : Run H M H1 M2 := ⟨r.c.perm p, r.u.trans ⟨fun _ _ e _ => e, fun _ m => .inl ((p.map _).mem_iff.mpr m)⟩⟩
theorem Run.sub (r : Run H M H1 M1) (s : M2.Sublist M1) : Run H M H1 M2 := ⟨r.c.sub s, r.u.trans ⟨fun _ _ e _ => e, fun _ m => .inl ((s.map _).subset m)⟩⟩
theorem Run.frame {N N' : List Cell} (r : Run H M H1 (A ++ N ++ B)) (t : Run H1 N H2 N') : Run H M H2 (A ++ N' ++ B) := by
  obtain ⟨c, u⟩ := r.c.frame t.c t.u
  exact ⟨c, r.u.trans u⟩
theorem Run.frameR {N N' : List Cell} (r : Run H M H1 (A ++ N)) (t : Run H1 N H2 N') : Run H M H2 (A ++ N') := by
  have := Run.frame (B := []) (by rw [List.append_nil]; exact r) t
  rw [List.append_nil] at this
  exact this
theorem Run.frameL {N N' : List Cell} (r : Run H M H1 (N ++ B)) (t : Run H1 N H2 N') : Run H M H2 (N' ++ B) := Run.frame (A := []) r t
theorem Cells.left {A B : List Cell} (c : Cells H (A ++ B)) : Cells H A := c.sub (List.sublist_append_left _ _)
theorem Cells.right {A B : List Cell} (c : Cells H (A ++ B)) : Cells H B := c.sub (List.sublist_append_right _ _)
end
theorem Run.new {H H1 H2 : Hp} {M M1 : List Cell} {a : Addr} {o : HO} (r : Run H M H1 M1) (s : Same H1 H2) (h : H1 a = none) (e : H2 a = some o) : Run H M H2 ((a, o) :: M1) := by
  refine ⟨⟨List.nodup_cons.mpr ⟨r.c.fresh h, r.c.nd⟩, fun q m => ?_⟩, r.u.trans (Upd.of_same s fun x m => ?_)⟩
  · rcases List.mem_cons.mp m with rfl | m
    · exact e
    · exact s _ _ (r.c.at_ q m)
  · rcases List.mem_cons.mp m with rfl | m
    · exact .inr h
    · exact .inl m
/-- what stands at the rows of what is sent -/
def RwI (H : Hp) : List Addr → List (Str × Str) → Prop
  | [], [] => True
  | t :: ts, z :: zs => H t = some (.tup [.str z.1, .str z.2]) ∧ RwI H ts zs
  | _, _ => False
theorem RwI.im {H H' : Hp} (s : Im H H') : ∀ {ts : List Addr} {zs : List (Str × Str)}, RwI H ts zs → RwI H' ts zs
  | [], [], _ => trivial
  | _ :: _, _ :: _, h => ⟨s _ _ h.1 rfl, h.2.im s⟩
  | [], _ :: _, h => h.elim
  | _ :: _, [], h => h.elim
theorem RwI.len {H : Hp} : ∀ {ts : List Addr} {zs : List (Str × Str)}, RwI H ts zs → ts.length = zs.length
  | [], [], _ => rfl
  | _ :: _, _ :: _, h => congrArg (· + 1) h.2.len
  | [], _ :: _, h => h.elim
  | _ :: _, [], h => h.elim
theorem RwI.app {H : Hp} : ∀ {ts ts' : List Addr} {zs zs' : List (Str × Str)}, RwI H ts zs → RwI H ts' zs' → RwI H (ts ++ ts') (zs ++ zs')
  | [], _, [], _, _, k => k
  | _ :: _, _, _ :: _, _, h, k => ⟨h.1, h.2.app k⟩
  | [], _, _ :: _, _, h, _ => h.elim
  | _ :: _, _, [], _, h, _ => h.elim
theorem RwI.one {H : Hp} {t : Addr} {a b : Str} (e : H t = some (.tup [.str a, .str b])) : RwI H [t] [(a, b)] := ⟨e, trivial⟩
end TKC
set_option maxHeartbeats 2000000
/-! heads of large texts: what a head looks at, each level from the one before, with no search for what is there twice -/
namespace TKH
open PySem PySem.Spec PyProof.Rows L2 SX TK
def refsL (g : Addr → Option Obj) (as : List Addr) : List Addr := as.flatMap fun a => match g a with
  | some o => He.refsD o
  | none => []
def asN (g : Addr → Option Obj) : Nat → List Addr → List Addr
  | 0, as => as
  | n + 1, as => as ++ asN g n (refsL g as)
def obsN (n : Nat) (fa : List He.Fa) (fn : List He.DefD) (ex : PySem.W.Frag → List Bool) (g : Addr → Option Obj) : He.AlD :=
  ((He.obsD fa fn (He.frG g (asN g n [mainGlobals]))).1 && (ex (He.frG g (asN g n [mainGlobals]))).all id, (He.obsD fa fn (He.frG g (asN g n [mainGlobals]))).2)
def hookN (n : Nat) (fa : List He.Fa) (fn : List He.DefD) (ex : PySem.W.Frag → List Bool) : PySem.W.Hook where
  α := He.AlD
  obs s := obsN n fa fn ex s.heap.get?
  val _ := He.valD fn
  says _ h := ∃ K : PySem.W.Frag, K.In h ∧ He.SaysD fa fn K ∧ (ex K).all id = true
  of _ _ e := by
    have e1 := congrArg (fun z : He.AlD => z.1) e
    have e2 := congrArg (fun z : He.AlD => z.2) e
    obtain ⟨a, b⟩ := Bool.and_eq_true_iff.mp e1
    exact ⟨_, He.frG_in, Prod.ext a e2, b⟩
  keeps _ _ _ c k := let ⟨K, hK, c1, c2⟩ := c; ⟨K, PySem.W.Frag.In.keeps hK k, c1, c2⟩
theorem obsN_eq {n : Nat} {fa : List He.Fa} {fn : List He.DefD} {ex : PySem.W.Frag → List Bool} {g : Addr → Option Obj} {s : Shared} (h : ∀ a, g a = s.heap.get? a) : obsN n fa fn ex g = (hookN n fa fn ex).obs s := by
  obtain rfl : g = s.heap.get? := funext h
  rfl
end TKH
set_option maxHeartbeats 4000000
set_option pp.maxSteps 400
namespace K7
open PySem PySem.Spec PyProof.Rows L2 SX TK TKS TKC
open C8 (pe_c)
/-! ### the law's source of draws -/
def spState (K : PySem.W.Frag) : Sp := fun vs H Q _ => ∃ (a : Addr) (ns : List Int), vs = [.ref a] ∧ SqL K H a (ns.map V.int) ∧ ns.length ≤ 63 ∧ ∀ s c H', Same H H' → H s = none → H c = none → StAt H' s c → Q (.ref s) H'
theorem ok_law_state {P : Program} {w : World} {K : PySem.W.Frag} {mg : Str → Option Value} {base : Heap} {f : Addr} {fd : FuncData} (T : Tx K mg) 
    (F : FunD K "_law_state" "_law_state" (defArgs s_law_state) (defBody s_law_state) (defScope s_law_state) [] [] f fd) : FnOk P w K mg base CX0 1 f fd ["script"] (spState K) := by
  refine F.ok sc_law_state (fun vs H Q E h => ?_) (fun cdv A outer s H vs Q E hr h => ?_)
  · obtain ⟨a, ns, rfl, _⟩ := h
    rfl
  · obtain ⟨a, ns, rfl, hS, hn, k⟩ := h
    refine ⟨_, PSs.nox (pss_cons (ps_set (i := 1) sc_law_state.nd rfl (Or.inl rfl) pe_int) (pss_cons (ps_for PassesOwn.never rfl (pi_list (pv 0)) (pg_name (i := 2) sc_law_state.nd rfl (Or.inl rfl)) (pss_one (ps_set (i := 1) sc_law_state.nd rfl (Or.inl rfl) (pe_op op_mod (pe_callTy call_int1 rfl T.f_int (by decide +kernel) (pa_cons (pe_op op_add (pe_op op_mul (pv 1) pe_int) (pv 2)) pa_nil)) pe_int)))) (pss_one (ps_ret (pe_lst (pa_cons (pe_lc (own := [("cell", 2)]) (g := gName 2) rfl sc_law_state.nd (pi_list (pv 0)) (blkOk_by (own := [("cell", 2)]) (N := ["script", "seed", "cell"]) (sc := defScope s_law_state) (by decide +kernel)) (fun _ _ _ _ _ => pg_name (i := 2) sc_law_state.nd rfl (Or.inl rfl)) (fun _ _ _ _ _ => pts_nil) (fun _ _ _ _ _ => (pe_callB call_abs rfl T.f_abs (by decide +kernel) (pa_cons (pv 2) pa_nil)))) (pa_cons (pe_op op_add (pv 1) pe_int) pa_nil))))))), ?_⟩
    refine ⟨_, rfl, a, rfl, ⟨_, hS⟩, for_list (K := K) (a := a) (xs := ns.map V.int) (fun i σ H' => H' = H ∧ ∃ (n : Int) (v : Option V), σ = [some (.ref a), some (.int n), v]) ⟨rfl, 7, none, rfl⟩ (fun i σ H' _ q => q.1 ▸ hS) ?_ ?_⟩
    · rintro i y σ H' hi ⟨rfl, n, v, rfl⟩
      obtain ⟨z, rfl⟩ : ∃ z, y = V.int z := by
        obtain ⟨z, _, e⟩ := List.mem_map.mp (List.mem_of_getElem? hi)
        exact ⟨z, e.symm⟩
      refine ⟨_, rfl, _, _, rfl, rfl, .inr ⟨by decide, by decide⟩, _, rfl, _, _, rfl, rfl, .inl ⟨_, rfl, _, _, rfl, rfl, (by show (0 : Int) < 1000003; decide), rfl, _, _, rfl⟩⟩
    · rintro σ H' ⟨rfl, n, v, rfl⟩
      refine ⟨_, rfl, a, rfl, ⟨_, hS⟩, fun D hD => ?_⟩
      have hS2 : ∀ o, SqL K (upd H' D o) a (ns.map V.int) := fun o => (same_upd hD).seq hS
      refine lc_pureN walk_list (fun i => V.int (if ns.getD i 0 < 0 then -(ns.getD i 0) else ns.getD i 0)) (by rw [List.length_map]; exact Nat.le_trans hn (by decide)) (fun _ _ => hS2 _) (fun i x H1 kk hi y q => ?_) ?_
      · obtain ⟨rfl, hx⟩ := y
        refine ⟨rfl, _, rfl, ns.getD i 0, ?_, q⟩
        rw [List.getElem?_map] at hx
        rw [List.length_map] at hi
        rw [List.getElem?_eq_getElem hi] at hx
        rw [List.getD_eq_getElem?_getD, List.getElem?_eq_getElem hi]
        exact congrArg (fun v => [v]) (Option.some.inj hx).symm
      · refine ⟨_, rfl, _, _, rfl, rfl, by show 2 ≤ sizeLine; decide, fun p hp => ?_⟩
        have npD : p ≠ D := fun e => by
          rw [e, upd_same] at hp
          cases hp
        have hp0 : H' p = none := by
          rw [upd_ne npD] at hp
          exact hp
        refine k p D _ ((same_upd hD).trans (same_upd hp)) hp0 hD ⟨npD, ⟨_, upd_same⟩, ns.map (fun i => if i < 0 then -i else i), ?_, ?_⟩
        · rw [upd_ne npD.symm, upd_same, List.length_map, List.map_map]
          exact congrArg (fun l => some (HO.lst l)) (range_map_getD ns 0 fun i => V.int (if i < 0 then -i else i))
        · rw [List.length_map]
          exact hn
def spDraw : Sp := fun vs H Q _ => ∃ (s c : Addr) (m : Int), vs = [.ref s, .int m] ∧ StAt H s c ∧ 0 < m ∧ m < 1073741824 ∧ ∀ r H', 0 ≤ r → r < m → StAt H' s c → Keep H H' s c → Q (.int r) H'
theorem ok_law_draw {P : Program} {w : World} {K : PySem.W.Frag} {mg : Str → Option Value} {base : Heap} {f : Addr} {fd : FuncData} (T : Tx K mg) 
    (F : FunD K "_law_draw" "_law_draw" (defArgs s_law_draw) (defBody s_law_draw) (defScope s_law_draw) [] [] f fd) : FnOk P w K mg base CX0 1 f fd ["state", "many"] spDraw := by
  refine F.ok sc_law_draw (fun vs H Q E h => ?_) (fun cdv A outer s0 H vs Q E hr h => ?_)
  · obtain ⟨s, c, m, rfl, _⟩ := h
    rfl
  · obtain ⟨s, c, m, rfl, ⟨ne, ⟨n, h1⟩, ns, h2, h3⟩, hm0, hm1, k⟩ := h
    refine ⟨_, PSs.nox (pss_cons (ps_set (i := 2) sc_law_draw.nd rfl (Or.inl rfl) (pe_ix ix_list (pv 0) pe_int (fun _ _ => rfl))) (C8.pss_cut (ps_while PassesOwn.never (PW.pt (pw_and (pt_cmpR op_gt (pe_callB call_len_seq rfl T.f_len PySem.boot_len (pa_cons (pv 2) pa_nil)) pe_int (nomark _)) (pw_and1 (pt_cmpR op_eq (pe_ix ix_list (pv 2) pe_int (fun _ _ => rfl)) pe_int (nomark _))))) (pss_one (ps_expr (pe_bm PySem.F.plainAttrs_list PySem.F.slot_list_pop PySem.F.type_list_pop mt_popAt (pv 2) (pa_cons pe_int pa_nil))))) (C8.pss_cut (ps_if (pt_cmpR op_gt (pe_callB call_len_seq rfl T.f_len PySem.boot_len (pa_cons (pv 2) pa_nil)) pe_int (nomark _)) (pss_cons (ps_set (i := 3) sc_law_draw.nd rfl (Or.inl rfl) (pe_ix ix_list (pv 2) pe_int (fun _ _ => rfl))) (pss_cons (ps_asg (pe_op op_fdiv (pv 3) (pv 1)) (pg_sub (pv 2) pe_int set_list)) (pss_one (ps_ret (pe_op op_mod (pe_callTy call_int1 rfl T.f_int (by decide +kernel) (pa_cons (pv 3) pa_nil)) (pv 1)))))) pss_nil) (pss_cons (ps_set (i := 4) sc_law_draw.nd rfl (Or.inl rfl) (pe_op op_mod (pe_callTy call_int1 rfl T.f_int (by decide +kernel) (pa_cons (pe_op op_add (pe_op op_mul (pe_ix ix_list (pv 0) pe_int (fun _ _ => rfl)) pe_int) pe_int) pa_nil)) pe_int)) (pss_cons (ps_asg (pv 4) (pg_sub (pv 0) pe_int set_list)) (pss_one (ps_ret (pe_op op_mod (pe_callTy call_int1 rfl T.f_int (by decide +kernel) (pa_cons (pe_op op_fdiv (pv 4) pe_int) pa_nil)) (pv 1))))))))), ?_⟩
    refine ⟨_, rfl, s, _, 0, _, rfl, rfl, SqL.of h1, rfl, ?_⟩
    let I : L2.St → Hp → List Int → Prop := fun σ H' ns' => σ = [some (.ref s), some (.int m), some (.ref c), none, none] ∧ H' s = some (.lst [.ref c, .int n]) ∧ Keep H H' s c ∧ H' c = some (.lst (ns'.map V.int)) ∧ ns'.length ≤ 63
    refine ⟨fun σ H' => ∃ ns', I σ H' ns', ?_, ?_⟩
    · refine ⟨fun l σ H' => ∃ ns', l = ns'.length ∧ I σ H' ns', ⟨ns.length, ns, rfl, rfl, h1, Keep.refl _ _ _, h2, h3⟩, ?_⟩
      rintro l σ H' ⟨ns', rfl, rfl, g1, kp, g2, g3⟩
      refine ⟨_, rfl, c, _, rfl, .inl (SqL.of g2), _, _, rfl, rfl, _, rfl, ?_⟩
      cases ns' with
      | nil => exact iteF (iteF ⟨[], rfl, g1, kp, g2, g3⟩)
      | cons v r =>
        rw [List.length_map, decide_eq_true (by rw [List.length_cons]; omega)]
        refine iteT ?_
        refine ⟨_, rfl, c, _, 0, V.int v, rfl, rfl, SqL.of g2, atC _ _, rfl, _, rfl, ?_⟩
        refine ite2 (fun h5 => ?_) (fun h5 => ⟨v :: r, rfl, g1, kp, g2, g3⟩)
        refine ⟨fun σ' H2 => ∃ l, l < (v :: r).length ∧ ∃ ns', l = ns'.length ∧ I σ' H2 ns', fun _ _ q => q, ?_⟩
        refine ⟨_, rfl, .inl ⟨rfl, _, SqL.of g2⟩, c, _, 0, 0, V.int v, rfl, rfl, g2, by decide, by decide, sqC _ _, rfl, ?_⟩
        refine ⟨r.length, Nat.lt_succ_self _, r, rfl, rfl, ?_, fun b o e q1 q2 => ?_, upd_same, Nat.le_of_succ_le g3⟩
        · rw [upd_ne ne]
          exact g1
        · rw [upd_ne q2]
          exact kp b o e q1 q2
    · rintro σ H' ⟨ns', rfl, g1, kp, g2, g3⟩
      refine ⟨fun σ' H2 => σ' = [some (.ref s), some (.int m), some (.ref c), none, none] ∧ H2 = H', ?_, ?_⟩
      · refine ⟨_, rfl, c, _, rfl, .inl (SqL.of g2), _, _, rfl, rfl, _, rfl, ?_⟩
        cases ns' with
        | nil => exact iteF ⟨rfl, rfl⟩
        | cons v r =>
          rw [List.length_map, decide_eq_true (by rw [List.length_cons]; omega)]
          refine iteT ?_
          refine ⟨_, rfl, c, _, 0, V.int v, rfl, rfl, SqL.of g2, atC _ _, ?_⟩
          refine ⟨_, rfl, _, rfl, _, _, rfl, rfl, ⟨hm0, hm1⟩, _, rfl, c, _, 0, 0, rfl, rfl, g2, ixC _ _, ?_⟩
          refine ⟨_, rfl, .inl ⟨_, rfl, _, rfl, _, _, rfl, rfl, hm0, ?_⟩⟩
          refine k _ _ (Int.emod_nonneg _ (by omega)) (Int.emod_lt_of_pos _ hm0) ⟨ne, ⟨n, ?_⟩, (v / m) :: r, upd_same, g3⟩ (fun b o e q1 q2 => ?_)
          · rw [upd_ne ne]
            exact g1
          · rw [upd_ne q2]
            exact kp b o e q1 q2
      · rintro σ' H2 ⟨rfl, rfl⟩
        refine ⟨_, rfl, s, _, 1, _, rfl, rfl, SqL.of g1, rfl, _, _, rfl, rfl, .inr ⟨by decide, by decide⟩, _, _, rfl, rfl, .inl ⟨_, rfl, _, _, rfl, rfl, (by show (0 : Int) < 2147483647; decide), ?_⟩⟩
        refine ⟨_, rfl, _, rfl, s, _, 1, 1, rfl, rfl, g1, rfl, ?_⟩
        refine ⟨_, rfl, _, _, rfl, rfl, ⟨by decide, by decide⟩, .inl ⟨_, rfl, _, rfl, _, _, rfl, rfl, hm0, ?_⟩⟩
        refine k _ _ (Int.emod_nonneg _ (by omega)) (Int.emod_lt_of_pos _ hm0) ⟨ne, ⟨_, upd_same⟩, ns', ?_, g3⟩ (fun b o e q1 q2 => ?_)
        · rw [upd_ne ne.symm]
          exact g2
        · rw [upd_ne q1]
          exact kp b o e q1 q2
/-- of a text: one of its signs; of a list: one of its items -/
def spPick : Sp := fun vs H Q _ => ∃ (s c : Addr) (x : V), vs = [.ref s, x] ∧ StAt H s c ∧
  ((∃ z : Str, x = .str z ∧ 0 < z.length ∧ z.length ≤ 1000 ∧ ∀ ch H', ch ∈ TL.tl z → StAt H' s c → Keep H H' s c → Q (.str (S [ch])) H') ∨
   (∃ a xs, x = .ref a ∧ H a = some (.lst xs) ∧ a ≠ s ∧ a ≠ c ∧ 0 < xs.length ∧ xs.length ≤ 1000 ∧ ∀ v ∈ xs, ∀ H', StAt H' s c → Keep H H' s c → Q v H'))
theorem ok_law_pick {P : Program} {w : World} {K : PySem.W.Frag} {mg : Str → Option Value} {base : Heap} {f : Addr} {fd : FuncData} (T : Tx K mg) (c_law_draw : C8.Cal P w K mg base 1 "_law_draw" spDraw [])
    (F : FunD K "_law_pick" "_law_pick" (defArgs s_law_pick) (defBody s_law_pick) (defScope s_law_pick) [] [] f fd) : FnOk P w K mg base CX0 2 f fd ["state", "row"] spPick := by
  refine F.ok sc_law_pick (fun vs H Q E h => ?_) (fun cdv A outer s0 H vs Q E hr h => ?_)
  · obtain ⟨s, c, x, rfl, _⟩ := h
    rfl
  · obtain ⟨s, c, x, rfl, hst, h⟩ := h
    refine ⟨_, PSs.nox (pss_one (ps_ret (pe_ix ix_seq (pv 1) (pe_c c_law_draw hr (by decide) rfl (pa_cons (pv 0) (pa_cons (pe_callB call_len rfl T.f_len PySem.boot_len (pa_cons (pv 1) pa_nil)) pa_nil))) (fun _ _ => rfl)))), ?_⟩
    rcases h with ⟨z, rfl, z0, z1, k⟩ | ⟨a, xs, rfl, ha, as, ac, x0, x1, k⟩
    · have hz2 : z.length ≤ sizeLine := Nat.le_trans z1 (by decide)
      refine ⟨_, rfl, _, rfl, _, rfl, _, z.length, rfl, ⟨hz2, rfl⟩, s, c, _, rfl, hst, by omega, by omega, fun r H' r0 r1 st' kp' => ?_⟩
      have hl : r < ((TL.tl z).length : Nat) := by rw [← len_eq]; exact r1
      refine .inr (.inr ⟨z, r, _, rfl, rfl, hz2, atN 0 r0 hl, ?_⟩)
      refine k _ H' ?_ st' kp'
      have hl2 : r.toNat < (TL.tl z).length := by omega
      rw [List.getD_eq_getElem?_getD, List.getElem?_eq_getElem hl2]
      exact List.getElem_mem _
    · have hx2 : xs.length ≤ sizeLine := Nat.le_trans x1 (by decide)
      refine ⟨_, rfl, _, rfl, _, rfl, _, xs.length, rfl, .inl ⟨xs, SqL.of ha, rfl⟩, s, c, _, rfl, hst, by omega, by omega, fun r H' r0 r1 st' kp' => ?_⟩
      refine .inl ⟨a, xs, r, _, rfl, rfl, SqL.of (kp' a _ ha as ac), atN .non r0 r1, ?_⟩
      refine k _ ?_ H' st' kp'
      rw [List.getD_eq_getElem?_getD, List.getElem?_eq_getElem (by omega)]
      exact List.getElem_mem _

/-! ### waits -/
def wfl (b f g d : Int) : List (Str × V) := [("_began", .int b), ("_first", .int f), ("_gap", .int g), ("_due", .int d)]
instance {b f g d : Int} : SmallF (wfl b f g d) 4 := ⟨Nat.le_refl _⟩
def WtAt (K : PySem.W.Frag) (H : Hp) (a : Addr) (b f g d : Int) : Prop := ∃ dx, H a = some (.ins (He.ga K "Wait") dx (wfl b f g d))
def spWaitInit (K : PySem.W.Frag) : Sp := fun vs H Q _ => ∃ (p dx : Addr) (now f : Int), vs = [.ref p, .int now, .int f] ∧ H p = some (.ins (He.ga K "Wait") dx []) ∧ Q .non (upd H p (.ins (He.ga K "Wait") dx (wfl now f f (now + f))))
theorem ok_Wait___init {P : Program} {w : World} {K : PySem.W.Frag} {mg : Str → Option Value} {base : Heap} {f : Addr} {fd : FuncData} (T : Tx K mg) 
    (F : FunD K "__init__" "Wait.__init__" (defArgs s_Wait___init) (defBody s_Wait___init) (defScope s_Wait___init) [] [] f fd) : FnOk P w K mg base CX0 1 f fd ["self", "now", "first"] (spWaitInit K) := by
  refine F.ok sc_Wait___init (fun vs H Q E h => ?_) (fun cdv A outer s H vs Q E hr h => ?_)
  · obtain ⟨p, dx, now, f, rfl, _⟩ := h
    rfl
  · obtain ⟨p, dx, now, f, rfl, hp, k⟩ := h
    refine ⟨_, PSs.nox (pss_cons (ps_fldC rfl T.cl_Wait T.na_Wait__began (pv 0) (pv 1) rfl) (pss_cons (ps_fldC rfl T.cl_Wait T.na_Wait__first (pv 0) (pv 2) rfl) (pss_cons (ps_fldC rfl T.cl_Wait T.na_Wait__gap (pv 0) (pv 2) rfl) (pss_one (ps_fldC rfl T.cl_Wait T.na_Wait__due (pv 0) (pe_op op_add (pv 1) (pv 2)) rfl))))), ?_⟩
    refine ⟨_, rfl, _, rfl, p, dx, _, rfl, hp, sm, ?_⟩
    refine ⟨_, rfl, _, rfl, p, dx, _, rfl, upd_same, sm, ?_⟩
    refine ⟨_, rfl, _, rfl, p, dx, _, rfl, upd_same, sm, ?_⟩
    refine ⟨_, rfl, _, rfl, _, _, rfl, rfl, _, rfl, p, dx, _, rfl, upd_same, sm, ?_⟩
    simp only [upd_upd]
    exact k
def minI (i j : Int) : Int := if j < i then j else i
def spRepeats (K : PySem.W.Frag) : Sp := fun vs H Q _ => ∃ (a : Addr) (b f g d now : Int), vs = [.ref a, .int now] ∧ WtAt K H a b f g d ∧
  ((now < d ∧ Q (.bl false) H) ∨ (¬ now < d ∧ ∀ H', WtAt K H' a b f (minI (2 * g) (8 * f)) (now + minI (2 * g) (8 * f)) → (∀ c o, H c = some o → c ≠ a → H' c = some o) → Q (.bl true) H'))
theorem ok_Wait_repeats {P : Program} {w : World} {K : PySem.W.Frag} {mg : Str → Option Value} {base : Heap} {f : Addr} {fd : FuncData} (T : Tx K mg) 
    (F : FunD K "repeats" "Wait.repeats" (defArgs s_Wait_repeats) (defBody s_Wait_repeats) (defScope s_Wait_repeats) [] [] f fd) : FnOk P w K mg base CX0 1 f fd ["self", "now"] (spRepeats K) := by
  refine F.ok sc_Wait_repeats (fun vs H Q E h => ?_) (fun cdv A outer s H vs Q E hr h => ?_)
  · obtain ⟨a, b, f, g, d, now, rfl, _⟩ := h
    rfl
  · obtain ⟨a, b, f, g, d, now, rfl, ⟨dx, hp⟩, h⟩ := h
    refine ⟨_, PSs.nox (C8.pss_cut (ps_if (pt_cmpR op_lt (pv 1) (pe_fldC rfl T.cl_Wait T.na_Wait__due (pv 0) rfl) (nomark _)) (pss_one (ps_ret pe_bl)) pss_nil) (pss_cons (ps_fldC rfl T.cl_Wait T.na_Wait__gap (pv 0) (pe_callB (call_min2 rfl) rfl T.f_min (by decide +kernel) (pa_cons (pe_op op_mul pe_int (pe_fldC rfl T.cl_Wait T.na_Wait__gap (pv 0) rfl)) (pa_cons (pe_op op_mul (pgI T.g_GREATEST_GAP) (pe_fldC rfl T.cl_Wait T.na_Wait__first (pv 0) rfl)) pa_nil))) rfl) (pss_cons (ps_fldC rfl T.cl_Wait T.na_Wait__due (pv 0) (pe_op op_add (pv 1) (pe_fldC rfl T.cl_Wait T.na_Wait__gap (pv 0) rfl)) rfl) (pss_one (ps_ret pe_bl))))), ?_⟩
    rcases h with ⟨h1, k⟩ | ⟨h1, k⟩
    · refine ⟨fun _ _ => False, ?_, fun _ _ z => z.elim⟩
      refine ⟨_, rfl, _, rfl, a, dx, _, _, rfl, hp, rfl, _, _, rfl, rfl, _, rfl, ?_⟩
      rw [decide_eq_true h1]
      exact iteT k
    · refine ⟨fun σ' H' => σ' = [some (.ref a), some (.int now)] ∧ H' = H, ?_, ?_⟩
      · refine ⟨_, rfl, _, rfl, a, dx, _, _, rfl, hp, rfl, _, _, rfl, rfl, _, rfl, ?_⟩
        rw [decide_eq_false h1]
        exact iteF ⟨rfl, rfl⟩
      rintro σ' H' ⟨rfl, rfl⟩
      refine ⟨_, rfl, a, dx, _, _, rfl, hp, rfl, _, _, rfl, rfl, .inl ⟨by decide, by decide⟩, _, rfl, a, dx, _, _, rfl, hp, rfl, _, _, rfl, rfl, .inl ⟨by decide, by decide⟩, _, _, rfl, _, rfl, a, dx, _, rfl, hp, sm, ?_⟩
      refine ⟨_, rfl, _, rfl, a, dx, _, _, rfl, upd_same, rfl, _, _, rfl, rfl, _, rfl, a, dx, _, rfl, upd_same, sm, ?_⟩
      rw [upd_upd]
      refine k _ ⟨dx, upd_same⟩ fun c o e hc => ?_
      rw [upd_ne hc]
      exact e
def spIsUp (K : PySem.W.Frag) : Sp := fun vs H Q _ => ∃ (a : Addr) (b f g d now : Int), vs = [.ref a, .int now] ∧ WtAt K H a b f g d ∧ Q (.bl (decide (32 * f ≤ now - b))) H
theorem ok_Wait_is_up {P : Program} {w : World} {K : PySem.W.Frag} {mg : Str → Option Value} {base : Heap} {f : Addr} {fd : FuncData} (T : Tx K mg) 
    (F : FunD K "is_up" "Wait.is_up" (defArgs s_Wait_is_up) (defBody s_Wait_is_up) (defScope s_Wait_is_up) [] [] f fd) : FnOk P w K mg base CX0 1 f fd ["self", "now"] (spIsUp K) := by
  refine F.ok sc_Wait_is_up (fun vs H Q E h => ?_) (fun cdv A outer s H vs Q E hr h => ?_)
  · obtain ⟨a, b, f, g, d, now, rfl, _⟩ := h
    rfl
  · obtain ⟨a, b, f, g, d, now, rfl, ⟨dx, hp⟩, k⟩ := h
    refine ⟨_, PSs.nox (pss_one (ps_ret (pe_cmpR op_ge (pe_op op_sub (pv 1) (pe_fldC rfl T.cl_Wait T.na_Wait__began (pv 0) rfl)) (pe_op op_mul (pgI T.g_LIMIT) (pe_fldC rfl T.cl_Wait T.na_Wait__first (pv 0) rfl)) (nomark _)))), ?_⟩
    exact ⟨_, rfl, _, rfl, a, dx, _, _, rfl, hp, rfl, _, _, rfl, rfl, _, rfl, a, dx, _, _, rfl, hp, rfl, _, _, rfl, rfl, .inl ⟨by decide, by decide⟩, _, _, rfl, rfl, k⟩

def spFinal : Sp := fun vs H Q _ => ∃ c : Int, vs = [.int c] ∧ Q (.bl (decide (c ≥ 20))) H
theorem ok_is_final {P : Program} {w : World} {K : PySem.W.Frag} {mg : Str → Option Value} {base : Heap} {f : Addr} {fd : FuncData} (T : Tx K mg) 
    (F : FunD K "is_final" "is_final" (defArgs s_is_final) (defBody s_is_final) (defScope s_is_final) [] [] f fd) : FnOk P w K mg base CX0 1 f fd ["code"] spFinal := by
  refine F.ok sc_is_final (fun vs H Q E h => ?_) (fun cdv A outer s H vs Q E hr h => ?_)
  · obtain ⟨c, rfl, _⟩ := h
    rfl
  · obtain ⟨c, rfl, k⟩ := h
    refine ⟨_, PSs.nox (pss_one (ps_ret (pe_cmpR op_ge (pv 0) (pgI T.g_LEAST_FINAL_CODE) (nomark _)))), ?_⟩
    exact ⟨_, rfl, _, _, rfl, rfl, k⟩
end K7
set_option maxHeartbeats 4000000
set_option pp.maxSteps 400
namespace K7
open PySem PySem.Spec PyProof.Rows L2 SX TK TKS TKC
open C8 (pe_c)
/-! ### clients -/
theorem vstr (a b : Str) : decide (V.str a = V.str b) = decide (a = b) := by
  by_cases h : a = b
  · rw [h, decide_eq_true rfl, decide_eq_true rfl]
  · rw [decide_eq_false h, decide_eq_false fun e => h (V.str.inj e)]
inductive CS where | cl | wt | sp | fn | ov
  deriving DecidableEq
def CS.s : CS → Str | .cl => "calling" | .wt => "waiting" | .sp => "stopping" | .fn => "final" | .ov => "over"
structure ClR where
  p : Addr
  dx : Addr
  la : Addr
  wa : Addr
  wx : Addr
  ka : Addr
  L : Ltr
  o : Option Off
  pl : Str
  f : Int
  st : CS
  b : Int
  g : Int
  d : Int
  kl : List Addr
  kz : Str
def clfl (la : Addr) (pl st : Str) (f : Int) (wa ka : Addr) : List (Str × V) := [("letter", .ref la), ("place", .str pl), ("state", .str st), ("_first", .int f), ("_wait", .ref wa), ("_keep", .ref ka)]
instance {la : Addr} {pl st : Str} {f : Int} {wa ka : Addr} : SmallF (clfl la pl st f wa ka) 6 := ⟨Nat.le_refl _⟩
def clO (K : PySem.W.Frag) (c : ClR) : HO := .ins (He.ga K "Client") c.dx (clfl c.la c.pl c.st.s c.f c.wa c.ka)
def wtO (K : PySem.W.Frag) (c : ClR) : HO := .ins (He.ga K "Wait") c.wx (wfl c.b c.f c.g c.d)
def clM (K : PySem.W.Frag) (c : ClR) : List Cell := [(c.p, clO K c), (c.wa, wtO K c), (c.ka, .lst (c.kl.map V.ref))]
/-- what a client rests on that does not change -/
structure ClI (K : PySem.W.Frag) (H : Hp) (c : ClR) : Prop where
  lt : LetAt K H c.la c.L
  of : OffO H c.L.offer c.o
  lk : LOk c.L
  xk : XOk c.L c.o
  kn : c.kl.length ≤ 1
  kt : ∀ t ∈ c.kl, H t = some (.tup [.str c.pl, .str c.kz])
theorem LetAt.im {K : PySem.W.Frag} {H H' : Hp} {a : Addr} {L : Ltr} (h : LetAt K H a L) (s : Im H H') : LetAt K H' a L := by
  obtain ⟨dx, e⟩ := h
  exact ⟨dx, s _ _ e rfl⟩
theorem OffAt.im {H H' : Hp} {x : V} {o : Off} (h : OffAt H x o) (s : Im H H') : OffAt H' x o := by
  obtain ⟨p, f, e, e1, e2⟩ := h
  exact ⟨p, f, e, s _ _ e1 rfl, s _ _ e2 rfl⟩
theorem OffO.im {H H' : Hp} {x : V} {o : Option Off} (h : OffO H x o) (s : Im H H') : OffO H' x o := by
  cases o with
  | none => exact h
  | some o => exact OffAt.im h s
theorem ClI.im {K : PySem.W.Frag} {H H' : Hp} {c : ClR} (h : ClI K H c) (s : Im H H') : ClI K H' c := ⟨h.lt.im s, h.of.im s, h.lk, h.xk, h.kn, fun t m => s _ _ (h.kt t m) rfl⟩
def newC (p dx la wa wx ka : Addr) (L : Ltr) (o : Option Off) (pl : Str) (f now : Int) : ClR := ⟨p, dx, la, wa, wx, ka, L, o, pl, f, .cl, now, f, now + f, [], ""⟩
def cl4 (la : Addr) (pl : Str) (f : Int) : List (Str × V) := [("letter", .ref la), ("place", .str pl), ("state", .str "calling"), ("_first", .int f)]
def cl5 (la x : Addr) (pl : Str) (f : Int) : List (Str × V) := [("letter", .ref la), ("place", .str pl), ("state", .str "calling"), ("_first", .int f), ("_wait", .ref x)]
instance {la : Addr} {pl : Str} {f : Int} : SmallF (cl4 la pl f) 4 := ⟨Nat.le_refl _⟩
instance {la x : Addr} {pl : Str} {f : Int} : SmallF (cl5 la x pl f) 5 := ⟨Nat.le_refl _⟩
theorem cells1 {H : Hp} {a : Addr} {o : HO} (h : H a = some o) : Cells H [(a, o)] := ⟨by simp [keys], fun q m => by rw [List.mem_singleton.mp m]; exact h⟩
def spClInit (K : PySem.W.Frag) : Sp := fun vs H Q _ => ∃ (p dx la : Addr) (pl : Str) (now f : Int), vs = [.ref p, .ref la, .str pl, .int now, .int f] ∧ H p = some (.ins (He.ga K "Client") dx []) ∧
  ∀ wa wx ka H', (∀ L o, Run H [(p, .ins (He.ga K "Client") dx [])] H' (clM K (newC p dx la wa wx ka L o pl f now))) → Q .non H'
theorem ok_Client___init {P : Program} {w : World} {K : PySem.W.Frag} {mg : Str → Option Value} {base : Heap} {f : Addr} {fd : FuncData} (T : Tx K mg) (c_mk_Wait : C8.Mak P w K mg base 1 "Wait" (He.ga K "Wait") (spWaitInit K) [])
    (F : FunD K "__init__" "Client.__init__" (defArgs s_Client___init) (defBody s_Client___init) (defScope s_Client___init) [] [] f fd) : FnOk P w K mg base CX0 3 f fd ["self", "letter", "place", "now", "first"] (spClInit K) := by
  refine F.ok sc_Client___init (fun vs H Q E h => ?_) (fun cdv A outer s H vs Q E hr h => ?_)
  · obtain ⟨p, dx, la, pl, now, f, rfl, _⟩ := h
    rfl
  · obtain ⟨p, dx, la, pl, now, f, rfl, hp, k⟩ := h
    refine ⟨_, PSs.nox (pss_cons (ps_fldC rfl T.cl_Client T.na_Client_letter (pv 0) (pv 1) rfl) (pss_cons (ps_fldC rfl T.cl_Client T.na_Client_place (pv 0) (pv 2) rfl) (pss_cons (ps_fldC rfl T.cl_Client T.na_Client_state (pv 0) pe_str rfl) (pss_cons (ps_fldC rfl T.cl_Client T.na_Client__first (pv 0) (pv 4) rfl) (pss_cons (ps_fldC rfl T.cl_Client T.na_Client__wait (pv 0) (C8.pe_mk c_mk_Wait hr (by decide) rfl (pa_cons (pv 3) (pa_cons (pv 4) pa_nil))) rfl) (pss_one (ps_fldC rfl T.cl_Client T.na_Client__keep (pv 0) (pe_lst pa_nil) rfl))))))), ?_⟩
    have r0 := Run.refl (cells1 hp)
    refine ⟨_, rfl, _, rfl, p, dx, _, rfl, hp, sm, ?_⟩
    refine ⟨_, rfl, _, rfl, p, dx, _, rfl, upd_same, sm, ?_⟩
    refine ⟨_, rfl, p, dx, _, rfl, upd_same, sm, ?_⟩
    refine ⟨_, rfl, _, rfl, p, dx, _, rfl, upd_same, sm, ?_⟩
    simp only [upd_upd]
    rw [show putF "_first" (V.int f) (putF "state" (V.str "calling") (putF "place" (V.str pl) (putF "letter" (V.ref la) []))) = (cl4 la pl f) from rfl]
    have r1 := r0.set (A := []) (B := []) (o' := .ins (He.ga K "Client") dx (cl4 la pl f)) rfl
    generalize upd H p (.ins (He.ga K "Client") dx (cl4 la pl f)) = H1 at r1 ⊢
    refine ⟨_, rfl, _, rfl, fun x dx' hx hdx hne => ?_⟩
    refine ⟨x, dx', now, f, rfl, upd_same, ?_⟩
    rw [upd_upd]
    have r2 := r1.own (o := .ins (He.ga K "Wait") dx' (wfl now f f (now + f))) hx hdx hne.symm
    generalize upd (upd H1 dx' (.own x)) x (.ins (He.ga K "Wait") dx' (wfl now f f (now + f))) = H2 at r2 ⊢
    refine ⟨rfl, _, rfl, p, dx, _, rfl, r2.c.get (o := .ins (He.ga K "Client") dx (cl4 la pl f)) (by simp), sm, ?_⟩
    rw [show putF "_wait" (V.ref x) (cl4 la pl f) = (cl5 la x pl f) from rfl]
    have r3 := r2.set (A := [(x, .ins (He.ga K "Wait") dx' (wfl now f f (now + f)))]) (B := []) (o' := .ins (He.ga K "Client") dx (cl5 la x pl f)) rfl
    generalize upd H2 p (.ins (He.ga K "Client") dx (cl5 la x pl f)) = H3 at r3 ⊢
    refine ⟨by show 0 ≤ sizeLine; decide, fun ka hka => ?_⟩
    have r4 := r3.add (o := .lst []) hka
    refine ⟨_, rfl, p, dx, _, rfl, r4.c.get (o := .ins (He.ga K "Client") dx (cl5 la x pl f)) (by simp), sm, ?_⟩
    have r5 := r4.set (A := [(ka, .lst []), (x, .ins (He.ga K "Wait") dx' (wfl now f f (now + f)))]) (B := []) (o' := .ins (He.ga K "Client") dx (clfl la pl "calling" f x ka)) rfl
    exact k x dx' ka _ fun L o => r5.perm (List.reverse_perm [(p, HO.ins (He.ga K "Client") dx (clfl la pl "calling" f x ka)), (x, .ins (He.ga K "Wait") dx' (wfl now f f (now + f))), (ka, .lst [])])
def spSending (K : PySem.W.Frag) : Sp := fun vs H Q _ => ∃ c : ClR, vs = [.ref c.p] ∧ H c.p = some (clO K c) ∧ ClI K H c ∧ ∀ r t H', Same H H' → H r = none → H' r = some (.lst (([t] : List Addr).map V.ref)) → RwI H' [t] [(c.pl, textOf (linesX c.L c.o))] → Q (.ref r) H'
theorem new2 {H : Hp} {t l : Addr} {o u : HO} (ht : H t = none) (hl : upd H t o l = none) : t ≠ l ∧ H l = none ∧ Same H (upd (upd H t o) l u) ∧ (upd (upd H t o) l u) t = some o ∧ (upd (upd H t o) l u) l = some u := by
  have n : t ≠ l := fun e => by rw [← e, upd_same] at hl; cases hl
  exact ⟨n, by rw [upd_ne n.symm] at hl; exact hl, (same_upd ht).trans (same_upd hl), (upd_ne n).trans upd_same, upd_same⟩
theorem ok_Client_sending {P : Program} {w : World} {K : PySem.W.Frag} {mg : Str → Option Value} {base : Heap} {f : Addr} {fd : FuncData} (T : Tx K mg) (c_write : C8.Cal P w K mg base 2 "write" (spWrite1 K) [])
    (F : FunD K "sending" "Client.sending" (defArgs s_Client_sending) (defBody s_Client_sending) (defScope s_Client_sending) [] [] f fd) : FnOk P w K mg base CX0 3 f fd ["self"] (spSending K) := by
  refine F.ok sc_Client_sending (fun vs H Q E h => ?_) (fun cdv A outer s H vs Q E hr h => ?_)
  · obtain ⟨c, rfl, _⟩ := h
    rfl
  · obtain ⟨c, rfl, hp, hi, k⟩ := h
    refine ⟨_, PSs.nox (pss_one (ps_ret (pe_lst (pa_cons (pe_tup (pa_cons (pe_fldC rfl T.cl_Client T.na_Client_place (pv 0) rfl) (pa_cons (pe_c c_write hr (by decide) rfl (pa_cons (pe_fldC rfl T.cl_Client T.na_Client_letter (pv 0) rfl) pa_nil)) pa_nil))) pa_nil)))), ?_⟩
    refine ⟨_, rfl, c.p, c.dx, _, _, rfl, hp, rfl, _, rfl, c.p, c.dx, _, _, rfl, hp, rfl, c.la, c.L, rfl, hi.lt, hi.lk, c.o, hi.of, hi.xk, fun H1 s1 => ⟨by show 2 ≤ sizeLine; decide, fun t ht => ⟨by show 1 ≤ sizeLine; decide, fun r hr => ?_⟩⟩⟩
    obtain ⟨n1, n2, s5, q1, q2⟩ := new2 (u := .lst [.ref t]) ht hr
    exact k r t _ (s1.trans s5) (s1.free n2) q2 (RwI.one q1)
def spClOver (K : PySem.W.Frag) : Sp := fun vs H Q _ => ∃ c : ClR, vs = [.ref c.p] ∧ H c.p = some (clO K c) ∧ Q (.bl (decide (c.st = .ov))) H
theorem ok_Client_is_over {P : Program} {w : World} {K : PySem.W.Frag} {mg : Str → Option Value} {base : Heap} {f : Addr} {fd : FuncData} (T : Tx K mg) 
    (F : FunD K "is_over" "Client.is_over" (defArgs s_Client_is_over) (defBody s_Client_is_over) (defScope s_Client_is_over) [] [] f fd) : FnOk P w K mg base CX0 1 f fd ["self"] (spClOver K) := by
  refine F.ok sc_Client_is_over (fun vs H Q E h => ?_) (fun cdv A outer s H vs Q E hr h => ?_)
  · obtain ⟨c, rfl, _⟩ := h
    rfl
  · obtain ⟨c, rfl, hp, k⟩ := h
    refine ⟨_, PSs.nox (pss_one (ps_ret (pe_cmpR op_eq (pe_fldC rfl T.cl_Client T.na_Client_state (pv 0) rfl) pe_str (nomark _)))), ?_⟩
    refine ⟨_, rfl, c.p, c.dx, _, _, rfl, hp, rfl, rfl, ?_⟩
    have e : decide (V.str c.st.s = V.str "over") = decide (c.st = .ov) := by cases c.st <;> rfl
    rw [e]
    exact k

end K7
set_option maxHeartbeats 4000000
set_option pp.maxSteps 400
namespace K7
open PySem PySem.Spec PyProof.Rows L2 SX TK TKS TKC
open C8 (pe_c)
/-! ### clients: stop, take -/
def stopC (c : ClR) (now : Int) (wa wx : Addr) : ClR := if (decide (c.st = .cl) || decide (c.st = .wt)) = true then { c with st := .sp, wa := wa, wx := wx, b := now, g := c.f, d := now + c.f } else c
def spStop (K : PySem.W.Frag) : Sp := fun vs H Q _ => ∃ (c : ClR) (now : Int), vs = [.ref c.p, .int now] ∧ Cells H (clM K c) ∧ ∀ wa wx H', Run H (clM K c) H' (clM K (stopC c now wa wx)) → Q .non H'
theorem sub3 {α : Type} (a b c d : α) : [a, b, d].Sublist [a, b, c, d] := ((List.Sublist.cons c (List.Sublist.refl [d])).cons₂ b).cons₂ a
/-- a new wait and another state -/
theorem Run.wait {K : PySem.W.Frag} {H H1 : Hp} {c : ClR} {x dx' : Addr} {st : CS} {now : Int} {M : List Cell} (r : Run H M H1 (clM K c)) (hx : (upd H1 c.p (.ins (He.ga K "Client") c.dx (clfl c.la c.pl st.s c.f c.wa c.ka))) x = none) (hdx : (upd H1 c.p (.ins (He.ga K "Client") c.dx (clfl c.la c.pl st.s c.f c.wa c.ka))) dx' = none) (hne : dx' ≠ x) :
    (upd (upd (upd H1 c.p (.ins (He.ga K "Client") c.dx (clfl c.la c.pl st.s c.f c.wa c.ka))) dx' (.own x)) x (.ins (He.ga K "Wait") dx' (wfl now c.f c.f (now + c.f)))) c.p = some (.ins (He.ga K "Client") c.dx (clfl c.la c.pl st.s c.f c.wa c.ka)) ∧
    Run H M (upd (upd (upd (upd H1 c.p (.ins (He.ga K "Client") c.dx (clfl c.la c.pl st.s c.f c.wa c.ka))) dx' (.own x)) x (.ins (He.ga K "Wait") dx' (wfl now c.f c.f (now + c.f)))) c.p (.ins (He.ga K "Client") c.dx (clfl c.la c.pl st.s c.f x c.ka))) (clM K { c with st := st, wa := x, wx := dx', b := now, g := c.f, d := now + c.f }) := by
  have r2 := r.set (A := []) (B := [(c.wa, wtO K c), (c.ka, .lst (c.kl.map V.ref))]) (o' := .ins (He.ga K "Client") c.dx (clfl c.la c.pl st.s c.f c.wa c.ka)) rfl
  have r3 := r2.own (o := .ins (He.ga K "Wait") dx' (wfl now c.f c.f (now + c.f))) hx hdx hne.symm
  refine ⟨r3.c.get (by simp), ?_⟩
  have r4 := r3.set (A := [(x, .ins (He.ga K "Wait") dx' (wfl now c.f c.f (now + c.f)))]) (B := [(c.wa, wtO K c), (c.ka, .lst (c.kl.map V.ref))]) (o' := .ins (He.ga K "Client") c.dx (clfl c.la c.pl st.s c.f x c.ka)) rfl
  exact (r4.sub (sub3 _ _ _ _)).perm (List.Perm.swap _ _ _)
theorem ok_Client_stop {P : Program} {w : World} {K : PySem.W.Frag} {mg : Str → Option Value} {base : Heap} {f : Addr} {fd : FuncData} (T : Tx K mg) (c_mk_Wait : C8.Mak P w K mg base 1 "Wait" (He.ga K "Wait") (spWaitInit K) [])
    (F : FunD K "stop" "Client.stop" (defArgs s_Client_stop) (defBody s_Client_stop) (defScope s_Client_stop) [] [] f fd) : FnOk P w K mg base CX0 3 f fd ["self", "now"] (spStop K) := by
  refine F.ok sc_Client_stop (fun vs H Q E h => ?_) (fun cdv A outer s H vs Q E hr h => ?_)
  · obtain ⟨c, now, rfl, _⟩ := h
    rfl
  · obtain ⟨c, now, rfl, hc, k⟩ := h
    have hp : H c.p = some (clO K c) := hc.get (by simp [clM])
    refine ⟨_, PSs.nox (pss_one (ps_if (pt_cmpR op_in_seq (pe_fldC rfl T.cl_Client T.na_Client_state (pv 0) rfl) (pe_tup (pa_cons pe_str (pa_cons pe_str pa_nil))) (by with_unfolding_all rfl)) (pss_cons (ps_fldC rfl T.cl_Client T.na_Client_state (pv 0) pe_str rfl) (pss_one (ps_fldC rfl T.cl_Client T.na_Client__wait (pv 0) (C8.pe_mk c_mk_Wait hr (by decide) rfl (pa_cons (pv 1) (pa_cons (pe_fldC rfl T.cl_Client T.na_Client__first (pv 0) rfl) pa_nil))) rfl))) pss_nil)), ?_⟩
    refine ⟨_, rfl, c.p, c.dx, _, _, rfl, hp, rfl, by show 2 ≤ sizeLine; decide, fun t hnt => ?_⟩
    have s1 := same_upd (o := .tup [.str "calling", .str "waiting"]) hnt
    refine ⟨t, _, rfl, .inr (SqT.of upd_same), rfl, rfl, _, rfl, ?_⟩
    have e1 : inV (V.str c.st.s) [.str "calling", .str "waiting"] = (decide (c.st = .cl) || decide (c.st = .wt)) := by cases c.st <;> rfl
    have r1 := (Run.refl hc).same s1
    show (if inV (V.str c.st.s) [.str "calling", .str "waiting"] = true then _ else _)
    rw [e1]
    generalize (upd H t (.tup [.str "calling", .str "waiting"])) = H1 at r1 ⊢
    cases e : (decide (c.st = .cl) || decide (c.st = .wt)) with
    | false =>
      have es : ∀ wa wx, stopC c now wa wx = c := fun wa wx => if_neg (by rw [e]; exact Bool.false_ne_true)
      refine iteF (k 0 0 _ ?_)
      rw [es]
      exact r1
    | true =>
      refine iteT ⟨_, rfl, c.p, c.dx, _, rfl, r1.c.get (o := clO K c) (by simp [clM]), sm, ?_⟩
      rw [show putF "state" (V.str "stopping") (clfl c.la c.pl c.st.s c.f c.wa c.ka) = clfl c.la c.pl CS.sp.s c.f c.wa c.ka from rfl]
      refine ⟨_, rfl, _, rfl, c.p, c.dx, _, _, rfl, upd_same, rfl, fun x dx' hx hdx hne => ?_⟩
      obtain ⟨q1, q2⟩ := Run.wait (st := .sp) (now := now) r1 hx hdx hne
      refine ⟨x, dx', now, c.f, rfl, upd_same, ?_⟩
      rw [upd_upd]
      refine ⟨rfl, _, rfl, c.p, c.dx, _, rfl, q1, sm, ?_⟩
      rw [show putF "_wait" (V.ref x) (clfl c.la c.pl CS.sp.s c.f c.wa c.ka) = clfl c.la c.pl CS.sp.s c.f x c.ka from rfl]
      refine k x dx' _ ?_
      rw [show stopC c now x dx' = _ from if_pos e]
      exact q2

end K7
set_option maxHeartbeats 4000000
set_option pp.maxSteps 400
namespace K7
open PySem PySem.Spec PyProof.Rows L2 SX TK TKS TKC
open C8 (pe_c)
theorem st_is (a : CS) (b : CS) : decide (V.str a.s = V.str b.s) = decide (a = b) := by cases a <;> cases b <;> rfl
def isC (L : Ltr) : Bool := decide (L.verb = "CALL")
def provB (c : ClR) : Bool := isC c.L && !decide (c.st = .fn)
def provC (c : ClR) : ClR := if (provB c && decide (c.st = .cl)) = true then { c with st := .wt } else c
def provV (c : ClR) (n : Int) : V := if provB c = true then .int n else .non
theorem Run.st {K : PySem.W.Frag} {H H1 : Hp} {c : ClR} {M : List Cell} (st : CS) (r : Run H M H1 (clM K c)) : Run H M (upd H1 c.p (.ins (He.ga K "Client") c.dx (clfl c.la c.pl st.s c.f c.wa c.ka))) (clM K { c with st := st }) :=
  r.set (A := []) (B := [(c.wa, wtO K c), (c.ka, .lst (c.kl.map V.ref))]) rfl
def spProv (K : PySem.W.Frag) : Sp := fun vs H Q _ => ∃ (c : ClR) (b : Addr) (n : Int) (M : Ltr), vs = [.ref c.p, .ref b] ∧ Cells H (clM K c) ∧ LetAt K H c.la c.L ∧ LetAt K H b M ∧ M.code = .int n ∧
  ∀ H', Run H (clM K c) H' (clM K (provC c)) → Q (provV c n) H'
theorem ok_Client__take_provisional {P : Program} {w : World} {K : PySem.W.Frag} {mg : Str → Option Value} {base : Heap} {f : Addr} {fd : FuncData} (T : Tx K mg) 
    (F : FunD K "_take_provisional" "Client._take_provisional" (defArgs s_Client__take_provisional) (defBody s_Client__take_provisional) (defScope s_Client__take_provisional) [] [] f fd) : FnOk P w K mg base CX0 1 f fd ["self", "reply"] (spProv K) := by
  refine F.ok sc_Client__take_provisional (fun vs H Q E h => ?_) (fun cdv A outer s H vs Q E hr h => ?_)
  · obtain ⟨c, b, n, M, rfl, _⟩ := h
    rfl
  · obtain ⟨c, b, n, M, rfl, hc, ⟨dl, hl⟩, ⟨dm, hm⟩, em, k⟩ := h
    have hp : H c.p = some (clO K c) := hc.get (by simp [clM])
    refine ⟨_, PSs.nox (C8.pss_cut (ps_if (PW.pt (pw_or (pt_cmpR op_ne (pe_fldC rfl T.cl_Letter T.na_Letter_verb (pe_fldC rfl T.cl_Client T.na_Client_letter (pv 0) rfl) rfl) pe_str (nomark _)) (pw_or1 (pt_cmpR op_eq (pe_fldC rfl T.cl_Client T.na_Client_state (pv 0) rfl) pe_str (nomark _))))) (pss_one (ps_ret pe_non)) pss_nil) (C8.pss_cut (ps_if (pt_cmpR op_eq (pe_fldC rfl T.cl_Client T.na_Client_state (pv 0) rfl) pe_str (nomark _)) (pss_one (ps_fldC rfl T.cl_Client T.na_Client_state (pv 0) pe_str rfl)) pss_nil) (pss_one (ps_ret (pe_fldC rfl T.cl_Letter T.na_Letter_code (pv 1) rfl))))), ?_⟩
    have e2 := st_is c.st .fn
    have e3 := st_is c.st .cl
    refine ⟨fun σ' H' => σ' = [some (.ref c.p), some (.ref b)] ∧ H' = H ∧ provB c = true, ?_, ?_⟩
    · have no : provB c = false → Q .non H := fun e => by
        have e4 : provC c = c := if_neg (by rw [e]; exact Bool.false_ne_true)
        have e5 : provV c n = .non := if_neg (by rw [e]; exact Bool.false_ne_true)
        rw [e4, e5] at k
        exact k H (Run.refl hc)
      refine ⟨_, rfl, c.p, c.dx, _, _, rfl, hp, rfl, c.la, dl, _, _, rfl, hl, rfl, rfl, _, rfl, ?_⟩
      rw [vstr]
      cases e : decide (c.L.verb = "CALL") with
      | false => exact iteT (no (by unfold provB isC; rw [e]; rfl))
      | true =>
        refine iteF ⟨_, rfl, c.p, c.dx, _, _, rfl, hp, rfl, rfl, _, rfl, ?_⟩
        show (if decide (V.str c.st.s = V.str CS.fn.s) = true then _ else _)
        rw [e2]
        cases e1 : decide (c.st = .fn) with
        | true => exact iteT (no (by unfold provB isC; rw [e, e1]; rfl))
        | false => exact iteF ⟨rfl, rfl, by unfold provB isC; rw [e, e1]; rfl⟩
    rintro σ' H1 ⟨rfl, e9, eB⟩
    obtain rfl : H = H1 := e9.symm
    have e5 : provV c n = .int n := if_pos eB
    refine ⟨fun σ' H' => σ' = [some (.ref c.p), some (.ref b)] ∧ Run H (clM K c) H' (clM K (provC c)), ?_, ?_⟩
    · refine ⟨_, rfl, c.p, c.dx, _, _, rfl, hp, rfl, rfl, _, rfl, ?_⟩
      show (if decide (V.str c.st.s = V.str CS.cl.s) = true then _ else _)
      rw [e3]
      cases e1 : decide (c.st = .cl) with
      | false =>
        have e4 : provC c = c := if_neg (by rw [e1, Bool.and_false]; exact Bool.false_ne_true)
        rw [e4]
        exact iteF ⟨rfl, Run.refl hc⟩
      | true =>
        have e4 : provC c = { c with st := .wt } := if_pos (by rw [e1, eB]; rfl)
        rw [e4]
        exact iteT ⟨_, rfl, c.p, c.dx, _, rfl, hp, sm, rfl, Run.st .wt (Run.refl hc)⟩
    rintro σ' H2 ⟨rfl, r⟩
    rw [e5] at k
    refine ⟨_, rfl, b, dm, _, _, rfl, r.im _ _ hm rfl, rfl, ?_⟩
    rw [em]
    exact k H2 r
def keepL (L : Ltr) (tag : Str) : Ltr := ⟨"KEEP", L.call, L.origin, L.otag, L.target, tag, L.seq, L.way, .non, .non, .non, .non⟩
theorem keepL_ok {L M : Ltr} (g : LOk L) (m : LOk M) : LOk (keepL L M.ttag) := by
  obtain ⟨_, g2, g3, g4, g5, _, g7⟩ := g.oks
  obtain ⟨_, _, _, _, _, m6, _⟩ := m.oks
  exact ⟨⟨by show PyData.strOk "KEEP" = true; decide +kernel, g2, g3, g4, g5, m6, g7⟩, g.seq0, by show ("KEEP" : Str).length ≤ 1000; decide +kernel, g.call, g.origin, g.otag, g.target, m.ttag, g.seq, g.way, .inl rfl⟩
theorem keepL_x (L : Ltr) (tag : Str) : XOk (keepL L tag) none := ⟨(fun _ e => nomatch e), (fun _ e => nomatch e), .inl rfl, .inl rfl⟩
def spKeepFor (K : PySem.W.Frag) : Sp := fun vs H Q _ => ∃ (c : ClR) (b : Addr) (M : Ltr), vs = [.ref c.p, .ref b] ∧ H c.p = some (clO K c) ∧ LetAt K H c.la c.L ∧ LetAt K H b M ∧
  ∀ x H', Same H H' → LetAt K H' x (keepL c.L M.ttag) → Q (.ref x) H'
theorem ok_Client__keep_for {P : Program} {w : World} {K : PySem.W.Frag} {mg : Str → Option Value} {base : Heap} {f : Addr} {fd : FuncData} (T : Tx K mg) (c_mk_Letter_a : MakK P w K mg base 1 "Letter" (He.ga K "Letter") (spLetInit K) 0 ["verb", "call", "origin", "origin_tag", "target", "target_tag", "seq", "way"] (fun vs zs => vs ++ ((((zs.drop 0).take 8) ++ ((([(V.non), (V.non), (V.non), (V.non)] : List V).drop 0).take 4)))))
    (F : FunD K "_keep_for" "Client._keep_for" (defArgs s_Client__keep_for) (defBody s_Client__keep_for) (defScope s_Client__keep_for) [] [] f fd) : FnOk P w K mg base CX0 3 f fd ["self", "reply"] (spKeepFor K) := by
  refine F.ok sc_Client__keep_for (fun vs H Q E h => ?_) (fun cdv A outer s H vs Q E hr h => ?_)
  · obtain ⟨c, b, M, rfl, _⟩ := h
    rfl
  · obtain ⟨c, b, M, rfl, hp, ⟨dl, hl⟩, ⟨dm, hm⟩, k⟩ := h
    refine ⟨_, PSs.nox (pss_cons (ps_set (i := 2) sc_Client__keep_for.nd rfl (Or.inl rfl) (pe_fldC rfl T.cl_Client T.na_Client_letter (pv 0) rfl)) (pss_one (ps_ret (pe_mkK0 c_mk_Letter_a hr (by decide) rfl (pk_cons pe_str (pk_cons (pe_fldC rfl T.cl_Letter T.na_Letter_call (pv 2) rfl) (pk_cons (pe_fldC rfl T.cl_Letter T.na_Letter_origin (pv 2) rfl) (pk_cons (pe_fldC rfl T.cl_Letter T.na_Letter_origin_tag (pv 2) rfl) (pk_cons (pe_fldC rfl T.cl_Letter T.na_Letter_target (pv 2) rfl) (pk_cons (pe_fldC rfl T.cl_Letter T.na_Letter_target_tag (pv 1) rfl) (pk_cons (pe_fldC rfl T.cl_Letter T.na_Letter_seq (pv 2) rfl) (pk_cons (pe_fldC rfl T.cl_Letter T.na_Letter_way (pv 2) rfl) pk_nil)))))))))))), ?_⟩
    refine ⟨_, rfl, c.p, c.dx, _, _, rfl, hp, rfl, ?_⟩
    refine ⟨_, rfl, c.la, dl, _, _, rfl, hl, rfl, _, rfl, c.la, dl, _, _, rfl, hl, rfl, _, rfl, c.la, dl, _, _, rfl, hl, rfl, _, rfl, c.la, dl, _, _, rfl, hl, rfl, _, rfl, b, dm, _, _, rfl, hm, rfl, _, rfl, c.la, dl, _, _, rfl, hl, rfl, _, rfl, c.la, dl, _, _, rfl, hl, rfl, rfl, rfl, ?_⟩
    intro x dy hx hdy hne
    refine ⟨x, dy, keepL c.L M.ttag, rfl, upd_same, rfl, ?_⟩
    rw [upd_upd]
    exact k x _ (same_own hx hdy) ⟨dy, upd_same⟩
abbrev tx (L : Ltr) : Str := textOf (linesX L none)
def finC (c : ClR) (M : Ltr) (now : Int) (wa wx ka kt : Addr) : ClR := { c with st := .fn, wa := wa, wx := wx, ka := ka, b := now, g := c.f, d := now + c.f, kl := [kt], kz := tx (keepL c.L M.ttag) }
/-- the client behind a reply -/
def takeC (c : ClR) (M : Ltr) (n now : Int) (wa wx ka kt : Addr) : ClR :=
  if c.st = .ov then c else if ¬ 20 ≤ n then provC c else if isC c.L = false then { c with st := .ov } else if c.st = .fn then c else finC c M now wa wx ka kt
/-- what is sent -/
def takeO (c : ClR) (M : Ltr) (n : Int) : List (Str × Str) :=
  if c.st = .ov then [] else if ¬ 20 ≤ n then [] else if isC c.L = false then [] else if c.st = .fn then c.kl.map fun _ => (c.pl, c.kz) else [(c.pl, tx (keepL c.L M.ttag))]
/-- what is told -/
def takeV (c : ClR) (n : Int) : V :=
  if c.st = .ov then .non else if ¬ 20 ≤ n then provV c n else if isC c.L = false then .int n else if c.st = .fn then .non else .int n
theorem sub4 {α : Type} (a b c d : α) : [a, b, c].Sublist [a, b, c, d] := List.sublist_append_left [a, b, c] [d]
theorem perm_of3 {α : Type} (a b c : α) : [a, b, c].Perm [b, c, a] := (List.Perm.swap b a [c]).trans ((List.Perm.swap c a []).cons b)
def spTake (K : PySem.W.Frag) : Sp := fun vs H Q _ => ∃ (c : ClR) (b : Addr) (n now : Int) (M : Ltr), vs = [.ref c.p, .ref b, .int now] ∧ Cells H (clM K c) ∧ ClI K H c ∧ LetAt K H b M ∧ LOk M ∧ M.code = .int n ∧
  ∀ t r ts wa wx ka kt H', Run H (clM K c) H' ((r, .lst (ts.map V.ref)) :: clM K (takeC c M n now wa wx ka kt)) → ClI K H' (takeC c M n now wa wx ka kt) → H' t = some (.tup [.ref r, takeV c n]) → RwI H' ts (takeO c M n) → Q (.ref t) H'
theorem pairR {Q : VK} {H : Hp} {v : V} (k : ∀ r t H', Same H H' → H r = none → H' r = some (.lst []) → H' t = some (.tup [.ref r, v]) → Q (.ref t) H') : 0 ≤ sizeLine ∧ ∀ l, H l = none → 2 ≤ sizeLine ∧ ∀ t, (upd H l (.lst [])) t = none → Q (.ref t) (upd (upd H l (.lst [])) t (.tup [.ref l, v])) := ⟨by decide, fun l hl => ⟨by decide, fun t ht => by
  obtain ⟨n1, n2, s, q1, q2⟩ := new2 (u := .tup [.ref l, v]) hl ht
  exact k l t _ s hl q1 q2⟩⟩
theorem ok_Client_take {P : Program} {w : World} {K : PySem.W.Frag} {mg : Str → Option Value} {base : Heap} {f : Addr} {fd : FuncData} (T : Tx K mg) (c_is_final : C8.Cal P w K mg base 1 "is_final" spFinal []) (c_Client__take_provisional : C8.Met P w K mg base 1 (He.ga K "Client") "_take_provisional" (spProv K) []) (c_mk_Wait : C8.Mak P w K mg base 1 "Wait" (He.ga K "Wait") (spWaitInit K) []) (c_Client__keep_for : C8.Met P w K mg base 3 (He.ga K "Client") "_keep_for" (spKeepFor K) []) (c_write : C8.Cal P w K mg base 2 "write" (spWrite1 K) [])
    (F : FunD K "take" "Client.take" (defArgs s_Client_take) (defBody s_Client_take) (defScope s_Client_take) [] [] f fd) : FnOk P w K mg base CX0 4 f fd ["self", "reply", "now"] (spTake K) := by
  refine F.ok sc_Client_take (fun vs H Q E h => ?_) (fun cdv A outer s H vs Q E hr h => ?_)
  · obtain ⟨c, b, n, now, M, rfl, _⟩ := h
    rfl
  · obtain ⟨c, b, n, now, M, rfl, hc, hi, hb, lm, em, k⟩ := h
    have hp : H c.p = some (clO K c) := hc.get (by simp [clM])
    have r0 := Run.refl hc
    obtain ⟨dl, hl⟩ := id hi.lt
    obtain ⟨dm, hm⟩ := id hb
    refine ⟨_, PSs.nox (C8.pss_cut (ps_if (pt_cmpR op_eq (pe_fldC rfl T.cl_Client T.na_Client_state (pv 0) rfl) pe_str (nomark _)) (pss_one (ps_ret (pe_tup (pa_cons (pe_lst pa_nil) (pa_cons pe_non pa_nil))))) pss_nil) (C8.pss_cut (ps_if (pt_not (pt_val (pe_c c_is_final hr (by decide) rfl (pa_cons (pe_fldC rfl T.cl_Letter T.na_Letter_code (pv 1) rfl) pa_nil)))) (pss_one (ps_ret (pe_tup (pa_cons (pe_lst pa_nil) (pa_cons (C8.pe_mt c_Client__take_provisional hr (by decide) (pv 0) (pa_cons (pv 1) pa_nil)) pa_nil))))) pss_nil) (C8.pss_cut (ps_if (pt_cmpR op_ne (pe_fldC rfl T.cl_Letter T.na_Letter_verb (pe_fldC rfl T.cl_Client T.na_Client_letter (pv 0) rfl) rfl) pe_str (nomark _)) (pss_cons (ps_fldC rfl T.cl_Client T.na_Client_state (pv 0) pe_str rfl) (pss_one (ps_ret (pe_tup (pa_cons (pe_lst pa_nil) (pa_cons (pe_fldC rfl T.cl_Letter T.na_Letter_code (pv 1) rfl) pa_nil)))))) pss_nil) (C8.pss_cut (ps_if (pt_cmpR op_eq (pe_fldC rfl T.cl_Client T.na_Client_state (pv 0) rfl) pe_str (nomark _)) (pss_one (ps_ret (pe_tup (pa_cons (pe_callTy call_list_of rfl T.f_list (by decide +kernel) (pa_cons (pe_fldC rfl T.cl_Client T.na_Client__keep (pv 0) rfl) pa_nil)) (pa_cons pe_non pa_nil))))) pss_nil) (pss_cons (ps_fldC rfl T.cl_Client T.na_Client_state (pv 0) pe_str rfl) (pss_cons (ps_fldC rfl T.cl_Client T.na_Client__wait (pv 0) (C8.pe_mk c_mk_Wait hr (by decide) rfl (pa_cons (pv 2) (pa_cons (pe_fldC rfl T.cl_Client T.na_Client__first (pv 0) rfl) pa_nil))) rfl) (pss_cons (ps_fldC rfl T.cl_Client T.na_Client__keep (pv 0) (pe_lst (pa_cons (pe_tup (pa_cons (pe_fldC rfl T.cl_Client T.na_Client_place (pv 0) rfl) (pa_cons (pe_c c_write hr (by decide) rfl (pa_cons (C8.pe_mt c_Client__keep_for hr (by decide) (pv 0) (pa_cons (pv 1) pa_nil)) pa_nil)) pa_nil))) pa_nil)) rfl) (pss_one (ps_ret (pe_tup (pa_cons (pe_callTy call_list_of rfl T.f_list (by decide +kernel) (pa_cons (pe_fldC rfl T.cl_Client T.na_Client__keep (pv 0) rfl) pa_nil)) (pa_cons (pe_fldC rfl T.cl_Letter T.na_Letter_code (pv 1) rfl) pa_nil)))))))))))), ?_⟩
    -- over
    refine ⟨fun σ' H' => σ' = [some (.ref c.p), some (.ref b), some (.int now)] ∧ H' = H ∧ c.st ≠ .ov, ?_, ?_⟩
    · refine ⟨_, rfl, c.p, c.dx, _, _, rfl, hp, rfl, rfl, _, rfl, ?_⟩
      show (if decide (V.str c.st.s = V.str CS.ov.s) = true then _ else _)
      rw [st_is]
      by_cases e : c.st = .ov
      · rw [decide_eq_true e]
        have e1 : ∀ wa wx ka kt, takeC c M n now wa wx ka kt = c := fun wa wx ka kt => if_pos e
        have e2 : takeO c M n = [] := if_pos e
        have e3 : takeV c n = .non := if_pos e
        simp only [e1, e2, e3] at k
        exact iteT (pairR fun r t H' s1 h1 h2 h3 => k t r [] 0 0 0 0 H' (r0.new s1 h1 h2) (hi.im (Im.of_same s1)) h3 trivial)
      · rw [decide_eq_false e]
        exact iteF ⟨rfl, rfl, e⟩
    rintro σ' H1 ⟨rfl, e, h1⟩
    obtain rfl : H = H1 := e.symm
    -- a provisional code
    refine ⟨fun σ' H' => σ' = [some (.ref c.p), some (.ref b), some (.int now)] ∧ H' = H ∧ 20 ≤ n, ?_, ?_⟩
    · refine ⟨_, rfl, b, dm, _, _, rfl, hm, rfl, n, congrArg (fun v => [v]) em, _, rfl, ?_⟩
      by_cases e : 20 ≤ n
      · rw [decide_eq_true (show n ≥ 20 from e)]
        exact iteF ⟨rfl, rfl, e⟩
      · rw [decide_eq_false (show ¬ n ≥ 20 from e)]
        have e1 : ∀ wa wx ka kt, takeC c M n now wa wx ka kt = provC c := fun wa wx ka kt => by unfold takeC; rw [if_neg h1, if_pos e]
        have e2 : takeO c M n = [] := by unfold takeO; rw [if_neg h1, if_pos e]
        have e3 : takeV c n = provV c n := by unfold takeV; rw [if_neg h1, if_pos e]
        simp only [e1, e2, e3] at k
        refine iteT ⟨by show 0 ≤ sizeLine; decide, fun l hnl => ?_⟩
        have s1 := same_upd (o := .lst []) hnl
        have el : (upd H l (.lst [])) l = some (.lst []) := upd_same
        have r1 := r0.new s1 hnl el
        generalize (upd H l (.lst [])) = H1 at s1 el r1 ⊢
        refine ⟨_, rfl, c.p, c.dx, _, rfl, s1 _ _ hp, rfl, _, rfl, c, b, n, M, rfl, hc.same s1, hi.lt.same s1, hb.same s1, em, fun H2 r2 => ⟨by show 2 ≤ sizeLine; decide, fun t ht => ?_⟩⟩
        have s3 := same_upd (o := .tup [.ref l, provV c n]) ht
        have r3 := (Run.frameR (A := [(l, .lst [])]) r1 r2).same s3
        have hi2 : ClI K (upd H2 t (.tup [.ref l, provV c n])) (provC c) := by
          have h := hi.im (r3.im)
          unfold provC
          split
          · exact ⟨h.lt, h.of, h.lk, h.xk, h.kn, h.kt⟩
          · exact h
        exact k t l [] 0 0 0 0 _ r3 hi2 upd_same trivial
    rintro σ' H1 ⟨rfl, e, h2⟩
    obtain rfl : H = H1 := e.symm
    have h2' : ¬ ¬ 20 ≤ n := fun z => z h2
    -- no CALL
    refine ⟨fun σ' H' => σ' = [some (.ref c.p), some (.ref b), some (.int now)] ∧ H' = H ∧ isC c.L = true, ?_, ?_⟩
    · refine ⟨_, rfl, c.p, c.dx, _, _, rfl, hp, rfl, c.la, dl, _, _, rfl, hl, rfl, rfl, _, rfl, ?_⟩
      rw [vstr]
      cases e : decide (c.L.verb = "CALL") with
      | true => exact iteF ⟨rfl, rfl, e⟩
      | false =>
        have e0 : isC c.L = false := e
        have e1 : ∀ wa wx ka kt, takeC c M n now wa wx ka kt = { c with st := .ov } := fun wa wx ka kt => by unfold takeC; rw [if_neg h1, if_neg h2', if_pos e0]
        have e2 : takeO c M n = [] := by unfold takeO; rw [if_neg h1, if_neg h2', if_pos e0]
        have e3 : takeV c n = .int n := by unfold takeV; rw [if_neg h1, if_neg h2', if_pos e0]
        simp only [e1, e2, e3] at k
        refine iteT ⟨_, rfl, c.p, c.dx, _, rfl, hp, sm, ?_⟩
        rw [show putF "state" (V.str "over") (clfl c.la c.pl c.st.s c.f c.wa c.ka) = clfl c.la c.pl CS.ov.s c.f c.wa c.ka from rfl]
        have r1 := Run.st .ov r0
        have hm1 := r1.im _ _ hm rfl
        generalize upd H c.p (.ins (He.ga K "Client") c.dx (clfl c.la c.pl CS.ov.s c.f c.wa c.ka)) = H1 at r1 hm1 ⊢
        refine ⟨by show 0 ≤ sizeLine; decide, fun l hnl => ?_⟩
        have r2 := r1.add (o := .lst []) hnl
        have s2 := same_upd (o := .lst []) hnl
        refine ⟨_, rfl, b, dm, _, _, rfl, s2 _ _ hm1, rfl, by show 2 ≤ sizeLine; decide, fun t ht => ?_⟩
        rw [em]
        have s3 := same_upd (o := .tup [.ref l, .int n]) ht
        have r3 := r2.same s3
        have h := hi.im r3.im
        exact k t l [] 0 0 0 0 _ r3 ⟨h.lt, h.of, h.lk, h.xk, h.kn, h.kt⟩ upd_same trivial
    rintro σ' H1 ⟨rfl, e, h3⟩
    obtain rfl : H = H1 := e.symm
    have h3' : ¬ isC c.L = false := by rw [h3]; exact fun e => nomatch e
    -- the same KEEP again
    refine ⟨fun σ' H' => σ' = [some (.ref c.p), some (.ref b), some (.int now)] ∧ H' = H ∧ c.st ≠ .fn, ?_, ?_⟩
    · refine ⟨_, rfl, c.p, c.dx, _, _, rfl, hp, rfl, rfl, _, rfl, ?_⟩
      show (if decide (V.str c.st.s = V.str CS.fn.s) = true then _ else _)
      rw [st_is]
      by_cases e : c.st = .fn
      · rw [decide_eq_true e]
        have e1 : ∀ wa wx ka kt, takeC c M n now wa wx ka kt = c := fun wa wx ka kt => by unfold takeC; rw [if_neg h1, if_neg h2', if_neg h3', if_pos e]
        have e2 : takeO c M n = c.kl.map fun _ => (c.pl, c.kz) := by unfold takeO; rw [if_neg h1, if_neg h2', if_neg h3', if_pos e]
        have e3 : takeV c n = .non := by unfold takeV; rw [if_neg h1, if_neg h2', if_neg h3', if_pos e]
        simp only [e1, e2, e3] at k
        have hk : H c.ka = some (.lst (c.kl.map V.ref)) := hc.get (by simp [clM])
        have hrw : RwI H c.kl (c.kl.map fun _ => (c.pl, c.kz)) := by
          have h := hi.kt
          generalize c.kl = kl at h
          induction kl with
          | nil => trivial
          | cons t r ih => exact ⟨h t (List.mem_cons_self ..), ih fun x m => h x (List.mem_cons_of_mem _ m)⟩
        refine iteT ⟨_, rfl, c.p, c.dx, _, _, rfl, hp, rfl, c.ka, _, rfl, .inl (SqL.of hk), fun l hnl => ⟨by show 2 ≤ sizeLine; decide, fun t ht => ?_⟩⟩
        obtain ⟨n1, n2, s5, q1, q2⟩ := new2 (u := .tup [.ref l, .non]) hnl ht
        exact k t l c.kl 0 0 0 0 _ (r0.new s5 hnl q1) (hi.im (Im.of_same s5)) q2 (hrw.im (Im.of_same s5))
      · rw [decide_eq_false e]
        exact iteF ⟨rfl, rfl, e⟩
    rintro σ' H1 ⟨rfl, e, h4⟩
    obtain rfl : H = H1 := e.symm
    have e1 : ∀ wa wx ka kt, takeC c M n now wa wx ka kt = finC c M now wa wx ka kt := fun wa wx ka kt => by unfold takeC; rw [if_neg h1, if_neg h2', if_neg h3', if_neg h4]
    have e2 : takeO c M n = [(c.pl, tx (keepL c.L M.ttag))] := by unfold takeO; rw [if_neg h1, if_neg h2', if_neg h3', if_neg h4]
    have e3 : takeV c n = .int n := by unfold takeV; rw [if_neg h1, if_neg h2', if_neg h3', if_neg h4]
    simp only [e1, e2, e3] at k
    clear e1 e2 e3
    -- a new wait, the KEEP
    refine ⟨_, rfl, c.p, c.dx, _, rfl, hp, sm, ?_⟩
    rw [show putF "state" (V.str "final") (clfl c.la c.pl c.st.s c.f c.wa c.ka) = clfl c.la c.pl CS.fn.s c.f c.wa c.ka from rfl]
    refine ⟨_, rfl, _, rfl, c.p, c.dx, _, _, rfl, upd_same, rfl, fun x dx' hx hdx hne => ?_⟩
    obtain ⟨q1, r1⟩ := Run.wait (st := .fn) (now := now) r0 hx hdx hne
    refine ⟨x, dx', now, c.f, rfl, upd_same, ?_⟩
    rw [upd_upd]
    refine ⟨rfl, _, rfl, c.p, c.dx, _, rfl, q1, sm, ?_⟩
    rw [show putF "_wait" (V.ref x) (clfl c.la c.pl CS.fn.s c.f c.wa c.ka) = clfl c.la c.pl CS.fn.s c.f x c.ka from rfl]
    generalize upd _ c.p (.ins (He.ga K "Client") c.dx (clfl c.la c.pl CS.fn.s c.f x c.ka)) = H1 at r1 ⊢
    have hb1 := hb.im r1.im
    have hl1 := hi.lt.im r1.im
    have hp1 := r1.c.get (a := c.p) (o := .ins (He.ga K "Client") c.dx (clfl c.la c.pl CS.fn.s c.f x c.ka)) (by simp [clM, clO])
    refine ⟨_, rfl, c.p, c.dx, _, _, rfl, hp1, rfl, _, rfl, c.p, c.dx, _, rfl, hp1, rfl, _, rfl, { c with st := .fn, wa := x, wx := dx', b := now, g := c.f, d := now + c.f }, b, M, rfl, hp1, hl1, hb1, fun y H2 s2 hy => ?_⟩
    refine ⟨y, keepL c.L M.ttag, rfl, hy, keepL_ok hi.lk lm, none, rfl, keepL_x _ _, fun H3 s3 => ⟨by show 2 ≤ sizeLine; decide, fun t ht => ⟨by show 1 ≤ sizeLine; decide, fun l hnl => ?_⟩⟩⟩
    obtain ⟨n1, n2, s5, g1, g2⟩ := new2 (o := .tup [.str c.pl, .str (tx (keepL c.L M.ttag))]) (u := .lst [.ref t]) ht hnl
    have s15 := (s2.trans s3).trans s5
    have r5 := r1.new s15 ((s2.trans s3).free n2) g2
    have g1' := g1
    refine ⟨_, rfl, c.p, c.dx, _, rfl, s15 _ _ hp1, sm, ?_⟩
    rw [show putF "_keep" (V.ref l) (clfl c.la c.pl CS.fn.s c.f x c.ka) = clfl c.la c.pl CS.fn.s c.f x l from rfl]
    have r6 := r5.set (A := [(l, .lst [.ref t])]) (B := [(x, .ins (He.ga K "Wait") dx' (wfl now c.f c.f (now + c.f))), (c.ka, .lst (c.kl.map V.ref))]) (o' := .ins (He.ga K "Client") c.dx (clfl c.la c.pl CS.fn.s c.f x l)) rfl
    have g1' := r6.im
    have gt : (upd (upd (upd H3 t (.tup [.str c.pl, .str (tx (keepL c.L M.ttag))])) l (.lst [.ref t])) c.p (.ins (He.ga K "Client") c.dx (clfl c.la c.pl CS.fn.s c.f x l))) t = some (.tup [.str c.pl, .str (tx (keepL c.L M.ttag))]) := by
      rw [upd_ne (ne_of g1 (s15 _ _ hp1) (by intro z; cases z))]
      exact g1
    generalize (upd (upd (upd H3 t (.tup [.str c.pl, .str (tx (keepL c.L M.ttag))])) l (.lst [.ref t])) c.p (.ins (He.ga K "Client") c.dx (clfl c.la c.pl CS.fn.s c.f x l))) = H6 at r6 gt g1' ⊢
    have r7 : Run H (clM K c) H6 (clM K (finC c M now x dx' l t)) := (r6.sub (sub4 _ _ _ _)).perm (perm_of3 _ _ _)
    have hp6 := r7.c.get (a := c.p) (o := .ins (He.ga K "Client") c.dx (clfl c.la c.pl CS.fn.s c.f x l)) (by simp [clM, clO, finC])
    have hk6 : H6 l = some (.lst [.ref t]) := r7.c.get (by simp [clM, finC])
    refine ⟨_, rfl, c.p, c.dx, _, _, rfl, hp6, rfl, l, _, rfl, .inl (SqL.of hk6), fun r hnr => ?_⟩
    have s7 := same_upd (o := .lst [.ref t]) hnr
    have r8 := r7.add (o := .lst [.ref t]) hnr
    refine ⟨_, rfl, b, dm, _, _, rfl, s7 _ _ (r7.im _ _ hm rfl), rfl, by show 2 ≤ sizeLine; decide, fun t2 ht2 => ?_⟩
    rw [em]
    have s8 := same_upd (o := .tup [.ref r, .int n]) ht2
    have r9 := r8.same s8
    have h := hi.im r9.im
    have gt9 := (s7.trans s8) _ _ gt
    exact k t2 r [t] x dx' l t _ r9 ⟨h.lt, h.of, h.lk, h.xk, Nat.le_refl 1, fun y m => by rw [List.mem_singleton.mp m]; exact gt9⟩ upd_same (RwI.one gt9)

end K7
set_option maxHeartbeats 4000000
set_option pp.maxSteps 400
namespace K7
open PySem PySem.Spec PyProof.Rows L2 SX TK TKS TKC
open C8 (pe_c)
/-! ### servers -/
inductive SS where | opn | snt | kpt | ovr
  deriving DecidableEq
def SS.s : SS → Str | .opn => "open" | .snt => "sent" | .kpt => "kept" | .ovr => "over"
structure WtR where
  a : Addr
  x : Addr
  b : Int
  g : Int
  d : Int
structure SvR where
  p : Addr
  dx : Addr
  la : Addr
  al : Addr
  L : Ltr
  o : Option Off
  pl : Str
  f : Int
  st : SS
  code : V
  w : Option WtR
  tl : List Addr
  tz : Str
def wvO : Option WtR → V
  | none => .non
  | some w => .ref w.a
def wM (K : PySem.W.Frag) (f : Int) : Option WtR → List Cell
  | none => []
  | some w => [(w.a, .ins (He.ga K "Wait") w.x (wfl w.b f w.g w.d))]
def svfl (la : Addr) (pl st : Str) (code : V) (f : Int) (wv : V) (al : Addr) : List (Str × V) := [("letter", .ref la), ("place", .str pl), ("state", .str st), ("code", code), ("_first", .int f), ("_wait", wv), ("_latest", .ref al)]
instance {la : Addr} {pl st : Str} {code : V} {f : Int} {wv : V} {al : Addr} : SmallF (svfl la pl st code f wv al) 7 := ⟨Nat.le_refl _⟩
def svO (K : PySem.W.Frag) (s : SvR) : HO := .ins (He.ga K "Server") s.dx (svfl s.la s.pl s.st.s s.code s.f (wvO s.w) s.al)
def svM (K : PySem.W.Frag) (s : SvR) : List Cell := (s.p, svO K s) :: (s.al, .lst (s.tl.map V.ref)) :: wM K s.f s.w
structure SvI (K : PySem.W.Frag) (H : Hp) (s : SvR) : Prop where
  lt : LetAt K H s.la s.L
  of : OffO H s.L.offer s.o
  lk : LOk s.L
  kn : s.tl.length ≤ 1
  kt : ∀ t ∈ s.tl, H t = some (.tup [.str s.pl, .str s.tz])
theorem SvI.im {K : PySem.W.Frag} {H H' : Hp} {s : SvR} (h : SvI K H s) (i : Im H H') : SvI K H' s := ⟨h.lt.im i, h.of.im i, h.lk, h.kn, fun t m => i _ _ (h.kt t m) rfl⟩
theorem row_same {H : Hp} {pl z : Str} {kl : List Addr} (h : ∀ t ∈ kl, H t = some (.tup [.str pl, .str z])) : RwI H kl (kl.map fun _ => (pl, z)) := by
  induction kl with
  | nil => trivial
  | cons t r ih => exact ⟨h t (List.mem_cons_self ..), ih fun x m => h x (List.mem_cons_of_mem _ m)⟩
theorem ss_is (a : SS) (b : SS) : decide (V.str a.s = V.str b.s) = decide (a = b) := by cases a <;> cases b <;> rfl
def newS (p dx la al : Addr) (L : Ltr) (o : Option Off) (pl : Str) (f : Int) : SvR := ⟨p, dx, la, al, L, o, pl, f, .opn, .non, none, [], ""⟩
def sv6 (la : Addr) (pl : Str) (f : Int) : List (Str × V) := [("letter", .ref la), ("place", .str pl), ("state", .str "open"), ("code", .non), ("_first", .int f), ("_wait", .non)]
instance {la : Addr} {pl : Str} {f : Int} : SmallF (sv6 la pl f) 6 := ⟨Nat.le_refl _⟩
def spSvInit (K : PySem.W.Frag) : Sp := fun vs H Q _ => ∃ (p dx la : Addr) (pl : Str) (f : Int), vs = [.ref p, .ref la, .str pl, .int f] ∧ H p = some (.ins (He.ga K "Server") dx []) ∧
  ∀ al H', (∀ L o, Run H [(p, .ins (He.ga K "Server") dx [])] H' (svM K (newS p dx la al L o pl f))) → Q .non H'
theorem ok_Server___init {P : Program} {w : World} {K : PySem.W.Frag} {mg : Str → Option Value} {base : Heap} {f : Addr} {fd : FuncData} (T : Tx K mg) 
    (F : FunD K "__init__" "Server.__init__" (defArgs s_Server___init) (defBody s_Server___init) (defScope s_Server___init) [] [] f fd) : FnOk P w K mg base CX0 1 f fd ["self", "letter", "place", "first"] (spSvInit K) := by
  refine F.ok sc_Server___init (fun vs H Q E h => ?_) (fun cdv A outer s H vs Q E hr h => ?_)
  · obtain ⟨p, dx, la, pl, f, rfl, _⟩ := h
    rfl
  · obtain ⟨p, dx, la, pl, f, rfl, hp, k⟩ := h
    refine ⟨_, PSs.nox (pss_cons (ps_fldC rfl T.cl_Server T.na_Server_letter (pv 0) (pv 1) rfl) (pss_cons (ps_fldC rfl T.cl_Server T.na_Server_place (pv 0) (pv 2) rfl) (pss_cons (ps_fldC rfl T.cl_Server T.na_Server_state (pv 0) pe_str rfl) (pss_cons (ps_fldC rfl T.cl_Server T.na_Server_code (pv 0) pe_non rfl) (pss_cons (ps_fldC rfl T.cl_Server T.na_Server__first (pv 0) (pv 3) rfl) (pss_cons (ps_fldC rfl T.cl_Server T.na_Server__wait (pv 0) pe_non rfl) (pss_one (ps_fldC rfl T.cl_Server T.na_Server__latest (pv 0) (pe_lst pa_nil) rfl)))))))), ?_⟩
    refine ⟨_, rfl, _, rfl, p, dx, _, rfl, hp, sm, ?_⟩
    refine ⟨_, rfl, _, rfl, p, dx, _, rfl, upd_same, sm, ?_⟩
    refine ⟨_, rfl, p, dx, _, rfl, upd_same, sm, ?_⟩
    refine ⟨_, rfl, p, dx, _, rfl, upd_same, sm, ?_⟩
    refine ⟨_, rfl, _, rfl, p, dx, _, rfl, upd_same, sm, ?_⟩
    refine ⟨_, rfl, p, dx, _, rfl, upd_same, sm, ?_⟩
    simp only [upd_upd]
    rw [show putF "_wait" V.non (putF "_first" (V.int f) (putF "code" V.non (putF "state" (V.str "open") (putF "place" (V.str pl) (putF "letter" (V.ref la) []))))) = (sv6 la pl f) from rfl]
    have r1 := (Run.refl (cells1 hp)).set (A := []) (B := []) (o' := .ins (He.ga K "Server") dx (sv6 la pl f)) rfl
    generalize upd H p (.ins (He.ga K "Server") dx (sv6 la pl f)) = H1 at r1 ⊢
    refine ⟨by show 0 ≤ sizeLine; decide, fun al hal => ?_⟩
    have r2 := r1.add (o := .lst []) hal
    refine ⟨_, rfl, p, dx, _, rfl, r2.c.get (o := .ins (He.ga K "Server") dx (sv6 la pl f)) (by simp), sm, ?_⟩
    have r3 := r2.set (A := [(al, .lst [])]) (B := []) (o' := .ins (He.ga K "Server") dx (svfl la pl "open" .non f .non al)) rfl
    exact k al _ fun L o => r3.perm (List.Perm.swap _ _ _)
def spSvOver (K : PySem.W.Frag) : Sp := fun vs H Q _ => ∃ s : SvR, vs = [.ref s.p] ∧ H s.p = some (svO K s) ∧ Q (.bl (decide (s.st = .ovr))) H
theorem ok_Server_is_over {P : Program} {w : World} {K : PySem.W.Frag} {mg : Str → Option Value} {base : Heap} {f : Addr} {fd : FuncData} (T : Tx K mg) 
    (F : FunD K "is_over" "Server.is_over" (defArgs s_Server_is_over) (defBody s_Server_is_over) (defScope s_Server_is_over) [] [] f fd) : FnOk P w K mg base CX0 1 f fd ["self"] (spSvOver K) := by
  refine F.ok sc_Server_is_over (fun vs H Q E h => ?_) (fun cdv A outer s0 H vs Q E hr h => ?_)
  · obtain ⟨s, rfl, _⟩ := h
    rfl
  · obtain ⟨s, rfl, hp, k⟩ := h
    refine ⟨_, PSs.nox (pss_one (ps_ret (pe_cmpR op_eq (pe_fldC rfl T.cl_Server T.na_Server_state (pv 0) rfl) pe_str (nomark _)))), ?_⟩
    refine ⟨_, rfl, s.p, s.dx, _, _, rfl, hp, rfl, rfl, ?_⟩
    have e : decide (V.str s.st.s = V.str "over") = decide (s.st = .ovr) := by cases s.st <;> rfl
    rw [e]
    exact k
def againL (s : SvR) : List Addr := if (decide (s.st = .opn) || decide (s.st = .snt)) = true then s.tl else []
def againO (s : SvR) : List (Str × Str) := (againL s).map fun _ => (s.pl, s.tz)
def spSvAgain (K : PySem.W.Frag) : Sp := fun vs H Q _ => ∃ s : SvR, vs = [.ref s.p] ∧ Cells H (svM K s) ∧ SvI K H s ∧ ∀ r ts H', Same H H' → H r = none → H' r = some (.lst (ts.map V.ref)) → RwI H' ts (againO s) → Q (.ref r) H'
theorem ok_Server_again {P : Program} {w : World} {K : PySem.W.Frag} {mg : Str → Option Value} {base : Heap} {f : Addr} {fd : FuncData} (T : Tx K mg) 
    (F : FunD K "again" "Server.again" (defArgs s_Server_again) (defBody s_Server_again) (defScope s_Server_again) [] [] f fd) : FnOk P w K mg base CX0 1 f fd ["self"] (spSvAgain K) := by
  refine F.ok sc_Server_again (fun vs H Q E h => ?_) (fun cdv A outer s0 H vs Q E hr h => ?_)
  · obtain ⟨s, rfl, _⟩ := h
    rfl
  · obtain ⟨s, rfl, hc, hi, k⟩ := h
    have hp : H s.p = some (svO K s) := hc.get (by simp [svM])
    have hl : H s.al = some (.lst (s.tl.map V.ref)) := hc.get (by simp [svM])
    refine ⟨_, PSs.nox (pss_one (ps_ret (pe_ifExp (pt_cmpR op_in_seq (pe_fldC rfl T.cl_Server T.na_Server_state (pv 0) rfl) (pe_tup (pa_cons pe_str (pa_cons pe_str pa_nil))) (by with_unfolding_all rfl)) (pe_callTy call_list_of rfl T.f_list (by decide +kernel) (pa_cons (pe_fldC rfl T.cl_Server T.na_Server__latest (pv 0) rfl) pa_nil)) (pe_lst pa_nil)))), ?_⟩
    refine ⟨_, rfl, s.p, s.dx, _, _, rfl, hp, rfl, by show 2 ≤ sizeLine; decide, fun t hnt => ?_⟩
    have st := same_upd (o := .tup [.str "open", .str "sent"]) hnt
    refine ⟨t, _, rfl, .inr (SqT.of upd_same), rfl, rfl, _, rfl, ?_⟩
    have e1 : inV (V.str s.st.s) [.str "open", .str "sent"] = (decide (s.st = .opn) || decide (s.st = .snt)) := by cases s.st <;> rfl
    show (if inV (V.str s.st.s) [.str "open", .str "sent"] = true then _ else _)
    rw [e1]
    have hrw : RwI H (againL s) (againO s) := by
      unfold againO againL
      split
      · exact row_same hi.kt
      · trivial
    cases e : (decide (s.st = .opn) || decide (s.st = .snt)) with
    | true =>
      have e2 : againL s = s.tl := if_pos e
      refine iteT ⟨_, rfl, s.p, s.dx, _, _, rfl, st _ _ hp, rfl, s.al, _, rfl, .inl (SqL.of (st _ _ hl)), fun r hr => ?_⟩
      have sr := st.trans (same_upd (o := .lst (s.tl.map V.ref)) hr)
      exact k r (againL s) _ sr (st.free hr) (by rw [e2]; exact upd_same) (hrw.im (Im.of_same sr))
    | false =>
      have e2 : againL s = [] := if_neg (by rw [e]; exact Bool.false_ne_true)
      refine iteF ⟨by show 0 ≤ sizeLine; decide, fun r hr => ?_⟩
      have sr := st.trans (same_upd (o := .lst []) hr)
      exact k r (againL s) _ sr (st.free hr) (by rw [e2]; exact upd_same) (hrw.im (Im.of_same sr))
/-! reply, keep -/
def replyS (s : SvR) (text : Str) (n now : Int) (al t wa wx : Addr) : SvR :=
  if s.st = .opn then (if 20 ≤ n then { s with st := .snt, code := .int n, al := al, tl := [t], tz := text, w := some ⟨wa, wx, now, s.f, now + s.f⟩ } else { s with code := .int n, al := al, tl := [t], tz := text }) else s
def replyO (s : SvR) (text : Str) : List (Str × Str) := if s.st = .opn then [(s.pl, text)] else []
def spSvReply (K : PySem.W.Frag) : Sp := fun vs H Q _ => ∃ (s : SvR) (b : Addr) (M : Ltr) (o : Option Off) (n now : Int), vs = [.ref s.p, .ref b, .int now] ∧ Cells H (svM K s) ∧ SvI K H s ∧ LetAt K H b M ∧ LOk M ∧ OffO H M.offer o ∧ XOk M o ∧ M.code = .int n ∧
  ∀ r ts al t wa wx H', Run H (svM K s) H' ((r, .lst (ts.map V.ref)) :: svM K (replyS s (textOf (linesX M o)) n now al t wa wx)) → SvI K H' (replyS s (textOf (linesX M o)) n now al t wa wx) → RwI H' ts (replyO s (textOf (linesX M o))) → Q (.ref r) H'
theorem ok_Server_reply {P : Program} {w : World} {K : PySem.W.Frag} {mg : Str → Option Value} {base : Heap} {f : Addr} {fd : FuncData} (T : Tx K mg) (c_write : C8.Cal P w K mg base 2 "write" (spWrite1 K) []) (c_is_final : C8.Cal P w K mg base 1 "is_final" spFinal []) (c_mk_Wait : C8.Mak P w K mg base 1 "Wait" (He.ga K "Wait") (spWaitInit K) [])
    (F : FunD K "reply" "Server.reply" (defArgs s_Server_reply) (defBody s_Server_reply) (defScope s_Server_reply) [] [] f fd) : FnOk P w K mg base CX0 3 f fd ["self", "letter", "now"] (spSvReply K) := by
  refine F.ok sc_Server_reply (fun vs H Q E h => ?_) (fun cdv A outer s0 H vs Q E hr h => ?_)
  · obtain ⟨s, b, M, o, n, now, rfl, _⟩ := h
    rfl
  · obtain ⟨s, b, M, o, n, now, rfl, hc, hi, hb, lm, om, xm, em, k⟩ := h
    have hp : H s.p = some (svO K s) := hc.get (by simp [svM])
    have r0 := Run.refl hc
    obtain ⟨dm, hm⟩ := id hb
    generalize htx : textOf (linesX M o) = text at *
    refine ⟨_, PSs.nox (C8.pss_cut (ps_if (pt_cmpR op_ne (pe_fldC rfl T.cl_Server T.na_Server_state (pv 0) rfl) pe_str (nomark _)) (pss_one (ps_ret (pe_lst pa_nil))) pss_nil) (pss_cons (ps_fldC rfl T.cl_Server T.na_Server_code (pv 0) (pe_fldC rfl T.cl_Letter T.na_Letter_code (pv 1) rfl) rfl) (pss_cons (ps_fldC rfl T.cl_Server T.na_Server__latest (pv 0) (pe_lst (pa_cons (pe_tup (pa_cons (pe_fldC rfl T.cl_Server T.na_Server_place (pv 0) rfl) (pa_cons (pe_c c_write hr (by decide) rfl (pa_cons (pv 1) pa_nil)) pa_nil))) pa_nil)) rfl) (C8.pss_cut (ps_if (pt_val (pe_c c_is_final hr (by decide) rfl (pa_cons (pe_fldC rfl T.cl_Letter T.na_Letter_code (pv 1) rfl) pa_nil))) (pss_cons (ps_fldC rfl T.cl_Server T.na_Server_state (pv 0) pe_str rfl) (pss_one (ps_fldC rfl T.cl_Server T.na_Server__wait (pv 0) (C8.pe_mk c_mk_Wait hr (by decide) rfl (pa_cons (pv 2) (pa_cons (pe_fldC rfl T.cl_Server T.na_Server__first (pv 0) rfl) pa_nil))) rfl))) pss_nil) (pss_one (ps_ret (pe_callTy call_list_of rfl T.f_list (by decide +kernel) (pa_cons (pe_fldC rfl T.cl_Server T.na_Server__latest (pv 0) rfl) pa_nil)))))))), ?_⟩
    refine ⟨fun σ' H' => σ' = [some (.ref s.p), some (.ref b), some (.int now)] ∧ H' = H ∧ s.st = .opn, ?_, ?_⟩
    · refine ⟨_, rfl, s.p, s.dx, _, _, rfl, hp, rfl, rfl, _, rfl, ?_⟩
      show (if (!decide (V.str s.st.s = V.str SS.opn.s)) = true then _ else _)
      rw [ss_is]
      by_cases e : s.st = .opn
      · rw [decide_eq_true e]
        exact iteF ⟨rfl, rfl, e⟩
      · rw [decide_eq_false e]
        have e1 : ∀ al t wa wx, replyS s text n now al t wa wx = s := fun al t wa wx => if_neg e
        have e2 : replyO s text = [] := if_neg e
        simp only [e1, e2] at k
        refine iteT ⟨by show 0 ≤ sizeLine; decide, fun l hl => ?_⟩
        exact k l [] 0 0 0 0 _ (r0.add hl) (hi.im (Im.of_same (same_upd hl))) trivial
    rintro σ' H1 ⟨rfl, e9, hst⟩
    obtain rfl : H = H1 := e9.symm
    have e2 : replyO s text = [(s.pl, text)] := if_pos hst
    rw [e2] at k
    refine ⟨_, rfl, b, dm, _, _, rfl, hm, rfl, _, rfl, s.p, s.dx, _, rfl, hp, sm, ?_⟩
    rw [em, show putF "code" (V.int n) (svfl s.la s.pl s.st.s s.code s.f (wvO s.w) s.al) = svfl s.la s.pl s.st.s (.int n) s.f (wvO s.w) s.al from rfl]
    have r1 := r0.set (A := []) (B := (s.al, .lst (s.tl.map V.ref)) :: wM K s.f s.w) (o' := .ins (He.ga K "Server") s.dx (svfl s.la s.pl s.st.s (.int n) s.f (wvO s.w) s.al)) rfl
    generalize upd H s.p (.ins (He.ga K "Server") s.dx (svfl s.la s.pl s.st.s (.int n) s.f (wvO s.w) s.al)) = H1 at r1 ⊢
    have hp1 := r1.c.get (a := s.p) (o := .ins (He.ga K "Server") s.dx (svfl s.la s.pl s.st.s (.int n) s.f (wvO s.w) s.al)) (by simp)
    have hb1 := hb.im r1.im
    refine ⟨_, rfl, s.p, s.dx, _, _, rfl, hp1, rfl, _, rfl, b, M, rfl, hb1, lm, o, om.im r1.im, xm, fun H2 s2 => ⟨by show 2 ≤ sizeLine; decide, fun t hnt => ⟨by show 1 ≤ sizeLine; decide, fun l hnl => ?_⟩⟩⟩
    rw [htx] at hnl ⊢
    obtain ⟨n1, n2, s5, g1, g2⟩ := new2 (o := .tup [.str s.pl, .str text]) (u := .lst [.ref t]) hnt hnl
    have s25 := s2.trans s5
    have r2 := r1.new s25 (s2.free n2) g2
    have hp2 := s25 _ _ hp1
    have hb2 := hb1.same s25
    generalize (upd (upd H2 t (.tup [.str s.pl, .str text])) l (.lst [.ref t])) = H3 at r2 g1 hp2 hb2 ⊢
    refine ⟨_, rfl, s.p, s.dx, _, rfl, hp2, sm, ?_⟩
    rw [show putF "_latest" (V.ref l) (svfl s.la s.pl s.st.s (.int n) s.f (wvO s.w) s.al) = svfl s.la s.pl s.st.s (.int n) s.f (wvO s.w) l from rfl]
    have r3 := r2.set (A := [(l, .lst [.ref t])]) (B := (s.al, .lst (s.tl.map V.ref)) :: wM K s.f s.w) (o' := .ins (He.ga K "Server") s.dx (svfl s.la s.pl s.st.s (.int n) s.f (wvO s.w) l)) rfl
    have g3 := (r3.im) 
    have g4 : (upd H3 s.p (.ins (He.ga K "Server") s.dx (svfl s.la s.pl s.st.s (.int n) s.f (wvO s.w) l))) t = some (.tup [.str s.pl, .str text]) := (upd_ne (ne_of g1 hp2 (by intro z; cases z))).trans g1
    have r4 : Run H (svM K s) (upd H3 s.p (.ins (He.ga K "Server") s.dx (svfl s.la s.pl s.st.s (.int n) s.f (wvO s.w) l))) (svM K { s with code := .int n, al := l, tl := [t], tz := text }) :=
      (r3.sub (M2 := (l, .lst [.ref t]) :: (s.p, .ins (He.ga K "Server") s.dx (svfl s.la s.pl s.st.s (.int n) s.f (wvO s.w) l)) :: wM K s.f s.w) (((List.Sublist.cons _ (List.Sublist.refl _)).cons₂ _).cons₂ _)).perm (List.Perm.swap _ _ _)
    generalize upd H3 s.p (.ins (He.ga K "Server") s.dx (svfl s.la s.pl s.st.s (.int n) s.f (wvO s.w) l)) = H4 at r4 g4 ⊢
    clear r3 r2 r1 g1 g2 g3 hp1 hp2
    -- final
    refine ⟨fun σ' H' => σ' = [some (.ref s.p), some (.ref b), some (.int now)] ∧ ∃ wa wx, Run H (svM K s) H' (svM K (replyS s text n now l t wa wx)) ∧ H' t = some (.tup [.str s.pl, .str text]), ?_, ?_⟩
    · have hb4 := hb.im r4.im
      obtain ⟨dm4, hm4⟩ := hb4
      refine ⟨_, rfl, b, dm4, _, _, rfl, hm4, rfl, n, congrArg (fun v => [v]) em, _, rfl, ?_⟩
      by_cases e : 20 ≤ n
      · rw [decide_eq_true (show n ≥ 20 from e)]
        have e1 : ∀ wa wx, replyS s text n now l t wa wx = { s with st := .snt, code := .int n, al := l, tl := [t], tz := text, w := some ⟨wa, wx, now, s.f, now + s.f⟩ } := fun wa wx => by unfold replyS; rw [if_pos hst, if_pos e]
        have hp4 := r4.c.get (a := s.p) (o := .ins (He.ga K "Server") s.dx (svfl s.la s.pl s.st.s (.int n) s.f (wvO s.w) l)) (by simp [svM, svO])
        refine iteT ⟨_, rfl, s.p, s.dx, _, rfl, hp4, sm, ?_⟩
        rw [show putF "state" (V.str "sent") (svfl s.la s.pl s.st.s (.int n) s.f (wvO s.w) l) = svfl s.la s.pl "sent" (.int n) s.f (wvO s.w) l from rfl]
        have r5 := r4.set (A := []) (B := (l, .lst [.ref t]) :: wM K s.f s.w) (o' := .ins (He.ga K "Server") s.dx (svfl s.la s.pl "sent" (.int n) s.f (wvO s.w) l)) rfl
        have g5 : (upd H4 s.p (.ins (He.ga K "Server") s.dx (svfl s.la s.pl "sent" (.int n) s.f (wvO s.w) l))) t = some (.tup [.str s.pl, .str text]) := (upd_ne (ne_of g4 hp4 (by intro z; cases z))).trans g4
        generalize upd H4 s.p (.ins (He.ga K "Server") s.dx (svfl s.la s.pl "sent" (.int n) s.f (wvO s.w) l)) = H5 at r5 g5 ⊢
        have hp5 := r5.c.get (a := s.p) (o := .ins (He.ga K "Server") s.dx (svfl s.la s.pl "sent" (.int n) s.f (wvO s.w) l)) (by simp)
        refine ⟨_, rfl, _, rfl, s.p, s.dx, _, _, rfl, hp5, rfl, fun x dx' hx hdx hne => ?_⟩
        refine ⟨x, dx', now, s.f, rfl, upd_same, ?_⟩
        rw [upd_upd]
        have r6 := r5.own (o := .ins (He.ga K "Wait") dx' (wfl now s.f s.f (now + s.f))) hx hdx hne.symm
        have g6 := (same_own (C := He.ga K "Wait") (fs := wfl now s.f s.f (now + s.f)) hx hdx) _ _ g5
        generalize upd (upd H5 dx' (.own x)) x (.ins (He.ga K "Wait") dx' (wfl now s.f s.f (now + s.f))) = H6 at r6 g6 ⊢
        have hp6 := r6.c.get (a := s.p) (o := .ins (He.ga K "Server") s.dx (svfl s.la s.pl "sent" (.int n) s.f (wvO s.w) l)) (by simp)
        refine ⟨rfl, _, rfl, s.p, s.dx, _, rfl, hp6, sm, rfl, x, dx', ?_, ?_⟩
        · rw [e1, show putF "_wait" (V.ref x) (svfl s.la s.pl "sent" (.int n) s.f (wvO s.w) l) = svfl s.la s.pl "sent" (.int n) s.f (.ref x) l from rfl]
          have r7 := r6.set (A := [(x, .ins (He.ga K "Wait") dx' (wfl now s.f s.f (now + s.f)))]) (B := (l, .lst [.ref t]) :: wM K s.f s.w) (o' := .ins (He.ga K "Server") s.dx (svfl s.la s.pl "sent" (.int n) s.f (.ref x) l)) rfl
          exact (r7.sub (List.sublist_append_left [(x, HO.ins (He.ga K "Wait") dx' (wfl now s.f s.f (now + s.f))), (s.p, .ins (He.ga K "Server") s.dx (svfl s.la s.pl "sent" (.int n) s.f (.ref x) l)), (l, .lst [.ref t])] (wM K s.f s.w))).perm (perm_of3 _ _ _)
        · exact (upd_ne (ne_of g6 hp6 (by intro z; cases z))).trans g6
      · rw [decide_eq_false (show ¬ n ≥ 20 from e)]
        have e1 : ∀ wa wx, replyS s text n now l t wa wx = { s with code := .int n, al := l, tl := [t], tz := text } := fun wa wx => by unfold replyS; rw [if_pos hst, if_neg e]
        exact iteF ⟨rfl, 0, 0, by rw [e1]; exact r4, g4⟩
    rintro σ' H5 ⟨rfl, wa, wx, r5, g5⟩
    have e3 : (replyS s text n now l t wa wx).p = s.p ∧ (replyS s text n now l t wa wx).al = l ∧ (replyS s text n now l t wa wx).tl = [t] ∧ (replyS s text n now l t wa wx).dx = s.dx ∧ SvI K H5 (replyS s text n now l t wa wx) := by
      have h := hi.im r5.im
      unfold replyS
      rw [if_pos hst]
      split
      · exact ⟨rfl, rfl, rfl, rfl, h.lt, h.of, h.lk, Nat.le_refl 1, fun y m => by rw [List.mem_singleton.mp m]; exact g5⟩
      · exact ⟨rfl, rfl, rfl, rfl, h.lt, h.of, h.lk, Nat.le_refl 1, fun y m => by rw [List.mem_singleton.mp m]; exact g5⟩
    have k9 := fun r H' => k r [t] l t wa wx H'
    generalize replyS s text n now l t wa wx = s' at *
    obtain ⟨e4, e5, e6, e7, hi5⟩ := e3
    have hp5 : H5 s'.p = some (svO K s') := r5.c.get (by simp [svM])
    have hl5 : H5 s'.al = some (.lst (s'.tl.map V.ref)) := r5.c.get (by simp [svM])
    rw [e4] at hp5
    rw [e6] at hl5
    refine ⟨_, rfl, s.p, s'.dx, _, _, rfl, hp5, rfl, s'.al, _, rfl, .inl (SqL.of hl5), fun r hnr => ?_⟩
    have r6 := r5.add (o := .lst (([t] : List Addr).map V.ref)) hnr
    have s6 := same_upd (o := .lst (([t] : List Addr).map V.ref)) hnr
    exact k9 r _ r6 (hi5.im (Im.of_same s6)) (RwI.one (s6 _ _ g5))

end K7
set_option maxHeartbeats 4000000
set_option pp.maxSteps 400
namespace K7
open PySem PySem.Spec PyProof.Rows L2 SX TK TKS TKC
open C8 (pe_c)
/-! ### servers: keep, matches -/
def keepB (s : SvR) : Bool := decide (s.st = .snt) && isC s.L
def keepS (s : SvR) (now : Int) (wa wx : Addr) : SvR := if keepB s = true then { s with st := .kpt, w := some ⟨wa, wx, now, s.f, now + s.f⟩ } else s
def spSvKeep (K : PySem.W.Frag) : Sp := fun vs H Q _ => ∃ (s : SvR) (now : Int), vs = [.ref s.p, .int now] ∧ Cells H (svM K s) ∧ LetAt K H s.la s.L ∧ ∀ wa wx H', Run H (svM K s) H' (svM K (keepS s now wa wx)) → Q (.bl (keepB s)) H'
theorem ok_Server_keep {P : Program} {w : World} {K : PySem.W.Frag} {mg : Str → Option Value} {base : Heap} {f : Addr} {fd : FuncData} (T : Tx K mg) (c_mk_Wait : C8.Mak P w K mg base 1 "Wait" (He.ga K "Wait") (spWaitInit K) [])
    (F : FunD K "keep" "Server.keep" (defArgs s_Server_keep) (defBody s_Server_keep) (defScope s_Server_keep) [] [] f fd) : FnOk P w K mg base CX0 3 f fd ["self", "now"] (spSvKeep K) := by
  refine F.ok sc_Server_keep (fun vs H Q E h => ?_) (fun cdv A outer s0 H vs Q E hr h => ?_)
  · obtain ⟨s, now, rfl, _⟩ := h
    rfl
  · obtain ⟨s, now, rfl, hc, ⟨dl, hl⟩, k⟩ := h
    have hp : H s.p = some (svO K s) := hc.get (by simp [svM])
    have r0 := Run.refl hc
    have eK : keepB s = (decide (s.st = .snt) && decide (s.L.verb = "CALL")) := rfl
    refine ⟨_, PSs.nox (C8.pss_cut (ps_if (PW.pt (pw_or (pt_cmpR op_ne (pe_fldC rfl T.cl_Server T.na_Server_state (pv 0) rfl) pe_str (nomark _)) (pw_or1 (pt_cmpR op_ne (pe_fldC rfl T.cl_Letter T.na_Letter_verb (pe_fldC rfl T.cl_Server T.na_Server_letter (pv 0) rfl) rfl) pe_str (nomark _))))) (pss_one (ps_ret pe_bl)) pss_nil) (pss_cons (ps_fldC rfl T.cl_Server T.na_Server_state (pv 0) pe_str rfl) (pss_cons (ps_fldC rfl T.cl_Server T.na_Server__wait (pv 0) (C8.pe_mk c_mk_Wait hr (by decide) rfl (pa_cons (pv 1) (pa_cons (pe_fldC rfl T.cl_Server T.na_Server__first (pv 0) rfl) pa_nil))) rfl) (pss_one (ps_ret pe_bl))))), ?_⟩
    refine ⟨fun σ' H' => σ' = [some (.ref s.p), some (.int now)] ∧ H' = H ∧ keepB s = true, ?_, ?_⟩
    · have no : keepB s = false → Q (.bl false) H := fun e => by
        have e1 : ∀ wa wx, keepS s now wa wx = s := fun wa wx => if_neg (by rw [e]; exact Bool.false_ne_true)
        have q := k 0 0 H (by rw [e1]; exact r0)
        rw [e] at q
        exact q
      refine ⟨_, rfl, s.p, s.dx, _, _, rfl, hp, rfl, rfl, _, rfl, ?_⟩
      show (if (!decide (V.str s.st.s = V.str SS.snt.s)) = true then _ else _)
      rw [ss_is]
      cases e : decide (s.st = .snt) with
      | false => exact iteT (iteT (no (by rw [eK, e]; rfl)))
      | true =>
        refine iteF ⟨_, rfl, s.p, s.dx, _, _, rfl, hp, rfl, s.la, dl, _, _, rfl, hl, rfl, rfl, _, rfl, ?_⟩
        rw [vstr]
        cases e1 : decide (s.L.verb = "CALL") with
        | false => exact iteT (no (by rw [eK, e, e1]; rfl))
        | true => exact iteF ⟨rfl, rfl, by rw [eK, e, e1]; rfl⟩
    rintro σ' H1 ⟨rfl, e9, eB⟩
    obtain rfl : H = H1 := e9.symm
    refine ⟨_, rfl, s.p, s.dx, _, rfl, hp, sm, ?_⟩
    rw [show putF "state" (V.str "kept") (svfl s.la s.pl s.st.s s.code s.f (wvO s.w) s.al) = svfl s.la s.pl "kept" s.code s.f (wvO s.w) s.al from rfl]
    have r5 := r0.set (A := []) (B := (s.al, .lst (s.tl.map V.ref)) :: wM K s.f s.w) (o' := .ins (He.ga K "Server") s.dx (svfl s.la s.pl "kept" s.code s.f (wvO s.w) s.al)) rfl
    generalize upd H s.p (.ins (He.ga K "Server") s.dx (svfl s.la s.pl "kept" s.code s.f (wvO s.w) s.al)) = H5 at r5 ⊢
    have hp5 := r5.c.get (a := s.p) (o := .ins (He.ga K "Server") s.dx (svfl s.la s.pl "kept" s.code s.f (wvO s.w) s.al)) (by simp)
    refine ⟨_, rfl, _, rfl, s.p, s.dx, _, _, rfl, hp5, rfl, fun x dx' hx hdx hne => ?_⟩
    refine ⟨x, dx', now, s.f, rfl, upd_same, ?_⟩
    rw [upd_upd]
    have r6 := r5.own (o := .ins (He.ga K "Wait") dx' (wfl now s.f s.f (now + s.f))) hx hdx hne.symm
    generalize upd (upd H5 dx' (.own x)) x (.ins (He.ga K "Wait") dx' (wfl now s.f s.f (now + s.f))) = H6 at r6 ⊢
    have hp6 := r6.c.get (a := s.p) (o := .ins (He.ga K "Server") s.dx (svfl s.la s.pl "kept" s.code s.f (wvO s.w) s.al)) (by simp)
    refine ⟨rfl, _, rfl, s.p, s.dx, _, rfl, hp6, sm, ?_⟩
    rw [show putF "_wait" (V.ref x) (svfl s.la s.pl "kept" s.code s.f (wvO s.w) s.al) = svfl s.la s.pl "kept" s.code s.f (.ref x) s.al from rfl]
    have r7 := r6.set (A := [(x, .ins (He.ga K "Wait") dx' (wfl now s.f s.f (now + s.f)))]) (B := (s.al, .lst (s.tl.map V.ref)) :: wM K s.f s.w) (o' := .ins (He.ga K "Server") s.dx (svfl s.la s.pl "kept" s.code s.f (.ref x) s.al)) rfl
    have r8 := (r7.sub (List.sublist_append_left [(x, HO.ins (He.ga K "Wait") dx' (wfl now s.f s.f (now + s.f))), (s.p, .ins (He.ga K "Server") s.dx (svfl s.la s.pl "kept" s.code s.f (.ref x) s.al)), (s.al, .lst (s.tl.map V.ref))] (wM K s.f s.w))).perm (perm_of3 _ _ _)
    have q := k x dx' _ (by rw [show keepS s now x dx' = _ from if_pos eB]; exact r8)
    rw [eB] at q
    exact q
def keyD (L : Ltr) : PyData := .tuple [.str L.call, .str L.otag, .int L.seq, .str L.way]
theorem keyD_ok {L : Ltr} (h : LOk L) : SeqAt.shaped (keyD L) = true := by
  obtain ⟨_, h1, _, h2, _, _, h3⟩ := h.oks
  have q : (keyD L).canLay0 = true := by simp [keyD, PyData.canLay0, PyData.canLayAll0, show PyData.strOk L.call = true from h1, show PyData.strOk L.otag = true from h2, show PyData.strOk L.way = true from h3]
  unfold SeqAt.shaped
  rw [q, Bool.true_and, decide_eq_true_eq]
  simp [keyD, PyData.depth, PyData.depthAll]
/-- the same request -/
def sameB (O M : Ltr) : Bool := decide (M.call = O.call) && (decide (M.otag = O.otag) && (decide (M.seq = O.seq) && decide (M.way = O.way)))
theorem sameB_eq (O M : Ltr) : PyData.eqv (keyD M) (keyD O) = sameB O M := by
  simp only [keyD, PyData.eqv, PyData.eqvAll, Bool.and_true]
  rfl
def matchB (O M : Ltr) (opl pl : Str) : Bool :=
  if (!decide (M.code = .non)) = true then false else if (!decide (pl = opl)) = true then false
  else if (!decide (M.verb = O.verb) && !(decide (M.verb = "KEEP") && decide (O.verb = "CALL"))) = true then false else sameB O M
def spSvMatch (K : PySem.W.Frag) : Sp := fun vs H Q _ => ∃ (s : SvR) (b : Addr) (M : Ltr) (pl : Str), vs = [.ref s.p, .ref b, .str pl] ∧ H s.p = some (svO K s) ∧ LetAt K H s.la s.L ∧ LetAt K H b M ∧ LOk M ∧ LOk s.L ∧ ∀ H', Same H H' → Q (.bl (matchB s.L M s.pl pl)) H'
theorem ok_Server_matches {P : Program} {w : World} {K : PySem.W.Frag} {mg : Str → Option Value} {base : Heap} {f : Addr} {fd : FuncData} (T : Tx K mg) 
    (F : FunD K "matches" "Server.matches" (defArgs s_Server_matches) (defBody s_Server_matches) (defScope s_Server_matches) [] [] f fd) : FnOk P w K mg base CX0 1 f fd ["self", "letter", "place"] (spSvMatch K) := by
  refine F.ok sc_Server_matches (fun vs H Q E h => ?_) (fun cdv A outer s0 H vs Q E hr h => ?_)
  · obtain ⟨s, b, M, pl, rfl, _⟩ := h
    rfl
  · obtain ⟨s, b, M, pl, rfl, hp, ⟨dl, hl⟩, ⟨db, hb⟩, kM, kL, k⟩ := h
    refine ⟨_, PSs.nox (pss_cons (ps_set (i := 3) sc_Server_matches.nd rfl (Or.inl rfl) (pe_fldC rfl T.cl_Server T.na_Server_letter (pv 0) rfl)) (C8.pss_cut (ps_if (PW.pt (pw_or (pt_cmpR op_notN (pe_fldC rfl T.cl_Letter T.na_Letter_code (pv 1) rfl) pe_non (nomark _)) (pw_or1 (pt_cmpR op_ne (pv 2) (pe_fldC rfl T.cl_Server T.na_Server_place (pv 0) rfl) (nomark _))))) (pss_one (ps_ret pe_bl)) pss_nil) (C8.pss_cut (ps_if (PW.pt (pw_and (pt_cmpR op_ne (pe_fldC rfl T.cl_Letter T.na_Letter_verb (pv 1) rfl) (pe_fldC rfl T.cl_Letter T.na_Letter_verb (pv 3) rfl) (nomark _)) (pw_and1 (pt_not (PW.pt (pw_and (pt_cmpR op_eq (pe_fldC rfl T.cl_Letter T.na_Letter_verb (pv 1) rfl) pe_str (nomark _)) (pw_and1 (pt_cmpR op_eq (pe_fldC rfl T.cl_Letter T.na_Letter_verb (pv 3) rfl) pe_str (nomark _))))))))) (pss_one (ps_ret pe_bl)) pss_nil) (pss_one (ps_ret (pe_cmpR (op_eqD hr.units) (pe_tup (pa_cons (pe_fldC rfl T.cl_Letter T.na_Letter_call (pv 1) rfl) (pa_cons (pe_fldC rfl T.cl_Letter T.na_Letter_origin_tag (pv 1) rfl) (pa_cons (pe_fldC rfl T.cl_Letter T.na_Letter_seq (pv 1) rfl) (pa_cons (pe_fldC rfl T.cl_Letter T.na_Letter_way (pv 1) rfl) pa_nil))))) (pe_tup (pa_cons (pe_fldC rfl T.cl_Letter T.na_Letter_call (pv 3) rfl) (pa_cons (pe_fldC rfl T.cl_Letter T.na_Letter_origin_tag (pv 3) rfl) (pa_cons (pe_fldC rfl T.cl_Letter T.na_Letter_seq (pv 3) rfl) (pa_cons (pe_fldC rfl T.cl_Letter T.na_Letter_way (pv 3) rfl) pa_nil))))) (nomark _))))))), ?_⟩
    refine ⟨_, rfl, s.p, s.dx, _, _, rfl, hp, rfl, ?_⟩
    have kS := k H (Same.refl _)
    unfold matchB at k kS
    refine ⟨fun σ' H' => σ' = [some (.ref s.p), some (.ref b), some (.str pl), some (.ref s.la)] ∧ H' = H ∧ (!decide (M.code = .non)) = false ∧ (!decide (pl = s.pl)) = false, ?_, ?_⟩
    · refine ⟨_, rfl, b, db, _, _, rfl, hb, rfl, rfl, _, rfl, ?_⟩
      cases e1 : (!decide (M.code = .non)) with
      | true =>
        rw [e1, if_pos rfl] at kS
        exact iteT (iteT kS)
      | false =>
        rw [e1, if_neg Bool.false_ne_true] at kS
        refine iteF ⟨_, rfl, _, rfl, s.p, s.dx, _, _, rfl, hp, rfl, rfl, _, rfl, ?_⟩
        rw [vstr]
        cases e2 : (!decide (pl = s.pl)) with
        | true =>
          rw [e2, if_pos rfl] at kS
          exact iteT kS
        | false => exact iteF ⟨rfl, rfl, rfl, rfl⟩
    rintro σ' H' ⟨rfl, e9, e1, e2⟩
    obtain rfl : H = H' := e9.symm
    rw [e1, if_neg Bool.false_ne_true, e2, if_neg Bool.false_ne_true] at k kS
    refine ⟨fun σ' H2 => σ' = [some (.ref s.p), some (.ref b), some (.str pl), some (.ref s.la)] ∧ H2 = H ∧ (!decide (M.verb = s.L.verb) && !(decide (M.verb = "KEEP") && decide (s.L.verb = "CALL"))) = false, ?_, ?_⟩
    · refine ⟨_, rfl, b, db, _, _, rfl, hb, rfl, _, rfl, s.la, dl, _, _, rfl, hl, rfl, rfl, _, rfl, ?_⟩
      rw [vstr]
      cases e3 : (!decide (M.verb = s.L.verb)) with
      | false => exact iteF (iteF ⟨rfl, rfl, rfl⟩)
      | true =>
        rw [e3] at kS
        refine iteT ⟨_, rfl, b, db, _, _, rfl, hb, rfl, rfl, _, rfl, ?_⟩
        rw [vstr]
        cases e4 : decide (M.verb = "KEEP") with
        | false =>
          rw [e4] at kS
          exact iteF (iteT kS)
        | true =>
          rw [e4] at kS
          refine iteT ⟨_, rfl, s.la, dl, _, _, rfl, hl, rfl, rfl, _, rfl, ?_⟩
          rw [vstr]
          cases e5 : decide (s.L.verb = "CALL") with
          | false =>
            rw [e5] at kS
            exact iteT kS
          | true => exact iteF ⟨rfl, rfl, rfl⟩
    rintro σ' H2 ⟨rfl, e9, e3⟩
    obtain rfl : H = H2 := e9.symm
    rw [e3, if_neg Bool.false_ne_true] at k
    refine ⟨_, rfl, b, db, _, _, rfl, hb, rfl, _, rfl, b, db, _, _, rfl, hb, rfl, _, rfl, b, db, _, _, rfl, hb, rfl, _, rfl, b, db, _, _, rfl, hb, rfl, by show 4 ≤ sizeLine; decide, fun t hnt => ?_⟩
    have s1 := same_upd (o := .tup [.str M.call, .str M.otag, .int M.seq, .str M.way]) hnt
    have hl1 := s1 _ _ hl
    refine ⟨_, rfl, s.la, dl, _, _, rfl, hl1, rfl, _, rfl, s.la, dl, _, _, rfl, hl1, rfl, _, rfl, s.la, dl, _, _, rfl, hl1, rfl, _, rfl, s.la, dl, _, _, rfl, hl1, rfl, by show 4 ≤ sizeLine; decide, fun t2 hnt2 => ?_⟩
    have s2 := same_upd (o := .tup [.str s.L.call, .str s.L.otag, .int s.L.seq, .str s.L.way]) hnt2
    refine ⟨keyD M, keyD s.L, .tup (SqT.of (s2 _ _ upd_same)) (.cons (.str _) (.cons (.str _) (.cons (.int _) (.cons (.str _) .nil)))), .tup (SqT.of upd_same) (.cons (.str _) (.cons (.str _) (.cons (.int _) (.cons (.str _) .nil)))), keyD_ok kM, keyD_ok kL, ?_⟩
    rw [sameB_eq]
    exact k _ (s1.trans s2)

end K7
set_option maxHeartbeats 4000000
set_option pp.maxSteps 400
namespace K7
open PySem PySem.Spec PyProof.Rows L2 SX TK TKS TKC
open C8 (pe_c)
/-! ### legs -/
structure LegR where
  p : Addr
  dx : Addr
  cl : Addr
  sv : Addr
  wt : Addr
  ev : Addr
  tag : Str
  call : Str
  own : Str
  other : Str
  place : Str
  ab : V
  able : Off
  first : Int
  check : Int
  ot : Str
  st : Str
  seq : Int
  req : Int
  took : Bool
  gt : Int
  live : Int
  cs : List ClR
  ss : List SvR
  ws : List (Addr × List V)
  es : List (Addr × List V)
def legfl (R : LegR) : List (Str × V) := [("tag", .str R.tag), ("call", .str R.call), ("own", .str R.own), ("other", .str R.other), ("place", .str R.place), ("able", R.ab), ("first", .int R.first), ("check", .int R.check), ("other_tag", .str R.ot), ("state", .str R.st), ("_seq", .int R.seq), ("_requests", .int R.req), ("took_call", .bl R.took), ("_greatest_taken", .int R.gt), ("_clients", .ref R.cl), ("_servers", .ref R.sv), ("_waiting", .ref R.wt), ("_live_due", .int R.live), ("_events", .ref R.ev)]
instance {R : LegR} : SmallF (legfl R) 19 := ⟨Nat.le_refl _⟩
def legO (K : PySem.W.Frag) (R : LegR) : HO := .ins (He.ga K "Leg") R.dx (legfl R)
def clL (R : LegR) : HO := .lst (R.cs.map fun c => V.ref c.p)
def svL (R : LegR) : HO := .lst (R.ss.map fun c => V.ref c.p)
def wtL (R : LegR) : HO := .lst (R.ws.map fun c => V.ref c.1)
def evL (R : LegR) : HO := .lst (R.es.map fun c => V.ref c.1)
def legM (K : PySem.W.Frag) (R : LegR) : List Cell := [(R.p, legO K R), (R.cl, clL R), (R.sv, svL R), (R.wt, wtL R), (R.ev, evL R)] ++ (R.cs.flatMap (clM K) ++ R.ss.flatMap (svM K))
/-- what a leg rests on that does not change -/
structure LegI (K : PySem.W.Frag) (H : Hp) (R : LegR) : Prop where
  ab : OffAt H R.ab R.able
  ci : ∀ c ∈ R.cs, ClI K H c
  si : ∀ s ∈ R.ss, SvI K H s
  wi : ∀ w ∈ R.ws, H w.1 = some (.tup w.2)
  ei : ∀ e ∈ R.es, H e.1 = some (.tup e.2)
theorem LegI.im {K : PySem.W.Frag} {H H' : Hp} {R : LegR} (h : LegI K H R) (i : Im H H') : LegI K H' R := ⟨h.ab.im i, fun c m => (h.ci c m).im i, fun c m => (h.si c m).im i, fun c m => i _ _ (h.wi c m) rfl, fun c m => i _ _ (h.ei c m) rfl⟩
/-- what a leg writes -/
structure LegW (R : LegR) : Prop where
  tag : TxOk R.tag ∧ R.tag.length ≤ 100
  call : TxOk R.call ∧ R.call.length ≤ 1000
  own : TxOk R.own ∧ R.own.length ≤ 1000
  other : TxOk R.other ∧ R.other.length ≤ 1000
  ot : TxOk R.ot ∧ R.ot.length ≤ 1000
  seq : 0 ≤ R.seq
  req : 0 ≤ R.req
section
variable {K : PySem.W.Frag} {H H1 : Hp} {M : List Cell} {R : LegR}
theorem leg_p (c : Cells H (legM K R)) : H R.p = some (.ins (He.ga K "Leg") R.dx (legfl R)) := c.get (o := legO K R) (by simp [legM])
theorem leg_cl (c : Cells H (legM K R)) : H R.cl = some (.lst (R.cs.map fun c => V.ref c.p)) := c.get (o := clL R) (by simp [legM])
theorem leg_sv (c : Cells H (legM K R)) : H R.sv = some (.lst (R.ss.map fun c => V.ref c.p)) := c.get (o := svL R) (by simp [legM])
theorem leg_wt (c : Cells H (legM K R)) : H R.wt = some (.lst (R.ws.map fun c => V.ref c.1)) := c.get (o := wtL R) (by simp [legM])
theorem leg_ev (c : Cells H (legM K R)) : H R.ev = some (.lst (R.es.map fun c => V.ref c.1)) := c.get (o := evL R) (by simp [legM])
theorem put_state (R : LegR) (z : Str) : putF "state" (.str z) (legfl R) = legfl { R with st := z } := rfl
theorem put_ot (R : LegR) (z : Str) : putF "other_tag" (.str z) (legfl R) = legfl { R with ot := z } := rfl
theorem put_took (R : LegR) (z : Bool) : putF "took_call" (.bl z) (legfl R) = legfl { R with took := z } := rfl
theorem put_seq (R : LegR) (z : Int) : putF "_seq" (.int z) (legfl R) = legfl { R with seq := z } := rfl
theorem put_req (R : LegR) (z : Int) : putF "_requests" (.int z) (legfl R) = legfl { R with req := z } := rfl
theorem put_gt (R : LegR) (z : Int) : putF "_greatest_taken" (.int z) (legfl R) = legfl { R with gt := z } := rfl
theorem put_live (R : LegR) (z : Int) : putF "_live_due" (.int z) (legfl R) = legfl { R with live := z } := rfl
theorem put_wt (R : LegR) (z : Addr) : putF "_waiting" (.ref z) (legfl R) = legfl { R with wt := z } := rfl
theorem put_ev (R : LegR) (z : Addr) : putF "_events" (.ref z) (legfl R) = legfl { R with ev := z } := rfl
theorem Run.fst {a : Addr} {o o' : HO} {B : List Cell} (r : Run H M H1 ((a, o) :: B)) (n : imm o = false) : Run H M (upd H1 a o') ((a, o') :: B) := r.set (A := []) n
theorem Run.leg (r : Run H M H1 (legM K R)) (R' : LegR) (hd : R'.dx = R.dx) (hM : legM K R' = (R.p, legO K R') :: (legM K R).tail) : Run H M (upd H1 R.p (.ins (He.ga K "Leg") R.dx (legfl R'))) (legM K R') := by
  rw [hM]
  have := Run.fst (o := legO K R) (o' := legO K R') (B := (legM K R).tail) r rfl
  unfold legO at this ⊢
  rw [hd] at this ⊢
  exact this
end
theorem perm_ins {α : Type} (C A B D : List α) : (C ++ (A ++ (B ++ D))).Perm (A ++ ((B ++ C) ++ D)) := by
  have h : (C ++ (A ++ B)).Perm ((A ++ B) ++ C) := List.perm_append_comm
  have h2 := h.append_right D
  simpa [List.append_assoc] using h2
theorem perm_last {α : Type} (C A B D : List α) : (C ++ (A ++ (B ++ D))).Perm (A ++ (B ++ (D ++ C))) := by
  have h : (C ++ (A ++ (B ++ D))).Perm ((A ++ (B ++ D)) ++ C) := List.perm_append_comm
  simpa [List.append_assoc] using h
/-! talk, end -/
def talkR (R : LegR) (now : Int) : LegR := { R with st := "talking", live := now + R.check }
def spTalk (K : PySem.W.Frag) : Sp := fun vs H Q _ => ∃ (R : LegR) (now : Int), vs = [.ref R.p, .int now] ∧ Cells H (legM K R) ∧ ∀ H', Run H (legM K R) H' (legM K (talkR R now)) → Q .non H'
theorem ok_Leg__talk {P : Program} {w : World} {K : PySem.W.Frag} {mg : Str → Option Value} {base : Heap} {f : Addr} {fd : FuncData} (T : Tx K mg) 
    (F : FunD K "_talk" "Leg._talk" (defArgs s_Leg__talk) (defBody s_Leg__talk) (defScope s_Leg__talk) [] [] f fd) : FnOk P w K mg base CX0 1 f fd ["self", "now"] (spTalk K) := by
  refine F.ok sc_Leg__talk (fun vs H Q E h => ?_) (fun cdv A outer s0 H vs Q E hr h => ?_)
  · obtain ⟨R, now, rfl, _⟩ := h
    rfl
  · obtain ⟨R, now, rfl, hc, k⟩ := h
    refine ⟨_, PSs.nox (pss_cons (ps_fldC rfl T.cl_Leg T.na_Leg_state (pv 0) pe_str rfl) (pss_one (ps_fldC rfl T.cl_Leg T.na_Leg__live_due (pv 0) (pe_op op_add (pv 1) (pe_fldC rfl T.cl_Leg T.na_Leg_check (pv 0) rfl)) rfl))), ?_⟩
    refine ⟨_, rfl, R.p, R.dx, _, rfl, leg_p hc, sm, ?_⟩
    rw [put_state]
    have r1 := Run.leg (Run.refl hc) { R with st := "talking" } rfl rfl
    have hp1 := leg_p r1.c
    refine ⟨_, rfl, _, rfl, R.p, R.dx, _, _, rfl, hp1, rfl, _, _, rfl, rfl, _, rfl, R.p, R.dx, _, rfl, hp1, sm, ?_⟩
    exact k _ (Run.leg (R := { R with st := "talking" }) r1 (talkR R now) rfl rfl)
def overR (R : LegR) (wt t : Addr) (why : Str) (code : Int) : LegR := { R with st := "over", wt := wt, ws := [], es := R.es ++ [(t, [.str "over", .str why, .int code])] }
def spEnd (K : PySem.W.Frag) : Sp := fun vs H Q _ => ∃ (R : LegR) (why : Str) (code : Int), vs = [.ref R.p, .str why, .int code] ∧ Cells H (legM K R) ∧ LegI K H R ∧ R.es.length < 100000 ∧ ∀ wt t H', Run H (legM K R) H' (legM K (overR R wt t why code)) → LegI K H' (overR R wt t why code) → Q .non H'
/-- an event more -/
theorem Run.event {K : PySem.W.Frag} {H H1 : Hp} {M : List Cell} {R : LegR} {t : Addr} {xs : List V} (r : Run H M H1 (legM K R)) (hi : LegI K H1 R) (ht : H1 t = some (.tup xs)) :
    Run H M (upd H1 R.ev (.lst ((R.es.map fun c => V.ref c.1) ++ [.ref t]))) (legM K { R with es := R.es ++ [(t, xs)] }) ∧ LegI K (upd H1 R.ev (.lst ((R.es.map fun c => V.ref c.1) ++ [.ref t]))) { R with es := R.es ++ [(t, xs)] } := by
  have r2 := r.set (A := [(R.p, legO K R), (R.cl, clL R), (R.sv, svL R), (R.wt, wtL R)]) (a := R.ev) (o := evL R) (B := R.cs.flatMap (clM K) ++ R.ss.flatMap (svM K)) (o' := .lst ((R.es.map fun c => V.ref c.1) ++ [.ref t])) rfl
  have e : legM K { R with es := R.es ++ [(t, xs)] } = [(R.p, legO K R), (R.cl, clL R), (R.sv, svL R), (R.wt, wtL R)] ++ (R.ev, .lst ((R.es.map fun c => V.ref c.1) ++ [.ref t])) :: (R.cs.flatMap (clM K) ++ R.ss.flatMap (svM K)) := by
    unfold legM evL
    simp only [List.map_append]
    rfl
  have i : Im H1 (upd H1 R.ev (.lst ((R.es.map fun c => V.ref c.1) ++ [.ref t]))) := fun b o eb ib => by
    by_cases q : b = R.ev
    · rw [q, leg_ev r.c] at eb
      cases eb
      cases ib
    · rw [upd_ne q]
      exact eb
  refine ⟨by rw [e]; exact r2, ?_⟩
  have h := hi.im i
  refine ⟨h.ab, h.ci, h.si, h.wi, fun x m => ?_⟩
  rcases List.mem_append.mp m with m | m
  · exact h.ei x m
  · rw [List.mem_singleton.mp m]
    exact i _ _ ht rfl
theorem ok_Leg__end {P : Program} {w : World} {K : PySem.W.Frag} {mg : Str → Option Value} {base : Heap} {f : Addr} {fd : FuncData} (T : Tx K mg) 
    (F : FunD K "_end" "Leg._end" (defArgs s_Leg__end) (defBody s_Leg__end) (defScope s_Leg__end) [] [] f fd) : FnOk P w K mg base CX0 1 f fd ["self", "why", "code"] (spEnd K) := by
  refine F.ok sc_Leg__end (fun vs H Q E h => ?_) (fun cdv A outer s0 H vs Q E hr h => ?_)
  · obtain ⟨R, why, code, rfl, _⟩ := h
    rfl
  · obtain ⟨R, why, code, rfl, hc, hi, hn, k⟩ := h
    refine ⟨_, PSs.nox (pss_cons (ps_fldC rfl T.cl_Leg T.na_Leg_state (pv 0) pe_str rfl) (pss_cons (ps_fldC rfl T.cl_Leg T.na_Leg__waiting (pv 0) (pe_lst pa_nil) rfl) (pss_one (ps_expr (pe_bm PySem.F.plainAttrs_list PySem.F.slot_list_append PySem.F.type_list_append mt_append (pe_fldC rfl T.cl_Leg T.na_Leg__events (pv 0) rfl) (pa_cons (pe_tup (pa_cons pe_str (pa_cons (pv 1) (pa_cons (pv 2) pa_nil)))) pa_nil)))))), ?_⟩
    refine ⟨_, rfl, R.p, R.dx, _, rfl, leg_p hc, sm, ?_⟩
    rw [put_state]
    have r1 := Run.leg (Run.refl hc) { R with st := "over" } rfl rfl
    generalize upd H R.p (.ins (He.ga K "Leg") R.dx (legfl { R with st := "over" })) = H1 at r1 ⊢
    refine ⟨by show 0 ≤ sizeLine; decide, fun w hw => ?_⟩
    have r2 := r1.add (o := .lst []) hw
    have hp2 := leg_p (Cells.right (A := [(w, .lst [])]) r2.c)
    refine ⟨_, rfl, R.p, R.dx, _, rfl, hp2, sm, ?_⟩
    rw [show putF "_waiting" (V.ref w) (legfl { R with st := "over" }) = legfl { R with st := "over", wt := w } from rfl]
    have r3 := r2.set (A := [(w, .lst [])]) (a := R.p) (o := legO K { R with st := "over" }) (B := (R.cl, clL R) :: (R.sv, svL R) :: (R.wt, wtL R) :: (R.ev, evL R) :: (R.cs.flatMap (clM K) ++ R.ss.flatMap (svM K))) (o' := .ins (He.ga K "Leg") R.dx (legfl { R with st := "over", wt := w })) rfl
    have r4 : Run H (legM K R) _ (legM K { R with st := "over", wt := w, ws := [] }) := (r3.sub (M2 := (w, .lst []) :: ([(R.p, .ins (He.ga K "Leg") R.dx (legfl { R with st := "over", wt := w })), (R.cl, clL R), (R.sv, svL R)] ++ ((R.ev, evL R) :: (R.cs.flatMap (clM K) ++ R.ss.flatMap (svM K))))) (((((List.Sublist.refl _).cons _).cons₂ _).cons₂ _).cons₂ _ |>.cons₂ _)).perm List.perm_middle.symm
    generalize upd _ R.p (.ins (He.ga K "Leg") R.dx (legfl { R with st := "over", wt := w })) = H2 at r4 ⊢
    clear r3 r2 r1
    have hi4 : LegI K H2 { R with st := "over", wt := w, ws := [] } := by
      have h := hi.im r4.im
      exact ⟨h.ab, h.ci, h.si, fun _ m => (nomatch m), h.ei⟩
    have hp4 := leg_p r4.c
    have he4 := leg_ev r4.c
    refine ⟨_, rfl, R.p, R.dx, _, _, rfl, hp4, rfl, .inl ⟨rfl, _, SqL.of he4⟩, _, rfl, _, rfl, by show 3 ≤ sizeLine; decide, fun t ht => ?_⟩
    have st := same_upd (o := .tup [.str "over", .str why, .int code]) ht
    obtain ⟨r5, hi5⟩ := Run.event (r4.same st) (hi4.im (Im.of_same st)) (t := t) (xs := [.str "over", .str why, .int code]) upd_same
    exact ⟨R.ev, _, _, rfl, rfl, st _ _ he4, by rw [List.length_map]; exact Nat.lt_of_lt_of_le hn (by decide), k w t _ r5 hi5⟩

end K7
set_option maxHeartbeats 4000000
set_option pp.maxSteps 400
namespace K7
open PySem PySem.Spec PyProof.Rows L2 SX TK TKS TKC
open C8 (pe_c)
/-! send -/
def wayS (tag : Str) (n : Int) : Str := Str.empty ++ tag ++ "w" ++ numS n
def sendL (R : LegR) (verb : Str) (xo xg : V) : Ltr := ⟨verb, R.call, R.own, R.tag, R.other, R.ot, R.seq + 1, wayS R.tag (R.req + 1), .non, xo, .non, xg⟩
theorem w_len : ("w" : Str).length = 1 := by decide +kernel
theorem way_len {tag : Str} {n : Int} (ht : tag.length ≤ 100) (hn : n.natAbs < 1000000000) : (wayS tag n).length ≤ 200 := by
  have := numS_len hn
  unfold wayS
  rw [cat_len, cat_len, cat_len, emp_len, w_len]
  omega
theorem way_ok {tag : Str} {n : Int} (ht : TxOk tag) (hn : 0 ≤ n) : TxOk (wayS tag n) := by
  have e0 : PyData.strOk Str.empty = true := by decide +kernel
  exact ok_cat (ok_cat (ok_cat e0 ht) (by decide +kernel)) (ok_num hn)
structure SndOk (R : LegR) (verb : Str) (xg : V) : Prop where
  w : LegW R
  v : TxOk verb ∧ verb.length ≤ 1000
  g : xg = .non ∨ ∃ z : Str, xg = .str z ∧ TxOk z ∧ z.length ≤ 1000
  s : R.seq + 1 < 1000000000
  r : R.req + 1 < 1000000000
theorem SndOk.lok {R : LegR} {verb : Str} {xo xg : V} (h : SndOk R verb xg) : LOk (sendL R verb xo xg) := by
  have w := h.w
  have := h.s
  have := h.r
  have := w.seq
  have := w.req
  exact ⟨⟨h.v.1, w.call.1, w.own.1, w.tag.1, w.other.1, w.ot.1, way_ok w.tag.1 (by omega)⟩, by show 0 ≤ R.seq + 1; omega, h.v.2, w.call.2, w.own.2, Nat.le_trans w.tag.2 (by decide), w.other.2, w.ot.2, by show (R.seq + 1).natAbs < 1000000000; omega, Nat.le_trans (way_len w.tag.2 (by omega)) (by decide), .inl rfl⟩
/-- offers that can be written -/
def OffX (H : Hp) (x : V) (o : Option Off) : Prop := OffO H x o ∧ (∀ u, o = some u → OffOk u) ∧ ∀ u, o = some u → TxOk (wordsS u)
theorem SndOk.xok {R : LegR} {verb : Str} {xo xg : V} {o : Option Off} {H : Hp} (h : SndOk R verb xg) (x : OffX H xo o) : XOk (sendL R verb xo xg) o := ⟨x.2.1, x.2.2, .inl rfl, h.g⟩
def sentR (R : LegR) (c : ClR) : LegR := { R with seq := R.seq + 1, req := R.req + 1, cs := R.cs ++ [c] }
def spSend (K : PySem.W.Frag) : Sp := fun vs H Q _ => ∃ (R : LegR) (verb : Str) (now : Int) (xo xg : V) (o : Option Off), vs = [.ref R.p, .str verb, .int now, xo, xg] ∧ Cells H (legM K R) ∧ LegI K H R ∧ OffX H xo o ∧ SndOk R verb xg ∧ R.cs.length < 100000 ∧
  ∀ cp cdx la wa wx ka r ts H', Run H (legM K R) H' ((r, .lst (ts.map V.ref)) :: legM K (sentR R (newC cp cdx la wa wx ka (sendL R verb xo xg) o R.place R.first now))) →
    LegI K H' (sentR R (newC cp cdx la wa wx ka (sendL R verb xo xg) o R.place R.first now)) → RwI H' ts [(R.place, textOf (linesX (sendL R verb xo xg) o))] → Q (.ref r) H'
theorem ok_Leg__send {P : Program} {w : World} {K : PySem.W.Frag} {mg : Str → Option Value} {base : Heap} {f : Addr} {fd : FuncData} (T : Tx K mg) (c_mk_Letter_d : MakK P w K mg base 1 "Letter" (He.ga K "Letter") (spLetInit K) 0 ["verb", "call", "origin", "origin_tag", "target", "target_tag", "seq", "way", "offer", "goal"] (fun vs zs => vs ++ ((((zs.drop 0).take 8) ++ (((([(V.non), (V.non)] : List V).drop 0).take 1) ++ (((zs.drop 8).take 1) ++ (((([(V.non), (V.non)] : List V).drop 1).take 1) ++ ((zs.drop 9).take 1)))))))) (c_mk_Client : C8.Mak P w K mg base 3 "Client" (He.ga K "Client") (spClInit K) []) (c_Client_sending : C8.Met P w K mg base 3 (He.ga K "Client") "sending" (spSending K) [])
    (F : FunD K "_send" "Leg._send" (defArgs s_Leg__send) (defBody s_Leg__send) (defScope s_Leg__send) [(V.non), (V.non)] [] f fd) : FnOk P w K mg base CX0 5 f fd ["self", "verb", "now", "offer", "goal"] (spSend K) := by
  refine F.ok sc_Leg__send (fun vs H Q E h => ?_) (fun cdv A outer s0 H vs Q E hr h => ?_)
  · obtain ⟨R, verb, now, xo, xg, o, rfl, _⟩ := h
    rfl
  · obtain ⟨R, verb, now, xo, xg, o, rfl, hc, hi, hx, sk, hn, k⟩ := h
    have w := sk.w
    have s1 := sk.s
    have s2 := sk.r
    have w1 := w.seq
    have w2 := w.req
    have w3 := w.tag.2
    refine ⟨_, PSs.nox (pss_cons (ps_fldaug (pv 0) pe_int in_add) (pss_cons (ps_fldaug (pv 0) pe_int in_add) (pss_cons (ps_set (i := 5) sc_Leg__send.nd rfl (Or.inl rfl) (pe_mkK0 c_mk_Letter_d hr (by decide) rfl (pk_cons (pv 1) (pk_cons (pe_fldC rfl T.cl_Leg T.na_Leg_call (pv 0) rfl) (pk_cons (pe_fldC rfl T.cl_Leg T.na_Leg_own (pv 0) rfl) (pk_cons (pe_fldC rfl T.cl_Leg T.na_Leg_tag (pv 0) rfl) (pk_cons (pe_fldC rfl T.cl_Leg T.na_Leg_other (pv 0) rfl) (pk_cons (pe_fldC rfl T.cl_Leg T.na_Leg_other_tag (pv 0) rfl) (pk_cons (pe_fldC rfl T.cl_Leg T.na_Leg__seq (pv 0) rfl) (pk_cons (pe_joined (PJ.cons (pe_fmt (pe_fldC rfl T.cl_Leg T.na_Leg_tag (pv 0) rfl)) (PJ.cons pe_str (PJ.cons (pe_fmt (pe_fldC rfl T.cl_Leg T.na_Leg__requests (pv 0) rfl)) PJ.nil)))) (pk_cons (pv 3) (pk_cons (pv 4) pk_nil)))))))))))) (pss_cons (ps_set (i := 6) sc_Leg__send.nd rfl (Or.inl rfl) (C8.pe_mk c_mk_Client hr (by decide) rfl (pa_cons (pv 5) (pa_cons (pe_fldC rfl T.cl_Leg T.na_Leg_place (pv 0) rfl) (pa_cons (pv 2) (pa_cons (pe_fldC rfl T.cl_Leg T.na_Leg_first (pv 0) rfl) pa_nil)))))) (pss_cons (ps_expr (pe_bm PySem.F.plainAttrs_list PySem.F.slot_list_append PySem.F.type_list_append mt_append (pe_fldC rfl T.cl_Leg T.na_Leg__clients (pv 0) rfl) (pa_cons (pv 6) pa_nil))) (pss_one (ps_ret (C8.pe_mt0 c_Client_sending hr (by decide) (pv 6))))))))), ?_⟩
    have hp0 := leg_p hc
    refine ⟨_, rfl, R.p, _, R.dx, _, _, rfl, hp0, T.cl_Leg, T.na_Leg__seq, rfl, _, _, rfl, rfl, R.dx, _, hp0, sm, ?_⟩
    rw [put_seq]
    have r1 := Run.leg (Run.refl hc) { R with seq := R.seq + 1 } rfl rfl
    generalize upd H R.p (.ins (He.ga K "Leg") R.dx (legfl { R with seq := R.seq + 1 })) = H1 at r1 ⊢
    have hp1 := leg_p r1.c
    refine ⟨_, rfl, R.p, _, R.dx, _, _, rfl, hp1, T.cl_Leg, T.na_Leg__requests, rfl, _, _, rfl, rfl, R.dx, _, hp1, sm, ?_⟩
    rw [show putF "_requests" (V.int (R.req + 1)) (legfl { R with seq := R.seq + 1 }) = legfl { R with seq := R.seq + 1, req := R.req + 1 } from rfl]
    have r2 := Run.leg (R := { R with seq := R.seq + 1 }) r1 { R with seq := R.seq + 1, req := R.req + 1 } rfl rfl
    dsimp only at r2
    generalize upd H1 R.p (.ins (He.ga K "Leg") R.dx (legfl { R with seq := R.seq + 1, req := R.req + 1 })) = H2 at r2 ⊢
    have hp2 := leg_p r2.c
    clear hp0 hp1 r1
    refine ⟨_, rfl, _, rfl, R.p, R.dx, _, _, rfl, hp2, rfl, _, rfl, R.p, R.dx, _, _, rfl, hp2, rfl, _, rfl, R.p, R.dx, _, _, rfl, hp2, rfl, _, rfl, R.p, R.dx, _, _, rfl, hp2, rfl, _, rfl, R.p, R.dx, _, _, rfl, hp2, rfl, _, rfl, R.p, R.dx, _, _, rfl, hp2, rfl, ?_⟩
    have n1 := numS_len (i := R.req + 1) (by omega)
    refine ⟨_, rfl, R.p, R.dx, _, _, rfl, hp2, rfl, .inl ⟨_, rfl, szl (show R.tag.length ≤ 100000 by omega), _, rfl, szl (by rw [cat_len, emp_len]; show 0 + R.tag.length ≤ 100000; omega), ?_⟩⟩
    refine ⟨_, rfl, szl (by rw [cat_len, cat_len, emp_len, w_len]; show 0 + R.tag.length + 1 ≤ 100000; omega), ?_⟩
    refine ⟨_, rfl, R.p, R.dx, _, _, rfl, hp2, rfl, .inr ⟨R.req + 1, rfl, numS_log (by omega), _, rfl, szl (by show (_ ++ _ ++ _ ++ numS (R.req + 1)).length ≤ _; rw [cat_len, cat_len, cat_len, emp_len, w_len]; show 0 + R.tag.length + 1 + (numS (R.req + 1)).length ≤ 100000; omega), ?_⟩⟩
    refine ⟨_, rfl, _, rfl, rfl, rfl, fun x dy hx1 hdy hne => ?_⟩
    refine ⟨x, dy, sendL R verb xo xg, rfl, upd_same, rfl, ?_⟩
    rw [upd_upd]
    have r3 := r2.same (same_own (C := He.ga K "Letter") (fs := (sendL R verb xo xg).fl) hx1 hdy)
    have hl3 : LetAt K (upd (upd H2 dy (.own x)) x (.ins (He.ga K "Letter") dy (sendL R verb xo xg).fl)) x (sendL R verb xo xg) := ⟨dy, upd_same⟩
    generalize upd (upd H2 dy (.own x)) x (.ins (He.ga K "Letter") dy (sendL R verb xo xg).fl) = H3 at r3 hl3 ⊢
    have hp3 := leg_p r3.c
    refine ⟨_, rfl, _, rfl, R.p, R.dx, _, _, rfl, hp3, rfl, _, rfl, _, rfl, R.p, R.dx, _, _, rfl, hp3, rfl, fun cp cdx hcp hcdx hne2 => ?_⟩
    refine ⟨cp, cdx, x, R.place, now, R.first, rfl, upd_same, fun wa wx ka H4 rI => ⟨rfl, ?_⟩⟩
    have q4 := Run.frameL (B := legM K { R with seq := R.seq + 1, req := R.req + 1 }) ((Run.refl r3.c).own (o := .ins (He.ga K "Client") cdx []) hcp hcdx hne2.symm) (rI (sendL R verb xo xg) o)
    clear hcp hcdx hne2 rI hp3 hp2 hx1 hdy hne
    have hp4 := leg_p (Cells.right q4.c)
    have hl4 := leg_cl (Cells.right q4.c)
    refine ⟨_, rfl, R.p, R.dx, _, _, rfl, hp4, rfl, .inl ⟨rfl, _, SqL.of hl4⟩, _, rfl, R.cl, _, _, rfl, rfl, hl4, by rw [List.length_map]; exact Nat.lt_of_lt_of_le hn (by decide), ?_⟩
    have q5 := Run.set (A := [(cp, clO K (newC cp cdx x wa wx ka (sendL R verb xo xg) o R.place R.first now)), (wa, wtO K (newC cp cdx x wa wx ka (sendL R verb xo xg) o R.place R.first now)), (ka, .lst []), (R.p, legO K { R with seq := R.seq + 1, req := R.req + 1 })]) (a := R.cl) (o := clL R) (B := (R.sv, svL R) :: (R.wt, wtL R) :: (R.ev, evL R) :: (R.cs.flatMap (clM K) ++ R.ss.flatMap (svM K))) (o' := .lst ((R.cs.map fun c => V.ref c.p) ++ [.ref cp])) q4 rfl
    have hcp5 : (upd H4 R.cl (.lst ((R.cs.map fun c => V.ref c.p) ++ [.ref cp]))) cp = some (clO K (newC cp cdx x wa wx ka (sendL R verb xo xg) o R.place R.first now)) := q5.c.get (by simp)
    have e : legM K (sentR R (newC cp cdx x wa wx ka (sendL R verb xo xg) o R.place R.first now)) = [(R.p, legO K { R with seq := R.seq + 1, req := R.req + 1 }), (R.cl, .lst ((R.cs.map fun c => V.ref c.p) ++ [.ref cp])), (R.sv, svL R), (R.wt, wtL R), (R.ev, evL R)] ++ ((R.cs.flatMap (clM K) ++ clM K (newC cp cdx x wa wx ka (sendL R verb xo xg) o R.place R.first now)) ++ R.ss.flatMap (svM K)) := by
      unfold legM clL
      simp only [sentR, List.map_append, List.flatMap_append, List.flatMap_cons, List.flatMap_nil, List.append_nil]
      rfl
    have q6 : Run H3 (legM K { R with seq := R.seq + 1, req := R.req + 1 }) (upd H4 R.cl (.lst ((R.cs.map fun c => V.ref c.p) ++ [.ref cp]))) (legM K (sentR R (newC cp cdx x wa wx ka (sendL R verb xo xg) o R.place R.first now))) := by
      rw [e]
      exact Run.perm (M1 := clM K (newC cp cdx x wa wx ka (sendL R verb xo xg) o R.place R.first now) ++ ([(R.p, legO K { R with seq := R.seq + 1, req := R.req + 1 }), (R.cl, .lst ((R.cs.map fun c => V.ref c.p) ++ [V.ref cp])), (R.sv, svL R), (R.wt, wtL R), (R.ev, evL R)] ++ (R.cs.flatMap (clM K) ++ R.ss.flatMap (svM K)))) q5 (perm_ins _ _ _ _)
    generalize (upd H4 R.cl (.lst ((R.cs.map fun c => V.ref c.p) ++ [.ref cp]))) = H6 at q6 hcp5 ⊢
    clear q5 q4 e hp4 hl4
    have r6 := r3.trans q6
    have hx6 := hx.1.im r6.im
    have hc6 : ClI K H6 (newC cp cdx x wa wx ka (sendL R verb xo xg) o R.place R.first now) := ⟨hl3.im q6.im, hx6, sk.lok, sk.xok hx, Nat.zero_le _, fun _ m => (nomatch m)⟩
    refine ⟨_, rfl, cp, cdx, _, rfl, hcp5, rfl, newC cp cdx x wa wx ka (sendL R verb xo xg) o R.place R.first now, rfl, hcp5, hc6, fun r t H7 s7 hr7 e7 rw7 => ?_⟩
    have r7 := r6.new s7 hr7 e7
    have h := hi.im r7.im
    refine k cp cdx x wa wx ka r [t] H7 r7 ⟨h.ab, fun c m => ?_, h.si, h.wi, h.ei⟩ rw7
    rcases List.mem_append.mp m with m | m
    · exact h.ci c m
    · rw [List.mem_singleton.mp m]
      exact hc6.im (Im.of_same s7)

end K7
set_option maxHeartbeats 4000000
set_option pp.maxSteps 400
namespace K7
open PySem PySem.Spec PyProof.Rows L2 SX TK TKS TKC
open C8 (pe_c)
/-! one server or client of a leg -/
theorem leg_ss {K : PySem.W.Frag} {R : LegR} {pre post : List SvR} {s : SvR} (e : R.ss = pre ++ s :: post) : legM K R = ([(R.p, legO K R), (R.cl, clL R), (R.sv, svL R), (R.wt, wtL R), (R.ev, evL R)] ++ (R.cs.flatMap (clM K) ++ pre.flatMap (svM K))) ++ svM K s ++ post.flatMap (svM K) := by
  unfold legM
  rw [e]
  simp only [List.flatMap_append, List.flatMap_cons, List.append_assoc]
theorem leg_cs {K : PySem.W.Frag} {R : LegR} {pre post : List ClR} {c : ClR} (e : R.cs = pre ++ c :: post) : legM K R = ([(R.p, legO K R), (R.cl, clL R), (R.sv, svL R), (R.wt, wtL R), (R.ev, evL R)] ++ pre.flatMap (clM K)) ++ clM K c ++ (post.flatMap (clM K) ++ R.ss.flatMap (svM K)) := by
  unfold legM
  rw [e]
  simp only [List.flatMap_append, List.flatMap_cons, List.append_assoc]
theorem svL_swap {R : LegR} {pre post : List SvR} {s s' : SvR} (e : R.ss = pre ++ s :: post) (h : s'.p = s.p) : svL { R with ss := pre ++ s' :: post } = svL R := by
  unfold svL
  rw [e]
  simp only [List.map_append, List.map_cons, h]
theorem clL_swap {R : LegR} {pre post : List ClR} {c c' : ClR} (e : R.cs = pre ++ c :: post) (h : c'.p = c.p) : clL { R with cs := pre ++ c' :: post } = clL R := by
  unfold clL
  rw [e]
  simp only [List.map_append, List.map_cons, h]
section
variable {K : PySem.W.Frag} {H H1 H2 : Hp} {M X : List Cell} {R : LegR}
theorem perm_X (X A N B : List Cell) : (A ++ (X ++ N) ++ B).Perm (X ++ (A ++ N ++ B)) := by
  have h : (A ++ X).Perm (X ++ A) := List.perm_append_comm
  have h2 := h.append_right (N ++ B)
  simpa [List.append_assoc] using h2
theorem Run.srv {pre post : List SvR} {s s' : SvR} (r : Run H M H1 (legM K R)) (e : R.ss = pre ++ s :: post) (h : s'.p = s.p) (t : Run H1 (svM K s) H2 (X ++ svM K s')) : Run H M H2 (X ++ legM K { R with ss := pre ++ s' :: post }) := by
  rw [leg_ss e] at r
  have q := (Run.frame r t).perm (perm_X X _ _ _)
  rw [leg_ss (R := { R with ss := pre ++ s' :: post }) (pre := pre) (post := post) (s := s') rfl, svL_swap e h]
  exact q
theorem Run.cli {pre post : List ClR} {c c' : ClR} (r : Run H M H1 (legM K R)) (e : R.cs = pre ++ c :: post) (h : c'.p = c.p) (t : Run H1 (clM K c) H2 (X ++ clM K c')) : Run H M H2 (X ++ legM K { R with cs := pre ++ c' :: post }) := by
  rw [leg_cs e] at r
  have q := (Run.frame r t).perm (perm_X X _ _ _)
  rw [leg_cs (R := { R with cs := pre ++ c' :: post }) (pre := pre) (post := post) (c := c') rfl, clL_swap e h]
  exact q
theorem Cells.srv {pre post : List SvR} {s : SvR} (c : Cells H (legM K R)) (e : R.ss = pre ++ s :: post) : Cells H (svM K s) := by
  rw [leg_ss e] at c
  exact (c.left).right
theorem Cells.cli {pre post : List ClR} {x : ClR} (c : Cells H (legM K R)) (e : R.cs = pre ++ x :: post) : Cells H (clM K x) := by
  rw [leg_cs e] at c
  exact (c.left).right
end
/-! serve, reply -/
def servedR (R : LegR) (s : SvR) : LegR := { R with gt := s.L.seq, ss := R.ss ++ [s] }
def spServe (K : PySem.W.Frag) : Sp := fun vs H Q _ => ∃ (R : LegR) (la : Addr) (pl : Str) (L : Ltr) (o : Option Off), vs = [.ref R.p, .ref la, .str pl] ∧ Cells H (legM K R) ∧ LegI K H R ∧ LetAt K H la L ∧ OffO H L.offer o ∧ LOk L ∧ R.ss.length < 100000 ∧
  ∀ sp sdx al H', Run H (legM K R) H' (legM K (servedR R (newS sp sdx la al L o pl R.first))) → LegI K H' (servedR R (newS sp sdx la al L o pl R.first)) → Q (.ref sp) H'
theorem ok_Leg__serve {P : Program} {w : World} {K : PySem.W.Frag} {mg : Str → Option Value} {base : Heap} {f : Addr} {fd : FuncData} (T : Tx K mg) (c_mk_Server : C8.Mak P w K mg base 1 "Server" (He.ga K "Server") (spSvInit K) [])
    (F : FunD K "_serve" "Leg._serve" (defArgs s_Leg__serve) (defBody s_Leg__serve) (defScope s_Leg__serve) [] [] f fd) : FnOk P w K mg base CX0 3 f fd ["self", "letter", "place"] (spServe K) := by
  refine F.ok sc_Leg__serve (fun vs H Q E h => ?_) (fun cdv A outer s0 H vs Q E hr h => ?_)
  · obtain ⟨R, la, pl, L, o, rfl, _⟩ := h
    rfl
  · obtain ⟨R, la, pl, L, o, rfl, hc, hi, hl, ho, lk, hn, k⟩ := h
    obtain ⟨dl, hl0⟩ := id hl
    refine ⟨_, PSs.nox (pss_cons (ps_fldC rfl T.cl_Leg T.na_Leg__greatest_taken (pv 0) (pe_fldC rfl T.cl_Letter T.na_Letter_seq (pv 1) rfl) rfl) (pss_cons (ps_set (i := 3) sc_Leg__serve.nd rfl (Or.inl rfl) (C8.pe_mk c_mk_Server hr (by decide) rfl (pa_cons (pv 1) (pa_cons (pv 2) (pa_cons (pe_fldC rfl T.cl_Leg T.na_Leg_first (pv 0) rfl) pa_nil))))) (pss_cons (ps_expr (pe_bm PySem.F.plainAttrs_list PySem.F.slot_list_append PySem.F.type_list_append mt_append (pe_fldC rfl T.cl_Leg T.na_Leg__servers (pv 0) rfl) (pa_cons (pv 3) pa_nil))) (pss_one (ps_ret (pv 3)))))), ?_⟩
    have hp0 := leg_p hc
    refine ⟨_, rfl, la, dl, _, _, rfl, hl0, rfl, _, rfl, R.p, R.dx, _, rfl, hp0, sm, ?_⟩
    rw [show putF "_greatest_taken" (V.int L.seq) (legfl R) = legfl { R with gt := L.seq } from rfl]
    have r1 := Run.leg (Run.refl hc) { R with gt := L.seq } rfl rfl
    generalize upd H R.p (.ins (He.ga K "Leg") R.dx (legfl { R with gt := L.seq })) = H1 at r1 ⊢
    have hp1 := leg_p r1.c
    refine ⟨_, rfl, _, rfl, _, rfl, R.p, R.dx, _, _, rfl, hp1, rfl, fun sp sdx hsp hsdx hne => ?_⟩
    refine ⟨sp, sdx, la, pl, R.first, rfl, upd_same, fun al H4 rI => ⟨rfl, ?_⟩⟩
    have q4 := Run.frameL (B := legM K { R with gt := L.seq }) (r1.own (o := .ins (He.ga K "Server") sdx []) hsp hsdx hne.symm) (rI L o)
    have hp4 := leg_p (Cells.right q4.c)
    have hl4 := leg_sv (Cells.right q4.c)
    refine ⟨_, rfl, R.p, R.dx, _, _, rfl, hp4, rfl, .inl ⟨rfl, _, SqL.of hl4⟩, _, rfl, R.sv, _, _, rfl, rfl, hl4, by rw [List.length_map]; exact Nat.lt_of_lt_of_le hn (by decide), ?_⟩
    have q5 := Run.set (A := [(sp, svO K (newS sp sdx la al L o pl R.first)), (al, .lst []), (R.p, legO K { R with gt := L.seq }), (R.cl, clL R)]) (a := R.sv) (o := svL R) (B := (R.wt, wtL R) :: (R.ev, evL R) :: (R.cs.flatMap (clM K) ++ R.ss.flatMap (svM K))) (o' := .lst ((R.ss.map fun c => V.ref c.p) ++ [V.ref sp])) q4 rfl
    have e : legM K (servedR R (newS sp sdx la al L o pl R.first)) = [(R.p, legO K { R with gt := L.seq }), (R.cl, clL R), (R.sv, .lst ((R.ss.map fun c => V.ref c.p) ++ [V.ref sp])), (R.wt, wtL R), (R.ev, evL R)] ++ (R.cs.flatMap (clM K) ++ (R.ss.flatMap (svM K) ++ svM K (newS sp sdx la al L o pl R.first))) := by
      unfold legM svL
      simp only [servedR, List.map_append, List.flatMap_append, List.flatMap_cons, List.flatMap_nil, List.append_nil]
      rfl
    have r6 : Run H (legM K R) (upd H4 R.sv (.lst ((R.ss.map fun c => V.ref c.p) ++ [V.ref sp]))) (legM K (servedR R (newS sp sdx la al L o pl R.first))) := by
      rw [e]
      exact Run.perm (M1 := svM K (newS sp sdx la al L o pl R.first) ++ ([(R.p, legO K { R with gt := L.seq }), (R.cl, clL R), (R.sv, .lst ((R.ss.map fun c => V.ref c.p) ++ [V.ref sp])), (R.wt, wtL R), (R.ev, evL R)] ++ (R.cs.flatMap (clM K) ++ R.ss.flatMap (svM K)))) q5 (perm_last _ _ _ _)
    have h := hi.im r6.im
    refine ⟨_, rfl, k sp sdx al _ r6 ⟨h.ab, h.ci, fun c m => ?_, h.wi, h.ei⟩⟩
    rcases List.mem_append.mp m with m | m
    · exact h.si c m
    · rw [List.mem_singleton.mp m]
      exact ⟨hl.im r6.im, ho.im r6.im, lk, Nat.zero_le _, fun _ m => (nomatch m)⟩
def repL (R : LegR) (s : SvR) (n : Int) (xo : V) : Ltr := s.L.reply (.int n) R.tag xo .non
theorem repL_ok {R : LegR} {s : SvR} {n : Int} {xo : V} (w : LegW R) (g : LOk s.L) (h0 : 0 ≤ n) (h1 : n ≤ 99) : LOk (repL R s n xo) := by
  obtain ⟨g1, g2, g3, g4, g5, _, g7⟩ := g.oks
  exact ⟨⟨g1, g2, g3, g4, g5, w.tag.1, g7⟩, g.seq0, g.verb, g.call, g.origin, g.otag, g.target, Nat.le_trans w.tag.2 (by decide), g.seq, g.way, .inr ⟨n, rfl, h0, by omega⟩⟩
theorem repL_x {R : LegR} {s : SvR} {n : Int} {xo : V} {o : Option Off} {H : Hp} (x : OffX H xo o) : XOk (repL R s n xo) o := ⟨x.2.1, x.2.2, .inl rfl, .inl rfl⟩
theorem OffX.im {H H' : Hp} {x : V} {o : Option Off} (h : OffX H x o) (i : Im H H') : OffX H' x o := ⟨h.1.im i, h.2⟩
def repS (R : LegR) (s : SvR) (n now : Int) (xo : V) (o : Option Off) (al t wa wx : Addr) : SvR := replyS s (textOf (linesX (repL R s n xo) o)) n now al t wa wx
def repO (R : LegR) (s : SvR) (n : Int) (xo : V) (o : Option Off) : List (Str × Str) := replyO s (textOf (linesX (repL R s n xo) o))
theorem repS_p (R : LegR) (s : SvR) (n now : Int) (xo : V) (o : Option Off) (al t wa wx : Addr) : (repS R s n now xo o al t wa wx).p = s.p := by
  unfold repS replyS
  split
  · split <;> rfl
  · rfl
def RepR (R : LegR) (pre post : List SvR) (s : SvR) (now n : Int) (xo : V) (o : Option Off) (R' : LegR) (rows : List (Str × Str)) : Prop :=
  ∃ al t wa wx, R' = { R with ss := pre ++ repS R s n now xo o al t wa wx :: post } ∧ rows = repO R s n xo o
theorem RepR.eq {R R' : LegR} {pre post : List SvR} {s : SvR} {now n : Int} {xo : V} {o : Option Off} {rows : List (Str × Str)} (h : RepR R pre post s now n xo o R' rows) : ∃ s', R' = { R with ss := pre ++ s' :: post } ∧ s'.p = s.p := by
  obtain ⟨al, t, wa, wx, e, _⟩ := h
  exact ⟨_, e, repS_p ..⟩
theorem RepR.p {R R' : LegR} {pre post : List SvR} {s : SvR} {now n : Int} {xo : V} {o : Option Off} {rows : List (Str × Str)} (h : RepR R pre post s now n xo o R' rows) : R'.p = R.p ∧ R'.dx = R.dx := by
  obtain ⟨s', rfl, _⟩ := h.eq
  exact ⟨rfl, rfl⟩
theorem RepR.w {R R' : LegR} {pre post : List SvR} {s : SvR} {now n : Int} {xo : V} {o : Option Off} {rows : List (Str × Str)} (h : RepR R pre post s now n xo o R' rows) (w : LegW R) : LegW R' := by
  obtain ⟨s', rfl, _⟩ := h.eq
  exact ⟨w.tag, w.call, w.own, w.other, w.ot, w.seq, w.req⟩
theorem RepR.ss {R R' : LegR} {pre post : List SvR} {s : SvR} {now n : Int} {xo : V} {o : Option Off} {rows : List (Str × Str)} (h : RepR R pre post s now n xo o R' rows) : ∃ s', R'.ss = pre ++ s' :: post ∧ s'.p = s.p := by
  obtain ⟨s', rfl, e⟩ := h.eq
  exact ⟨s', rfl, e⟩
def spReplyL (K : PySem.W.Frag) : Sp := fun vs H Q _ => ∃ (R : LegR) (pre post : List SvR) (s : SvR) (now n : Int) (xo : V) (o : Option Off), vs = [.ref R.p, .ref s.p, .int now, .int n, xo] ∧ Cells H (legM K R) ∧ LegI K H R ∧ LegW R ∧ OffX H xo o ∧ R.ss = pre ++ s :: post ∧ 0 ≤ n ∧ n ≤ 99 ∧
  ∀ R' rows r ts H', RepR R pre post s now n xo o R' rows → Run H (legM K R) H' ((r, .lst (ts.map V.ref)) :: legM K R') → LegI K H' R' → RwI H' ts rows → Q (.ref r) H'
theorem ok_Leg__reply {P : Program} {w : World} {K : PySem.W.Frag} {mg : Str → Option Value} {base : Heap} {f : Addr} {fd : FuncData} (T : Tx K mg) (c_Letter_reply_d1 : C8.Met P w K mg base 3 (He.ga K "Letter") "reply" (spLReply K) [(V.non)]) (c_Server_reply : C8.Met P w K mg base 3 (He.ga K "Server") "reply" (spSvReply K) [])
    (F : FunD K "_reply" "Leg._reply" (defArgs s_Leg__reply) (defBody s_Leg__reply) (defScope s_Leg__reply) [(V.non)] [] f fd) : FnOk P w K mg base CX0 4 f fd ["self", "server", "now", "code", "offer"] (spReplyL K) := by
  refine F.ok sc_Leg__reply (fun vs H Q E h => ?_) (fun cdv A outer s0 H vs Q E hr h => ?_)
  · obtain ⟨R, pre, post, s, now, n, xo, o, rfl, _⟩ := h
    rfl
  · obtain ⟨R, pre, post, s, now, n, xo, o, rfl, hc, hi, hw, hx, es, n0, n1, k⟩ := h
    have hs := Cells.srv hc es
    have his := hi.si s (by rw [es]; simp)
    have hp := leg_p hc
    have hsp : H s.p = some (svO K s) := hs.get (by simp [svM])
    obtain ⟨dl, hl0⟩ := id his.lt
    refine ⟨_, PSs.nox (pss_one (ps_ret (C8.pe_mt c_Server_reply hr (by decide) (pv 1) (pa_cons (C8.pe_mt c_Letter_reply_d1 hr (by decide) (pe_fldC rfl T.cl_Server T.na_Server_letter (pv 1) rfl) (pa_cons (pv 3) (pa_cons (pe_fldC rfl T.cl_Leg T.na_Leg_tag (pv 0) rfl) (pa_cons (pv 4) pa_nil)))) (pa_cons (pv 2) pa_nil))))), ?_⟩
    refine ⟨_, rfl, s.p, s.dx, _, rfl, hsp, rfl, _, rfl, s.p, s.dx, _, _, rfl, hsp, rfl, s.la, dl, _, rfl, hl0, rfl, _, rfl, _, rfl, R.p, R.dx, _, _, rfl, hp, rfl, _, rfl, s.la, s.L, .int n, R.tag, xo, .non, rfl, his.lt, fun b H1 s1 hb hlb => ?_⟩
    have r1 := (Run.refl hc).same s1
    refine ⟨_, rfl, s, b, repL R s n xo, o, n, now, rfl, Cells.srv r1.c es, his.im r1.im, hlb, repL_ok hw his.lk n0 n1, hx.1.im r1.im, repL_x hx, rfl, fun r ts al t wa wx H2 r2 i2 w2 => ?_⟩
    have r3 := Run.srv (X := [(r, .lst (ts.map V.ref))]) (s' := repS R s n now xo o al t wa wx) r1 es (repS_p ..) r2
    have h := hi.im r3.im
    refine k _ _ r ts H2 ⟨al, t, wa, wx, rfl, rfl⟩ r3 ⟨h.ab, h.ci, fun x m => ?_, h.wi, h.ei⟩ w2
    have m : x ∈ pre ++ repS R s n now xo o al t wa wx :: post := m
    rcases List.mem_append.mp m with m | m
    · exact h.si x (by rw [es]; exact List.mem_append_left _ m)
    · rcases List.mem_cons.mp m with rfl | m
      · exact i2
      · exact h.si x (by rw [es]; exact List.mem_append_right _ (List.mem_cons_of_mem _ m))
def spRepCall (K : PySem.W.Frag) : Sp := fun vs H Q _ => ∃ (R : LegR) (post : List SvR) (s : SvR) (now n : Int) (xo : V) (o : Option Off), vs = [.ref R.p, .int now, .int n, xo] ∧ Cells H (legM K R) ∧ LegI K H R ∧ LegW R ∧ OffX H xo o ∧ R.ss = s :: post ∧ 0 ≤ n ∧ n ≤ 99 ∧
  ∀ R' rows r ts H', RepR R [] post s now n xo o R' rows → Run H (legM K R) H' ((r, .lst (ts.map V.ref)) :: legM K R') → LegI K H' R' → RwI H' ts rows → Q (.ref r) H'
theorem ok_Leg__reply_to_call {P : Program} {w : World} {K : PySem.W.Frag} {mg : Str → Option Value} {base : Heap} {f : Addr} {fd : FuncData} (T : Tx K mg) (c_Leg__reply_d1 : C8.Met P w K mg base 4 (He.ga K "Leg") "_reply" (spReplyL K) [])
    (F : FunD K "_reply_to_call" "Leg._reply_to_call" (defArgs s_Leg__reply_to_call) (defBody s_Leg__reply_to_call) (defScope s_Leg__reply_to_call) [(V.non)] [] f fd) : FnOk P w K mg base CX0 5 f fd ["self", "now", "code", "offer"] (spRepCall K) := by
  refine F.ok sc_Leg__reply_to_call (fun vs H Q E h => ?_) (fun cdv A outer s0 H vs Q E hr h => ?_)
  · obtain ⟨R, post, s, now, n, xo, o, rfl, _⟩ := h
    rfl
  · obtain ⟨R, post, s, now, n, xo, o, rfl, hc, hi, hw, hx, es, n0, n1, k⟩ := h
    have hp := leg_p hc
    have hsv := leg_sv hc
    have hat : atI (R.ss.map fun c => V.ref c.p) 0 = some (.ref s.p) := by
      rw [es]
      exact atC _ _
    refine ⟨_, PSs.nox (pss_one (ps_ret (C8.pe_mt c_Leg__reply_d1 hr (by decide) (pv 0) (pa_cons (pe_ix ix_list (pe_fldC rfl T.cl_Leg T.na_Leg__servers (pv 0) rfl) pe_int (fun _ _ => rfl)) (pa_cons (pv 1) (pa_cons (pv 2) (pa_cons (pv 3) pa_nil))))))), ?_⟩
    refine ⟨_, rfl, R.p, R.dx, _, rfl, hp, rfl, _, rfl, R.p, R.dx, _, _, rfl, hp, rfl, R.sv, _, 0, .ref s.p, rfl, rfl, SqL.of hsv, hat, _, rfl, _, rfl, _, rfl, R, [], post, s, now, n, xo, o, rfl, hc, hi, hw, hx, es, n0, n1, k⟩

end K7
set_option maxHeartbeats 4000000
set_option pp.maxSteps 400
namespace K7
open PySem PySem.Spec PyProof.Rows L2 SX TK TKS TKC
open C8 (pe_c)
/-! stop_call -/
inductive All2 {α β : Type} (P : α → β → Prop) : List α → List β → Prop
  | nil : All2 P [] []
  | snoc {a : α} {b : β} {as : List α} {bs : List β} (h : All2 P as bs) (p : P a b) : All2 P (as ++ [a]) (bs ++ [b])
/-- what stopping the CALLs makes of a client -/
def StopI (now : Int) (c c' : ClR) : Prop := if c.L.verb = "CALL" then ∃ wa wx, c' = stopC c now wa wx else c' = c
theorem stopC_same (c : ClR) (now : Int) (wa wx : Addr) : (stopC c now wa wx).p = c.p ∧ (stopC c now wa wx).la = c.la ∧ (stopC c now wa wx).L = c.L ∧ (stopC c now wa wx).o = c.o ∧ (stopC c now wa wx).kl = c.kl ∧ (stopC c now wa wx).kz = c.kz ∧ (stopC c now wa wx).pl = c.pl := by
  unfold stopC
  split <;> exact ⟨rfl, rfl, rfl, rfl, rfl, rfl, rfl⟩
theorem stopC_I {K : PySem.W.Frag} {H : Hp} {c : ClR} {now : Int} {wa wx : Addr} (h : ClI K H c) : ClI K H (stopC c now wa wx) := by
  obtain ⟨_, e2, e3, e4, e5, e6, e7⟩ := stopC_same c now wa wx
  exact ⟨by rw [e2, e3]; exact h.lt, by rw [e3, e4]; exact h.of, by rw [e3]; exact h.lk, by rw [e3, e4]; exact h.xk, by rw [e5]; exact h.kn, by rw [e5, e6, e7]; exact h.kt⟩
theorem StopI.p {now : Int} {c c' : ClR} (h : StopI now c c') : c'.p = c.p := by
  unfold StopI at h
  split at h
  · obtain ⟨wa, wx, rfl⟩ := h
    exact (stopC_same c now wa wx).1
  · rw [h]
theorem All2.ps {now : Int} {cs cs' : List ClR} (h : All2 (StopI now) cs cs') : cs'.map (fun c => V.ref c.p) = cs.map (fun c => V.ref c.p) := by
  induction h with
  | nil => rfl
  | snoc _ p ih =>
    rw [List.map_append, List.map_append, ih]
    show _ ++ [V.ref _] = _ ++ [V.ref _]
    rw [p.p]
def spStopCall (K : PySem.W.Frag) : Sp := fun vs H Q _ => ∃ (R : LegR) (now : Int), vs = [.ref R.p, .int now] ∧ Cells H (legM K R) ∧ LegI K H R ∧
  ∀ cs H', All2 (StopI now) R.cs cs → Run H (legM K R) H' (legM K { R with cs := cs }) → LegI K H' { R with cs := cs } → Q .non H'
theorem ok_Leg__stop_call {P : Program} {w : World} {K : PySem.W.Frag} {mg : Str → Option Value} {base : Heap} {f : Addr} {fd : FuncData} (T : Tx K mg) (c_Client_stop : C8.Met P w K mg base 3 (He.ga K "Client") "stop" (spStop K) [])
    (F : FunD K "_stop_call" "Leg._stop_call" (defArgs s_Leg__stop_call) (defBody s_Leg__stop_call) (defScope s_Leg__stop_call) [] [] f fd) : FnOk P w K mg base CX0 4 f fd ["self", "now"] (spStopCall K) := by
  refine F.ok sc_Leg__stop_call (fun vs H Q E h => ?_) (fun cdv A outer s0 H vs Q E hr h => ?_)
  · obtain ⟨R, now, rfl, _⟩ := h
    rfl
  · obtain ⟨R, now, rfl, hc, hi, k⟩ := h
    have hp := leg_p hc
    have hcl := leg_cl hc
    refine ⟨_, PSs.nox (pss_one (ps_for PassesOwn.never rfl (pi_list (pe_fldC rfl T.cl_Leg T.na_Leg__clients (pv 0) rfl)) (pg_name (i := 2) sc_Leg__stop_call.nd rfl (Or.inl rfl)) (pss_one (ps_if (pt_cmpR op_eq (pe_fldC rfl T.cl_Letter T.na_Letter_verb (pe_fldC rfl T.cl_Client T.na_Client_letter (pv 2) rfl) rfl) pe_str (nomark _)) (pss_one (ps_expr (C8.pe_mt c_Client_stop hr (by decide) (pv 2) (pa_cons (pv 1) pa_nil)))) pss_nil)))), ?_⟩
    refine ⟨_, rfl, R.p, R.dx, _, _, rfl, hp, rfl, R.cl, rfl, ⟨_, SqL.of hcl⟩, for_list (K := K) (a := R.cl) (xs := R.cs.map fun c => V.ref c.p) (fun i σ H' => ∃ (cs1 : List ClR) (v : Option V), σ = [some (.ref R.p), some (.int now), v] ∧ All2 (StopI now) (R.cs.take i) cs1 ∧ Run H (legM K R) H' (legM K { R with cs := cs1 ++ R.cs.drop i }) ∧ LegI K H' { R with cs := cs1 ++ R.cs.drop i }) ⟨[], none, rfl, .nil, Run.refl hc, hi⟩ ?_ ?_ ?_⟩
    · rintro i σ H' _ ⟨cs1, v, rfl, ha, r, _⟩
      have q := leg_cl r.c
      dsimp only at q
      rw [List.map_append, ha.ps, ← List.map_append, List.take_append_drop] at q
      exact SqL.of q
    · rintro i x σ H1 hi1 ⟨cs1, v, rfl, ha, r, ii⟩
      rw [List.getElem?_map] at hi1
      obtain ⟨c, hci, rfl⟩ := Option.map_eq_some_iff.mp hi1
      obtain ⟨hlt, rfl⟩ := List.getElem?_eq_some_iff.mp hci
      have ed : R.cs.drop i = R.cs[i] :: R.cs.drop (i + 1) := List.drop_eq_getElem_cons hlt
      have et : R.cs.take (i + 1) = R.cs.take i ++ [R.cs[i]] := by
        rw [List.take_succ_eq_append_getElem hlt]
      have es : (LegR.cs { R with cs := cs1 ++ R.cs.drop i }) = cs1 ++ R.cs[i] :: R.cs.drop (i + 1) := by rw [← ed]
      have cc := Cells.cli r.c es
      generalize R.cs[i] = c at *
      have ic := ii.ci c (by rw [es]; simp)
      have hcp : H1 c.p = some (clO K c) := cc.get (by simp [clM])
      obtain ⟨dl, hl⟩ := id ic.lt
      refine ⟨_, rfl, c.p, c.dx, _, _, rfl, hcp, rfl, c.la, dl, _, _, rfl, hl, rfl, rfl, _, rfl, ?_⟩
      rw [vstr, et]
      by_cases e : c.L.verb = "CALL"
      · rw [decide_eq_true e]
        refine iteT ⟨_, rfl, c.p, c.dx, _, rfl, hcp, rfl, _, rfl, c, now, rfl, cc, fun wa wx H2 r2 => ?_⟩
        have r3 := Run.cli (X := []) r es (stopC_same c now wa wx).1 r2
        have i3 := ii.im r2.im
        refine ⟨cs1 ++ [stopC c now wa wx], _, rfl, ha.snoc (by unfold StopI; rw [if_pos e]; exact ⟨wa, wx, rfl⟩), by rw [List.append_assoc]; exact r3, i3.ab, fun y m => ?_, i3.si, i3.wi, i3.ei⟩
        have m : y ∈ (cs1 ++ [stopC c now wa wx]) ++ R.cs.drop (i + 1) := m
        rw [List.append_assoc] at m
        rcases List.mem_append.mp m with m | m
        · exact i3.ci y (by rw [es]; exact List.mem_append_left _ m)
        · rcases List.mem_cons.mp m with rfl | m
          · exact stopC_I (ic.im r2.im)
          · exact i3.ci y (by rw [es]; exact List.mem_append_right _ (List.mem_cons_of_mem _ m))
      · rw [decide_eq_false e]
        refine iteF ⟨cs1 ++ [c], _, rfl, ha.snoc (by unfold StopI; rw [if_neg e]), ?_, ?_⟩
        · rw [List.append_assoc]
          show Run H (legM K R) H1 (legM K { R with cs := cs1 ++ (c :: R.cs.drop (i + 1)) })
          rw [← ed]
          exact r
        · rw [List.append_assoc]
          show LegI K H1 { R with cs := cs1 ++ (c :: R.cs.drop (i + 1)) }
          rw [← ed]
          exact ii
    · rintro σ H1 ⟨cs1, v, rfl, ha, r, ii⟩
      rw [List.length_map] at ha r ii
      rw [List.drop_length, List.append_nil] at r ii
      rw [List.take_length] at ha
      exact k cs1 H1 ha r ii
/-! take_events -/
theorem perm_ev {α : Type} (w p cl sv wt ev : α) (X : List α) : (w :: p :: cl :: sv :: wt :: ev :: X).Perm (ev :: p :: cl :: sv :: wt :: w :: X) := by
  have h1 : ([w, p, cl, sv, wt] ++ ev :: X).Perm (ev :: ([w, p, cl, sv, wt] ++ X)) := List.perm_middle
  have h2 : ([p, cl, sv, wt] ++ w :: X).Perm (w :: ([p, cl, sv, wt] ++ X)) := List.perm_middle
  exact h1.trans (h2.symm.cons ev)
def spTakeEv (K : PySem.W.Frag) : Sp := fun vs H Q _ => ∃ R : LegR, vs = [.ref R.p] ∧ Cells H (legM K R) ∧ LegI K H R ∧ ∀ ev H', Run H (legM K R) H' ((R.ev, evL R) :: legM K { R with ev := ev, es := [] }) → LegI K H' { R with ev := ev, es := [] } → Q (.ref R.ev) H'
theorem ok_Leg_take_events {P : Program} {w : World} {K : PySem.W.Frag} {mg : Str → Option Value} {base : Heap} {f : Addr} {fd : FuncData} (T : Tx K mg) 
    (F : FunD K "take_events" "Leg.take_events" (defArgs s_Leg_take_events) (defBody s_Leg_take_events) (defScope s_Leg_take_events) [] [] f fd) : FnOk P w K mg base CX0 1 f fd ["self"] (spTakeEv K) := by
  refine F.ok sc_Leg_take_events (fun vs H Q E h => ?_) (fun cdv A outer s0 H vs Q E hr h => ?_)
  · obtain ⟨R, rfl, _⟩ := h
    rfl
  · obtain ⟨R, rfl, hc, hi, k⟩ := h
    have hp := leg_p hc
    refine ⟨_, PSs.nox (pss_cons (ps_set (i := 1) sc_Leg_take_events.nd rfl (Or.inl rfl) (pe_fldC rfl T.cl_Leg T.na_Leg__events (pv 0) rfl)) (pss_cons (ps_fldC rfl T.cl_Leg T.na_Leg__events (pv 0) (pe_lst pa_nil) rfl) (pss_one (ps_ret (pv 1))))), ?_⟩
    refine ⟨_, rfl, R.p, R.dx, _, _, rfl, hp, rfl, by show 0 ≤ sizeLine; decide, fun w hw => ?_⟩
    have r2 := (Run.refl hc).add (o := .lst []) hw
    have hp2 := leg_p (Cells.right (A := [(w, .lst [])]) r2.c)
    refine ⟨_, rfl, R.p, R.dx, _, rfl, hp2, sm, ?_⟩
    rw [show putF "_events" (V.ref w) (legfl R) = legfl { R with ev := w } from rfl]
    have r3 := r2.set (A := [(w, .lst [])]) (a := R.p) (o := legO K R) (B := (R.cl, clL R) :: (R.sv, svL R) :: (R.wt, wtL R) :: (R.ev, evL R) :: (R.cs.flatMap (clM K) ++ R.ss.flatMap (svM K))) (o' := .ins (He.ga K "Leg") R.dx (legfl { R with ev := w })) rfl
    have r4 : Run H (legM K R) _ ((R.ev, evL R) :: legM K { R with ev := w, es := [] }) := r3.perm (perm_ev _ _ _ _ _ _ _)
    have h := hi.im r4.im
    exact ⟨_, rfl, k w _ r4 ⟨h.ab, h.ci, h.si, h.wi, fun _ m => (nomatch m)⟩⟩

end K7
set_option maxHeartbeats 4000000
set_option pp.maxSteps 400
namespace K7
open PySem PySem.Spec PyProof.Rows L2 SX TK TKS TKC
open C8 (pe_c)
/-! has_most_servers -/
def openB (R : LegR) (i : Nat) : Bool := match R.ss[i]? with
  | some s => !decide (s.st = .ovr)
  | none => false
def openN (R : LegR) : Nat := ((List.range R.ss.length).filter (openB R)).length
theorem openN_le (R : LegR) : openN R ≤ R.ss.length := by
  have h := List.length_filter_le (openB R) (List.range R.ss.length)
  rw [List.length_range] at h
  exact h
def spMost (K : PySem.W.Frag) : Sp := fun vs H Q _ => ∃ R : LegR, vs = [.ref R.p] ∧ Cells H (legM K R) ∧ R.ss.length < 100000 ∧ ∀ H', Same H H' → Q (.bl (decide (16 ≤ openN R))) H'
theorem ok_Leg__has_most_servers {P : Program} {w : World} {K : PySem.W.Frag} {mg : Str → Option Value} {base : Heap} {f : Addr} {fd : FuncData} (T : Tx K mg) (c_Server_is_over : C8.Met P w K mg base 1 (He.ga K "Server") "is_over" (spSvOver K) [])
    (F : FunD K "_has_most_servers" "Leg._has_most_servers" (defArgs s_Leg__has_most_servers) (defBody s_Leg__has_most_servers) (defScope s_Leg__has_most_servers) [] [] f fd) : FnOk P w K mg base CX0 2 f fd ["self"] (spMost K) := by
  refine F.ok sc_Leg__has_most_servers (fun vs H Q E h => ?_) (fun cdv A outer s0 H vs Q E hr h => ?_)
  · obtain ⟨R, rfl, _⟩ := h
    rfl
  · obtain ⟨R, rfl, hc, hn, k⟩ := h
    have hp := leg_p hc
    have hsv := leg_sv hc
    refine ⟨_, PSs.nox (pss_one (ps_ret (pe_cmpR op_ge (pe_callB call_len_seq rfl T.f_len PySem.boot_len (pa_cons (pe_lc (own := [("server", 1)]) (g := gName 1) rfl sc_Leg__has_most_servers.nd (pi_list (pe_fldC rfl T.cl_Leg T.na_Leg__servers (pv 0) rfl)) (blkOk_by (own := [("server", 1)]) (N := ["self", "server"]) (sc := defScope s_Leg__has_most_servers) (by decide +kernel)) (fun _ _ _ _ _ => pg_name (i := 1) sc_Leg__has_most_servers.nd rfl (Or.inl rfl)) (fun _ _ _ _ _ => pts_one (pt_not (pt_val (C8.pe_mt0 c_Server_is_over hr (by decide) (pv 1))))) (fun _ _ _ _ _ => (pv 1))) pa_nil)) (pgI T.g_MOST_SERVERS) (nomark _)))), ?_⟩
    refine ⟨_, rfl, R.p, R.dx, _, _, rfl, hp, rfl, R.sv, rfl, ⟨_, SqL.of hsv⟩, fun D hD => ?_⟩
    have sS : ∀ o, SqL K (upd H D o) R.sv (R.ss.map fun c => V.ref c.p) := fun o => SqL.of ((same_upd hD) _ _ hsv)
    have at_ : ∀ i x, (R.ss.map fun c => V.ref c.p)[i]? = some x → ∃ s ∈ R.ss, R.ss[i]? = some s ∧ x = V.ref s.p := fun i x hx => by
      rw [List.getElem?_map] at hx
      obtain ⟨s, hs, rfl⟩ := Option.map_eq_some_iff.mp hx
      exact ⟨s, List.mem_of_getElem? hs, hs, rfl⟩
    refine lc_filt walk_list (fun i => (R.ss.map fun c => V.ref c.p).getD i .non) (openB R) (by rw [List.length_map]; exact Nat.le_trans (Nat.le_of_lt hn) (by decide)) (fun _ _ => sS _) (fun i x H1 kk hi y qq => ?_) (fun i x H1 kk hi hb y qq => ?_) ?_
    · obtain ⟨rfl, hx⟩ := y
      obtain ⟨s, ms, es, rfl⟩ := at_ i x hx
      have hsp : H s.p = some (svO K s) := by
        obtain ⟨pre, post, e⟩ := List.append_of_mem ms
        exact (Cells.srv hc e).get (by simp [svM])
      have hsp1 := (same_upd (o := .lst (((List.range i).filter (openB R)).map fun i => (R.ss.map fun c => V.ref c.p).getD i .non)) hD) _ _ hsp
      refine ⟨rfl, _, rfl, s.p, s.dx, _, rfl, hsp1, rfl, s, rfl, hsp1, _, rfl, ?_⟩
      have eb : openB R i = !decide (s.st = .ovr) := by
        unfold openB
        rw [es]
      rw [eb] at qq
      exact qq
    · obtain ⟨rfl, hx⟩ := y
      refine ⟨_, rfl, ?_⟩
      rw [show (R.ss.map fun c => V.ref c.p).getD i .non = x by rw [List.getD_eq_getElem?_getD, hx]; rfl] at qq
      exact qq
    · refine ⟨D, _, rfl, .inl (SqL.of upd_same), _, _, rfl, rfl, ?_⟩
      rw [List.length_map, List.length_map]
      have e : decide ((16 : Int) ≤ (((List.range R.ss.length).filter (openB R)).length : Nat)) = decide (16 ≤ openN R) := by
        by_cases h : 16 ≤ openN R
        · rw [decide_eq_true h, decide_eq_true]
          have : 16 ≤ ((List.range R.ss.length).filter (openB R)).length := h
          omega
        · rw [decide_eq_false h, decide_eq_false]
          have : ¬ 16 ≤ ((List.range R.ss.length).filter (openB R)).length := h
          omega
      show Q (.bl (decide ((16 : Int) ≤ (((List.range R.ss.length).filter (openB R)).length : Nat)))) _
      rw [e]
      exact k _ (same_upd hD)

end K7
set_option maxHeartbeats 4000000
set_option pp.maxSteps 400
namespace K7
open PySem PySem.Spec PyProof.Rows L2 SX TK TKS TKC
open C8 (pe_c)
def sendsB (m : Str) : Bool := inV (.str m) [.str "both", .str "send"]
def takesB (m : Str) : Bool := inV (.str m) [.str "both", .str "take"]
def modeS (s t : Bool) : Str := if (s && t) = true then "both" else if s = true then "send" else if t = true then "take" else "none"
def spSends : Sp := fun vs H Q _ => ∃ x o, vs = [x] ∧ OffAt H x o ∧ ∀ H', Same H H' → Q (.bl (sendsB o.mode)) H'
theorem ok_sends {P : Program} {w : World} {K : PySem.W.Frag} {mg : Str → Option Value} {base : Heap} {f : Addr} {fd : FuncData} (T : Tx K mg) 
    (F : FunD K "_sends" "_sends" (defArgs s_sends) (defBody s_sends) (defScope s_sends) [] [] f fd) : FnOk P w K mg base CX0 1 f fd ["offer"] spSends := by
  refine F.ok sc_sends (fun vs H Q E h => ?_) (fun cdv A outer s H vs Q E hr h => ?_)
  · obtain ⟨x, o, rfl, _⟩ := h
    rfl
  · obtain ⟨x, o, rfl, ⟨p, f, rfl, e1, e2⟩, k⟩ := h
    refine ⟨_, PSs.nox (pss_one (ps_ret (pe_cmpR op_in_seq (pe_ix ix_tup (pv 0) pe_int (fun _ _ => rfl)) (pe_tup (pa_cons pe_str (pa_cons pe_str pa_nil))) (by with_unfolding_all rfl)))), ?_⟩
    refine ⟨_, rfl, p, _, 1, _, rfl, rfl, SqT.of e1, rfl, by show 2 ≤ sizeLine; decide, fun t ht => ?_⟩
    exact ⟨t, _, rfl, .inr (SqT.of upd_same), rfl, rfl, k _ (same_upd ht)⟩
def spTakes : Sp := fun vs H Q _ => ∃ x o, vs = [x] ∧ OffAt H x o ∧ ∀ H', Same H H' → Q (.bl (takesB o.mode)) H'
theorem ok_takes {P : Program} {w : World} {K : PySem.W.Frag} {mg : Str → Option Value} {base : Heap} {f : Addr} {fd : FuncData} (T : Tx K mg) 
    (F : FunD K "_takes" "_takes" (defArgs s_takes) (defBody s_takes) (defScope s_takes) [] [] f fd) : FnOk P w K mg base CX0 1 f fd ["offer"] spTakes := by
  refine F.ok sc_takes (fun vs H Q E h => ?_) (fun cdv A outer s H vs Q E hr h => ?_)
  · obtain ⟨x, o, rfl, _⟩ := h
    rfl
  · obtain ⟨x, o, rfl, ⟨p, f, rfl, e1, e2⟩, k⟩ := h
    refine ⟨_, PSs.nox (pss_one (ps_ret (pe_cmpR op_in_seq (pe_ix ix_tup (pv 0) pe_int (fun _ _ => rfl)) (pe_tup (pa_cons pe_str (pa_cons pe_str pa_nil))) (by with_unfolding_all rfl)))), ?_⟩
    refine ⟨_, rfl, p, _, 1, _, rfl, rfl, SqT.of e1, rfl, by show 2 ≤ sizeLine; decide, fun t ht => ?_⟩
    exact ⟨t, _, rfl, .inr (SqT.of upd_same), rfl, rfl, k _ (same_upd ht)⟩
def spMode : Sp := fun vs H Q _ => ∃ a b : Bool, vs = [.bl a, .bl b] ∧ Q (.str (modeS a b)) H
theorem ok_mode {P : Program} {w : World} {K : PySem.W.Frag} {mg : Str → Option Value} {base : Heap} {f : Addr} {fd : FuncData} (T : Tx K mg) 
    (F : FunD K "_mode" "_mode" (defArgs s_mode) (defBody s_mode) (defScope s_mode) [] [] f fd) : FnOk P w K mg base CX0 1 f fd ["sends", "takes"] spMode := by
  refine F.ok sc_mode (fun vs H Q E h => ?_) (fun cdv A outer s H vs Q E hr h => ?_)
  · obtain ⟨a, b, rfl, _⟩ := h
    rfl
  · obtain ⟨a, b, rfl, k⟩ := h
    refine ⟨_, PSs.nox (C8.pss_cut (ps_if (PW.pt (pw_and (pt_val (pv 0)) (pw_and1 (pt_val (pv 1))))) (pss_one (ps_ret pe_str)) pss_nil) (C8.pss_cut (ps_if (pt_val (pv 0)) (pss_one (ps_ret pe_str)) pss_nil) (pss_one (ps_ret (pe_ifExp (pt_val (pv 1)) pe_str pe_str))))), ?_⟩
    cases a with
    | true =>
      cases b with
      | true => exact ⟨fun _ _ => False, ⟨_, rfl, _, rfl, iteT ⟨_, rfl, _, rfl, iteT k⟩⟩, fun _ _ z => z.elim⟩
      | false =>
        refine ⟨fun σ' H' => σ' = [some (.bl true), some (.bl false)] ∧ H' = H, ⟨_, rfl, _, rfl, iteT ⟨_, rfl, _, rfl, iteF ⟨rfl, rfl⟩⟩⟩, ?_⟩
        rintro σ' H' ⟨rfl, rfl⟩
        exact ⟨fun _ _ => False, ⟨_, rfl, _, rfl, iteT k⟩, fun _ _ z => z.elim⟩
    | false =>
      refine ⟨fun σ' H' => σ' = [some (.bl false), some (.bl b)] ∧ H' = H, ⟨_, rfl, _, rfl, iteF (iteF ⟨rfl, rfl⟩)⟩, ?_⟩
      rintro σ' H' ⟨rfl, rfl⟩
      refine ⟨fun σ' H2 => σ' = [some (.bl false), some (.bl b)] ∧ H2 = H', ⟨_, rfl, _, rfl, iteF ⟨rfl, rfl⟩⟩, ?_⟩
      rintro σ' H2 ⟨rfl, rfl⟩
      cases b with
      | true => exact ⟨_, rfl, _, rfl, iteT k⟩
      | false => exact ⟨_, rfl, _, rfl, iteF k⟩
/-- a tuple of two answers -/
def BB (H : Hp) (x : V) (a b : Bool) : Prop := ∃ p, x = .ref p ∧ H p = some (.tup [.bl a, .bl b])
def spFlows : Sp := fun vs H Q _ => ∃ x o y u, vs = [x, y] ∧ OffAt H x o ∧ OffAt H y u ∧ ∀ z H', Same H H' → BB H' z (sendsB o.mode && takesB u.mode) (sendsB u.mode && takesB o.mode) → Q z H'
theorem ok_flows {P : Program} {w : World} {K : PySem.W.Frag} {mg : Str → Option Value} {base : Heap} {f : Addr} {fd : FuncData} (T : Tx K mg) (c_sends : C8.Cal P w K mg base 1 "_sends" spSends []) (c_takes : C8.Cal P w K mg base 1 "_takes" spTakes [])
    (F : FunD K "flows" "flows" (defArgs s_flows) (defBody s_flows) (defScope s_flows) [] [] f fd) : FnOk P w K mg base CX0 2 f fd ["offer", "answered"] spFlows := by
  refine F.ok sc_flows (fun vs H Q E h => ?_) (fun cdv A outer s H vs Q E hr h => ?_)
  · obtain ⟨x, o, y, u, rfl, _⟩ := h
    rfl
  · obtain ⟨x, o, y, u, rfl, hx, hy, k⟩ := h
    refine ⟨_, PSs.nox (pss_cons (ps_set (i := 2) sc_flows.nd rfl (Or.inl rfl) (pe_and (pe_c c_sends hr (by decide) rfl (pa_cons (pv 0) pa_nil)) (pe_one (pe_c c_takes hr (by decide) rfl (pa_cons (pv 1) pa_nil))))) (pss_cons (ps_set (i := 3) sc_flows.nd rfl (Or.inl rfl) (pe_and (pe_c c_sends hr (by decide) rfl (pa_cons (pv 1) pa_nil)) (pe_one (pe_c c_takes hr (by decide) rfl (pa_cons (pv 0) pa_nil))))) (pss_one (ps_ret (pe_tup (pa_cons (pv 2) (pa_cons (pv 3) pa_nil))))))), ?_⟩
    -- (a and b) as the two of them say
    have andT : ∀ {a b : Bool} {Q : Bool → Prop} {Z : Prop}, (a = true → Q b → Z) → Q (a && b) → if a = true then Z else Q false := by
      intro a b Q Z h1 h2
      cases a with
      | true => exact iteT (h1 rfl h2)
      | false => exact iteF h2
    refine ⟨_, rfl, x, o, rfl, hx, fun H1 s1 => ⟨_, rfl, ?_⟩⟩
    have second : ∀ (b1 : Bool) (H2 : Hp), b1 = (sendsB o.mode && takesB u.mode) → Same H H2 → (tSeq (tAsg (tAndV (tCall spSends [] L2.E0 (tCons (tVar 1) tNil)) (tCall spTakes [] L2.E0 (tCons (tVar 0) tNil))) (gName 3)) (tRet (tTup (tCons (tVar 2) (tCons (tVar 3) tNil)))) : TS) { nx := fun _ H' => Q .non H', rt := Q } [some x, some y, some (.bl b1), none] H2 := by
      rintro b1 H2 rfl s2
      refine ⟨_, rfl, y, u, rfl, hy.same s2, fun H3 s3 => ⟨_, rfl, ?_⟩⟩
      cases e : sendsB u.mode with
      | true =>
        refine iteT ⟨_, rfl, x, o, rfl, hx.same (s2.trans s3), fun H4 s4 => ?_⟩
        refine ⟨_, rfl, _, rfl, by show 2 ≤ sizeLine; decide, fun p hp => k _ _ (((s2.trans s3).trans s4).trans (same_upd hp)) ⟨p, rfl, ?_⟩⟩
        rw [e]
        exact upd_same
      | false =>
        refine iteF ⟨_, rfl, _, rfl, by show 2 ≤ sizeLine; decide, fun p hp => k _ _ ((s2.trans s3).trans (same_upd hp)) ⟨p, rfl, ?_⟩⟩
        rw [e]
        exact upd_same
    cases e : sendsB o.mode with
    | true =>
      refine iteT ⟨_, rfl, y, u, rfl, hy.same s1, fun H2 s2 => ?_⟩
      exact second _ H2 (by rw [e]; rfl) (s1.trans s2)
    | false => exact iteF (second _ H1 (by rw [e]; rfl) s1)
def heldO (o : Off) : Off := ⟨o.port, modeS (sendsB o.mode) false, o.fs⟩
def spHeld : Sp := fun vs H Q _ => ∃ x o, vs = [x] ∧ OffAt H x o ∧ ∀ z H', Same H H' → OffAt H' z (heldO o) → Q z H'
/-- a text within a list of texts -/
def commonL (a o : Off) : List Str := o.fs.filter fun z => decide (z ∈ a.fs)
def answerO (a o : Off) : Option Off := if commonL a o = [] then none else some ⟨a.port, modeS (sendsB a.mode && takesB o.mode) (sendsB o.mode && takesB a.mode), commonL a o⟩
/-- None, or an offer -/
def spAnswer : Sp := fun vs H Q _ => ∃ x a y o, vs = [x, y] ∧ OffAt H x a ∧ OffAt H y o ∧ o.fs.length ≤ 1000 ∧ ∀ z H', Same H H' → OffO H' z (answerO a o) → Q z H'
theorem ok_answer {P : Program} {w : World} {K : PySem.W.Frag} {mg : Str → Option Value} {base : Heap} {f : Addr} {fd : FuncData} (T : Tx K mg) (c_flows : C8.Cal P w K mg base 2 "flows" spFlows []) (c_mode : C8.Cal P w K mg base 1 "_mode" spMode [])
    (F : FunD K "answer" "answer" (defArgs s_answer) (defBody s_answer) (defScope s_answer) [] [] f fd) : FnOk P w K mg base CX0 3 f fd ["able", "offer"] spAnswer := by
  refine F.ok sc_answer (fun vs H Q E h => ?_) (fun cdv A outer s H vs Q E hr h => ?_)
  · obtain ⟨x, a, y, o, rfl, _⟩ := h
    rfl
  · obtain ⟨x, a, y, o, rfl, hx, hy, hl, k⟩ := h
    obtain ⟨p, f, rfl, e1, e2⟩ := id hx
    obtain ⟨q, g, rfl, e3, e4⟩ := id hy
    refine ⟨_, PSs.nox (pss_cons (ps_asg (pv 0) (pg_tup rfl (pgs_cons (pg_name (i := 2) sc_answer.nd rfl (Or.inl rfl)) (pgs_cons (pg_name (i := 3) sc_answer.nd rfl (Or.inl rfl)) (pgs_cons (pg_name (i := 4) sc_answer.nd rfl (Or.inr rfl)) pgs_nil))))) (pss_cons (ps_set (i := 5) sc_answer.nd rfl (Or.inl rfl) (pe_callTy call_tuple_of rfl T.f_tuple (by decide +kernel) (pa_cons (pe_lc (own := [("name", 8)]) (g := gName 8) rfl sc_answer.nd (pi_tup (pe_ix ix_tup (pv 1) pe_int (fun _ _ => rfl))) (blkOk_by (own := [("name", 8)]) (N := ["able", "offer", "port", "_", "own_formats", "formats", "sends", "takes", "name"]) (sc := defScope s_answer) (by decide +kernel)) (fun _ _ _ _ _ => pg_name (i := 8) sc_answer.nd rfl (Or.inl rfl)) (fun _ _ _ _ _ => pts_one (pt_cmpR (inSeqK K rfl) (pv 8) (pv 4) (by with_unfolding_all rfl))) (fun _ _ _ _ _ => (pv 8))) pa_nil))) (C8.pss_cut (ps_if (pt_not (pt_truth (pv 5) (fun _ => rfl))) (pss_one (ps_ret pe_non)) pss_nil) (pss_cons (ps_asg (pe_c c_flows hr (by decide) rfl (pa_cons (pv 0) (pa_cons (pv 1) pa_nil))) (pg_tup rfl (pgs_cons (pg_name (i := 6) sc_answer.nd rfl (Or.inl rfl)) (pgs_cons (pg_name (i := 7) sc_answer.nd rfl (Or.inl rfl)) pgs_nil)))) (pss_one (ps_ret (pe_tup (pa_cons (pv 2) (pa_cons (pe_c c_mode hr (by decide) rfl (pa_cons (pv 6) (pa_cons (pv 7) pa_nil))) (pa_cons (pv 5) pa_nil)))))))))), ?_⟩
    refine ⟨_, rfl, p, _, rfl, SqT.of e1, rfl, _, _, rfl, _, _, rfl, _, _, rfl, rfl, ?_⟩
    refine ⟨_, rfl, q, _, 2, _, rfl, rfl, SqT.of e3, rfl, g, rfl, ⟨_, SqT.of e4⟩, fun D hD => ?_⟩
    have st : ∀ l, Same H (upd H D l) := fun l => same_upd hD
    refine lc_filt walk_tup (fun i => V.str (o.fs.getD i Str.empty)) (fun i => decide (o.fs.getD i Str.empty ∈ a.fs)) (by rw [List.length_map]; exact Nat.le_trans hl (by decide)) (fun i hi => SqT.of (st _ _ _ e4)) (fun i v H1 kk hi yy z => ?_) (fun i v H1 kk hi hb yy z => ?_) ?_
    · obtain ⟨rfl, ev⟩ := yy
      rw [List.getElem?_map] at ev
      obtain ⟨w, ew, rfl⟩ := Option.map_eq_some_iff.mp ev
      rw [getD_at _ ew] at z
      refine ⟨rfl, _, rfl, _, rfl, f, _, rfl, .inr (SqT.of (st _ _ _ e2)), rfl, flat_strs _, _, rfl, ?_⟩
      rw [inV_strs]
      exact z
    · obtain ⟨rfl, ev⟩ := yy
      rw [List.getElem?_map] at ev
      obtain ⟨w, ew, rfl⟩ := Option.map_eq_some_iff.mp ev
      rw [getD_at _ ew] at z
      exact ⟨_, rfl, z⟩
    · have eL : ((List.range (o.fs.map V.str).length).filter fun i => decide (o.fs.getD i Str.empty ∈ a.fs)).map (fun i => V.str (o.fs.getD i Str.empty)) = (commonL a o).map V.str := by
        rw [List.length_map]
        exact range_filter_getD o.fs Str.empty (fun z => decide (z ∈ a.fs)) V.str
      rw [eL]
      refine ⟨D, _, rfl, .inl ⟨SqL.of upd_same, fun t ht => ?_⟩⟩
      have s2 : Same H (upd (upd H D (.lst ((commonL a o).map V.str))) t (.tup ((commonL a o).map V.str))) := (st _).trans (same_upd ht)
      refine ⟨fun σ' H' => σ' = [some (.ref p), some (.ref q), some (.int a.port), some (.str a.mode), some (.ref f), some (.ref t), none, none, none] ∧ Same H H' ∧ H' t = some (.tup ((commonL a o).map V.str)) ∧ commonL a o ≠ [], ?_, ?_⟩
      · refine ⟨_, rfl, !((commonL a o).map V.str).isEmpty, .inr (.inl ⟨_, SqT.of upd_same, rfl⟩), ?_⟩
        cases ec : commonL a o with
        | nil =>
          rw [ec] at s2
          refine iteT (k _ _ s2 ?_)
          unfold answerO
          rw [if_pos ec]
          rfl
        | cons c r =>
          rw [ec] at s2
          exact iteF ⟨rfl, s2, upd_same, by simp⟩
      · rintro σ' H1 ⟨rfl, s1, e5, hne⟩
        refine ⟨_, rfl, _, rfl, _, a, _, o, rfl, hx.same s1, hy.same s1, fun z H2 s3 hz => ?_⟩
        obtain ⟨b, rfl, e6⟩ := hz
        refine ⟨b, _, rfl, SqT.of e6, rfl, _, _, rfl, _, _, rfl, rfl, ?_⟩
        refine ⟨_, rfl, _, rfl, _, rfl, _, _, rfl, _, rfl, by show 3 ≤ sizeLine; decide, fun u hu => ?_⟩
        refine k _ _ ((s1.trans s3).trans (same_upd hu)) ?_
        unfold answerO
        rw [if_neg hne]
        exact ⟨u, t, rfl, upd_same, (same_upd hu) _ _ (s3 _ _ e5)⟩


end K7
set_option maxHeartbeats 4000000
set_option pp.maxSteps 400
namespace K7
open PySem PySem.Spec PyProof.Rows L2 SX TK TKS TKC
open C8 (pe_c)
/-! ### a new request -/
def before (st : Str) : Bool := decide (st = "calling") || decide (st = "ringing")
theorem inV_before (st : Str) : inV (.str st) [.str "calling", .str "ringing"] = before st := by
  have h := inV_strs st ["calling", "ringing"]
  have e : (([("calling" : Str), "ringing"] : List Str).map V.str) = [.str "calling", .str "ringing"] := rfl
  rw [e] at h
  rw [h]
  unfold before
  by_cases h1 : st = "calling"
  · rw [decide_eq_true h1, decide_eq_true (by rw [h1]; simp)]
    rfl
  · rw [decide_eq_false h1, Bool.false_or]
    refine decide_eq_decide.mpr ?_
    simp [h1]
def asking (v : Str) : Bool := decide (v = "TURN") || (decide (v = "MOVE") || decide (v = "LIVE"))
theorem inV_asking (v : Str) : inV (.str v) [.str "TURN", .str "MOVE", .str "LIVE"] = asking v := by
  have h := inV_strs v ["TURN", "MOVE", "LIVE"]
  have e : (([("TURN" : Str), "MOVE", "LIVE"] : List Str).map V.str) = [.str "TURN", .str "MOVE", .str "LIVE"] := rfl
  rw [e] at h
  rw [h]
  unfold asking
  rw [← Bool.decide_or, ← Bool.decide_or]
  refine decide_eq_decide.mpr ?_
  simp
def endB (st : Str) : Bool := decide (st = "talking") || before st
/-- the code of a request that changes nothing -/
def plainC (R : LegR) (s : SvR) : Option Int :=
  if s.L.verb = "END" then (if endB R.st = true then none else some 41)
  else if s.L.verb = "STOP" then (if R.st = "offered" then none else some (if (decide (R.st = "talking") && R.took) = true then 20 else 41))
  else if asking s.L.verb = false ∨ before R.st = true then some 50
  else if R.st ≠ "talking" then some 41
  else if s.L.verb = "TURN" then (match s.o with
    | none => some 50
    | some u => if answerO R.able u = none then some 46 else none)
  else if s.L.verb = "MOVE" then (if s.L.goal = .non then some 50 else none)
  else some 20
inductive NewRel (R : LegR) (pre : List SvR) (s : SvR) (now : Int) : LegR → List (Str × Str) → Prop
  | plain {n : Int} {R' : LegR} {rows : List (Str × Str)} (h : plainC R s = some n) (r : RepR R pre [] s now n .non none R' rows) : NewRel R pre s now R' rows
  | ended {cs : List ClR} {wt t : Addr} {R' : LegR} {rows : List (Str × Str)} (v : s.L.verb = "END") (st : endB R.st = true) (a : All2 (StopI now) R.cs cs) (r : RepR (overR { R with cs := cs } wt t "ended" 20) pre [] s now 20 .non none R' rows) : NewRel R pre s now R' rows
  | stopped {wt t : Addr} {s0 s1 : SvR} {p2 : List SvR} {R1 R' : LegR} {rows1 rows2 : List (Str × Str)} (v : s.L.verb = "STOP") (st : R.st = "offered") (e : pre = s0 :: p2) (r1 : RepR (overR R wt t "stopped" 45) [] (p2 ++ [s]) s0 now 45 .non none R1 rows1) (e1 : R1.ss = (s1 :: p2) ++ [s]) (r2 : RepR R1 (s1 :: p2) [] s now 20 .non none R' rows2) : NewRel R pre s now R' (rows1 ++ rows2)
  | turned {t : Addr} {z : V} {u a : Off} {R' : LegR} {rows : List (Str × Str)} (v : s.L.verb = "TURN") (st : R.st = "talking") (o : s.o = some u) (an : answerO R.able u = some a) (r : RepR { R with es := R.es ++ [(t, [.str "turned", s.L.offer])] } pre [] s now 20 z (some a) R' rows) : NewRel R pre s now R' rows
  | moved {t : Addr} {R' : LegR} {rows : List (Str × Str)} (v : s.L.verb = "MOVE") (st : R.st = "talking") (g : s.L.goal ≠ .non) (r : RepR { R with es := R.es ++ [(t, [.str "moved", s.L.goal])] } pre [] s now 20 .non none R' rows) : NewRel R pre s now R' rows
structure NewOk (K : PySem.W.Frag) (H : Hp) (R : LegR) (pre : List SvR) (s : SvR) : Prop where
  c : Cells H (legM K R)
  i : LegI K H R
  w : LegW R
  ss : R.ss = pre ++ [s]
  en : R.es.length < 99999
  fst : R.st = "offered" → pre ≠ []
  an : ∀ u, s.o = some u → u.fs.length ≤ 1000 ∧ ∀ a, answerO R.able u = some a → OffOk a ∧ TxOk (wordsS a)
theorem RepR.rows {R R' : LegR} {pre post : List SvR} {s : SvR} {now n : Int} {xo : V} {o : Option Off} {rows : List (Str × Str)} (h : RepR R pre post s now n xo o R' rows) : rows = repO R s n xo o := by
  obtain ⟨_, _, _, _, _, e⟩ := h
  exact e
theorem repO_len (R : LegR) (s : SvR) (n : Int) (xo : V) (o : Option Off) : (repO R s n xo o).length ≤ 1 := by
  unfold repO replyO
  split <;> simp
def NewK (K : PySem.W.Frag) (H : Hp) (R : LegR) (pre : List SvR) (s : SvR) (now : Int) (Q : VK) : Prop := ∀ R' rows r ts H', NewRel R pre s now R' rows → Run H (legM K R) H' ((r, .lst (ts.map V.ref)) :: legM K R') → LegI K H' R' → RwI H' ts rows → Q (.ref r) H'
theorem offX_none (H : Hp) : OffX H .non none := ⟨rfl, (fun _ e => nomatch e), fun _ e => nomatch e⟩
theorem NewOk.plain {K : PySem.W.Frag} {H : Hp} {R : LegR} {pre : List SvR} {s : SvR} {now n : Int} {Q : VK} {E : XK} (h : NewOk K H R pre s) (k : NewK K H R pre s now Q) (e : plainC R s = some n) (n0 : 0 ≤ n) (n1 : n ≤ 99) : spReplyL K [.ref R.p, .ref s.p, .int now, .int n, .non] H Q E :=
  ⟨R, pre, [], s, now, n, .non, none, rfl, h.c, h.i, h.w, offX_none H, h.ss, n0, n1, fun R' rows r ts H' hr r1 i1 w1 => k _ _ r ts H' (.plain e hr) r1 i1 w1⟩
def spTakeEnd (K : PySem.W.Frag) : Sp := fun vs H Q _ => ∃ (R : LegR) (pre : List SvR) (s : SvR) (now : Int), vs = [.ref R.p, .ref s.p, .int now] ∧ NewOk K H R pre s ∧ s.L.verb = "END" ∧ NewK K H R pre s now Q
theorem ok_Leg__take_end {P : Program} {w : World} {K : PySem.W.Frag} {mg : Str → Option Value} {base : Heap} {f : Addr} {fd : FuncData} (T : Tx K mg) (c_Leg__reply : C8.Met P w K mg base 4 (He.ga K "Leg") "_reply" (spReplyL K) [(V.non)]) (c_Leg__stop_call : C8.Met P w K mg base 4 (He.ga K "Leg") "_stop_call" (spStopCall K) []) (c_Leg__end : C8.Met P w K mg base 1 (He.ga K "Leg") "_end" (spEnd K) [])
    (F : FunD K "_take_end" "Leg._take_end" (defArgs s_Leg__take_end) (defBody s_Leg__take_end) (defScope s_Leg__take_end) [] [] f fd) : FnOk P w K mg base CX0 5 f fd ["self", "server", "now"] (spTakeEnd K) := by
  refine F.ok sc_Leg__take_end (fun vs H Q E h => ?_) (fun cdv A outer s0 H vs Q E hr h => ?_)
  · obtain ⟨R, pre, s, now, rfl, _⟩ := h
    rfl
  · obtain ⟨R, pre, s, now, rfl, ok, v, k⟩ := h
    have hp := leg_p ok.c
    refine ⟨_, PSs.nox (C8.pss_cut (ps_if (PW.pt (pw_and (pt_cmpR op_ne (pe_fldC rfl T.cl_Leg T.na_Leg_state (pv 0) rfl) pe_str (nomark _)) (pw_and1 (pt_cmpR op_notIn_seq (pe_fldC rfl T.cl_Leg T.na_Leg_state (pv 0) rfl) (pgR T.g_BEFORE_TALKING) (by with_unfolding_all rfl))))) (pss_one (ps_ret (C8.pe_mt c_Leg__reply hr (by decide) (pv 0) (pa_cons (pv 1) (pa_cons (pv 2) (pa_cons (pgI T.g_NO_CALL) pa_nil)))))) pss_nil) (pss_cons (ps_expr (C8.pe_mt c_Leg__stop_call hr (by decide) (pv 0) (pa_cons (pv 2) pa_nil))) (pss_cons (ps_expr (C8.pe_mt c_Leg__end hr (by decide) (pv 0) (pa_cons pe_str (pa_cons (pgI T.g_YES) pa_nil)))) (pss_one (ps_ret (C8.pe_mt c_Leg__reply hr (by decide) (pv 0) (pa_cons (pv 1) (pa_cons (pv 2) (pa_cons (pgI T.g_YES) pa_nil))))))))), ?_⟩
    refine ⟨fun σ' H' => σ' = [some (.ref R.p), some (.ref s.p), some (.int now)] ∧ H' = H ∧ endB R.st = true, ?_, ?_⟩
    · refine ⟨_, rfl, R.p, R.dx, _, _, rfl, hp, rfl, rfl, _, rfl, ?_⟩
      rw [vstr]
      cases e : decide (R.st = "talking") with
      | true => exact iteF ⟨rfl, rfl, by unfold endB; rw [e]; rfl⟩
      | false =>
        refine iteT ⟨_, rfl, R.p, R.dx, _, _, rfl, hp, rfl, _, _, rfl, .inr (T.v_BEFORE_TALKING H), rfl, rfl, _, rfl, ?_⟩
        show (if (!inV (V.str R.st) [.str "calling", .str "ringing"]) = true then _ else _)
        rw [inV_before]
        cases e1 : before R.st with
        | true => exact iteF ⟨rfl, rfl, by unfold endB; rw [e, e1]; rfl⟩
        | false =>
          have ec : plainC R s = some 41 := by unfold plainC endB; rw [if_pos v, e, e1]; rfl
          exact iteT ⟨_, rfl, R.p, R.dx, _, rfl, hp, rfl, _, rfl, _, rfl, ok.plain (E := E) k ec (by decide) (by decide)⟩
    rintro σ' H1 ⟨rfl, e9, eE⟩
    obtain rfl : H = H1 := e9.symm
    refine ⟨_, rfl, R.p, R.dx, _, rfl, hp, rfl, _, rfl, R, now, rfl, ok.c, ok.i, fun cs H2 ha r2 i2 => ?_⟩
    have hp2 := leg_p r2.c
    refine ⟨_, rfl, R.p, R.dx, _, rfl, hp2, rfl, { R with cs := cs }, "ended", 20, rfl, r2.c, i2, Nat.lt_of_lt_of_le ok.en (by decide), fun wt t H3 r3 i3 => ?_⟩
    have hp3 := leg_p r3.c
    refine ⟨_, rfl, R.p, R.dx, _, rfl, hp3, rfl, _, rfl, _, rfl, overR { R with cs := cs } wt t "ended" 20, pre, [], s, now, 20, .non, none, rfl, r3.c, i3, ⟨ok.w.tag, ok.w.call, ok.w.own, ok.w.other, ok.w.ot, ok.w.seq, ok.w.req⟩, offX_none H3, ok.ss, by decide, by decide, fun R' rows r ts H4 hr r4 i4 w4 => ?_⟩
    exact k _ _ r ts H4 (.ended v eE ha hr) ((r2.trans r3).trans r4) i4 w4
def spTakeStop (K : PySem.W.Frag) : Sp := fun vs H Q _ => ∃ (R : LegR) (pre : List SvR) (s : SvR) (now : Int), vs = [.ref R.p, .ref s.p, .int now] ∧ NewOk K H R pre s ∧ s.L.verb = "STOP" ∧ NewK K H R pre s now Q
theorem ok_Leg__take_stop {P : Program} {w : World} {K : PySem.W.Frag} {mg : Str → Option Value} {base : Heap} {f : Addr} {fd : FuncData} (T : Tx K mg) (c_Leg__end : C8.Met P w K mg base 1 (He.ga K "Leg") "_end" (spEnd K) []) (c_Leg__reply_to_call : C8.Met P w K mg base 5 (He.ga K "Leg") "_reply_to_call" (spRepCall K) [(V.non)]) (c_Leg__reply : C8.Met P w K mg base 4 (He.ga K "Leg") "_reply" (spReplyL K) [(V.non)])
    (F : FunD K "_take_stop" "Leg._take_stop" (defArgs s_Leg__take_stop) (defBody s_Leg__take_stop) (defScope s_Leg__take_stop) [] [] f fd) : FnOk P w K mg base CX0 6 f fd ["self", "server", "now"] (spTakeStop K) := by
  refine F.ok sc_Leg__take_stop (fun vs H Q E h => ?_) (fun cdv A outer s0 H vs Q E hr h => ?_)
  · obtain ⟨R, pre, s, now, rfl, _⟩ := h
    rfl
  · obtain ⟨R, pre, s, now, rfl, ok, v, k⟩ := h
    have hp := leg_p ok.c
    have nE : ¬ s.L.verb = "END" := by rw [v]; decide +kernel
    refine ⟨_, PSs.nox (C8.pss_cut (ps_if (pt_cmpR op_eq (pe_fldC rfl T.cl_Leg T.na_Leg_state (pv 0) rfl) pe_str (nomark _)) (pss_cons (ps_expr (C8.pe_mt c_Leg__end hr (by decide) (pv 0) (pa_cons pe_str (pa_cons (pgI T.g_STOPPED) pa_nil)))) (pss_one (ps_ret (pe_op op_cat (C8.pe_mt c_Leg__reply_to_call hr (by decide) (pv 0) (pa_cons (pv 2) (pa_cons (pgI T.g_STOPPED) pa_nil))) (C8.pe_mt c_Leg__reply hr (by decide) (pv 0) (pa_cons (pv 1) (pa_cons (pv 2) (pa_cons (pgI T.g_YES) pa_nil)))))))) pss_nil) (pss_cons (ps_set (i := 3) sc_Leg__take_stop.nd rfl (Or.inl rfl) (pe_and (pe_cmpR op_eq (pe_fldC rfl T.cl_Leg T.na_Leg_state (pv 0) rfl) pe_str (nomark _)) (pe_one (pe_fldC rfl T.cl_Leg T.na_Leg_took_call (pv 0) rfl)))) (pss_one (ps_ret (C8.pe_mt c_Leg__reply hr (by decide) (pv 0) (pa_cons (pv 1) (pa_cons (pv 2) (pa_cons (pe_ifExp (pt_val (pv 3)) (pgI T.g_YES) (pgI T.g_NO_CALL)) pa_nil)))))))), ?_⟩
    refine ⟨fun σ' H' => σ' = [some (.ref R.p), some (.ref s.p), some (.int now), none] ∧ H' = H ∧ R.st ≠ "offered", ?_, ?_⟩
    · refine ⟨_, rfl, R.p, R.dx, _, _, rfl, hp, rfl, rfl, _, rfl, ?_⟩
      rw [vstr]
      by_cases e : R.st = "offered"
      · rw [decide_eq_true e]
        obtain ⟨s1, p2, rfl⟩ := List.exists_cons_of_ne_nil (ok.fst e)
        refine iteT ⟨_, rfl, R.p, R.dx, _, rfl, hp, rfl, R, "stopped", 45, rfl, ok.c, ok.i, Nat.lt_of_lt_of_le ok.en (by decide), fun wt t H1 r1 i1 => ?_⟩
        have hp1 := leg_p r1.c
        have w1 : LegW (overR R wt t "stopped" 45) := ⟨ok.w.tag, ok.w.call, ok.w.own, ok.w.other, ok.w.ot, ok.w.seq, ok.w.req⟩
        refine ⟨_, rfl, R.p, R.dx, _, rfl, hp1, rfl, _, rfl, overR R wt t "stopped" 45, p2 ++ [s], s1, now, 45, .non, none, rfl, r1.c, i1, w1, offX_none H1, ok.ss, by decide, by decide, fun R2 rows1 ra tsa H2 hr2 r2 i2 w2 => ?_⟩
        obtain ⟨p2', d2'⟩ := hr2.p
        obtain ⟨s2, e2, _⟩ := hr2.ss
        have lw2 := hr2.w w1
        have c2 := Cells.right (A := [(ra, .lst (tsa.map V.ref))]) r2.c
        have hp2 := leg_p c2
        have ep : R2.p = R.p := p2'
        rw [ep] at hp2
        refine ⟨_, rfl, R.p, R2.dx, _, rfl, hp2, rfl, _, rfl, _, rfl, R2, s2 :: p2, [], s, now, 20, .non, none, by rw [ep]; rfl, c2, i2, lw2, offX_none H2, e2, by decide, by decide, fun R3 rows2 rb tsb H3 hr3 r3 i3 w3 => ?_⟩
        have r4 := Run.frameR (A := [(ra, .lst (tsa.map V.ref))]) (r1.trans r2) r3
        have ea : H3 ra = some (.lst (tsa.map V.ref)) := r4.c.get (by simp)
        have eb : H3 rb = some (.lst (tsb.map V.ref)) := r4.c.get (by simp)
        have wA := w2.im r3.im
        have la : tsa.length ≤ 1 := by rw [w2.len, hr2.rows]; exact repO_len ..
        have lb : tsb.length ≤ 1 := by rw [w3.len, hr3.rows]; exact repO_len ..
        refine ⟨ra, rb, _, _, rfl, rfl, ea, eb, ?_, fun q hq => ?_⟩
        · rw [List.length_map, List.length_map]
          exact Nat.le_trans (by omega : _ ≤ 2) (by decide)
        · have r5 := (r4.add (o := .lst ((tsa ++ tsb).map V.ref)) hq).sub (M2 := (q, .lst ((tsa ++ tsb).map V.ref)) :: legM K R3) (((List.Sublist.refl _).cons _ |>.cons _).cons₂ _)
          have i5 := i3.im (Im.of_same (same_upd (o := .lst ((tsa ++ tsb).map V.ref)) hq))
          have w5 := (wA.app w3).im (Im.of_same (same_upd (o := .lst ((tsa ++ tsb).map V.ref)) hq))
          rw [List.map_append] at r5 i5 w5
          exact k R3 _ q (tsa ++ tsb) _ (.stopped v e rfl hr2 e2 hr3) (by rw [List.map_append]; exact r5) i5 w5
      · rw [decide_eq_false e]
        exact iteF ⟨rfl, rfl, e⟩
    rintro σ' H1 ⟨rfl, e9, nO⟩
    obtain rfl : H = H1 := e9.symm
    have hpl : plainC R s = some (if (decide (R.st = "talking") && R.took) = true then 20 else 41) := by
      unfold plainC
      rw [if_neg nE, if_pos v, if_neg nO]
    refine ⟨_, rfl, R.p, R.dx, _, _, rfl, hp, rfl, rfl, ?_⟩
    rw [vstr]
    cases e : decide (R.st = "talking") with
    | false =>
      rw [e, Bool.false_and, if_neg Bool.false_ne_true] at hpl
      refine ⟨_, rfl, iteF ?_⟩
      exact ⟨_, rfl, R.p, R.dx, _, rfl, hp, rfl, _, rfl, _, rfl, _, rfl, _, rfl, iteF (ok.plain (E := E) k hpl (by decide) (by decide))⟩
    | true =>
      rw [e, Bool.true_and] at hpl
      refine ⟨_, rfl, iteT ⟨_, rfl, R.p, R.dx, _, _, rfl, hp, rfl, ?_⟩⟩
      refine ⟨_, rfl, R.p, R.dx, _, rfl, hp, rfl, _, rfl, _, rfl, _, rfl, _, rfl, ?_⟩
      cases e1 : R.took with
      | true =>
        rw [e1, if_pos rfl] at hpl
        exact iteT (ok.plain (E := E) k hpl (by decide) (by decide))
      | false =>
        rw [e1, if_neg Bool.false_ne_true] at hpl
        exact iteF (ok.plain (E := E) k hpl (by decide) (by decide))

end K7
set_option maxHeartbeats 4000000
set_option pp.maxSteps 400
namespace K7
open PySem PySem.Spec PyProof.Rows L2 SX TK TKS TKC
open C8 (pe_c)
theorem not_end {v w : Str} (h : v = w) (n : w ≠ "END" := by decide +kernel) : ¬ v = "END" := by rw [h]; exact n
theorem plain_ask {R : LegR} {s : SvR} (e1 : ¬ s.L.verb = "END") (e2 : ¬ s.L.verb = "STOP") (a : asking s.L.verb = true) (st : R.st = "talking") : plainC R s = (if s.L.verb = "TURN" then (match s.o with
    | none => some (50 : Int)
    | some u => if answerO R.able u = none then some 46 else none)
  else if s.L.verb = "MOVE" then (if s.L.goal = .non then some 50 else none)
  else some 20 : Option Int) := by
  have hb : before R.st = false := by rw [st]; decide +kernel
  unfold plainC
  rw [if_neg e1, if_neg e2, if_neg (by rw [a, hb]; simp), if_neg (by rw [st]; simp)]
  all_goals rfl
theorem ask_turn : asking "TURN" = true := by decide +kernel
theorem ask_move : asking "MOVE" = true := by decide +kernel
theorem ask_live : asking "LIVE" = true := by decide +kernel
def spTakeTurn (K : PySem.W.Frag) : Sp := fun vs H Q _ => ∃ (R : LegR) (pre : List SvR) (s : SvR) (now : Int), vs = [.ref R.p, .ref s.p, .int now] ∧ NewOk K H R pre s ∧ s.L.verb = "TURN" ∧ R.st = "talking" ∧ NewK K H R pre s now Q
theorem ok_Leg__take_turn {P : Program} {w : World} {K : PySem.W.Frag} {mg : Str → Option Value} {base : Heap} {f : Addr} {fd : FuncData} (T : Tx K mg) (c_Leg__reply : C8.Met P w K mg base 4 (He.ga K "Leg") "_reply" (spReplyL K) [(V.non)]) (c_Leg__reply_d1 : C8.Met P w K mg base 4 (He.ga K "Leg") "_reply" (spReplyL K) []) (c_answer : C8.Cal P w K mg base 3 "answer" spAnswer [])
    (F : FunD K "_take_turn" "Leg._take_turn" (defArgs s_Leg__take_turn) (defBody s_Leg__take_turn) (defScope s_Leg__take_turn) [] [] f fd) : FnOk P w K mg base CX0 5 f fd ["self", "server", "now"] (spTakeTurn K) := by
  refine F.ok sc_Leg__take_turn (fun vs H Q E h => ?_) (fun cdv A outer s0 H vs Q E hr h => ?_)
  · obtain ⟨R, pre, s, now, rfl, _⟩ := h
    rfl
  · obtain ⟨R, pre, s, now, rfl, ok, v, st, k⟩ := h
    have hp := leg_p ok.c
    have is := ok.i.si s (by rw [ok.ss]; simp)
    have hsp : H s.p = some (svO K s) := (Cells.srv ok.c ok.ss).get (by simp [svM])
    obtain ⟨dl, hl⟩ := id is.lt
    have hpl := plain_ask (R := R) (s := s) (by rw [v]; decide +kernel) (by rw [v]; decide +kernel) (by rw [v]; exact ask_turn) st
    rw [if_pos v] at hpl
    have hof := is.of
    refine ⟨_, PSs.nox (pss_cons (ps_set (i := 3) sc_Leg__take_turn.nd rfl (Or.inl rfl) (pe_fldC rfl T.cl_Letter T.na_Letter_offer (pe_fldC rfl T.cl_Server T.na_Server_letter (pv 1) rfl) rfl)) (C8.pss_cut (ps_if (pt_cmpR op_isN (pv 3) pe_non (nomark _)) (pss_one (ps_ret (C8.pe_mt c_Leg__reply hr (by decide) (pv 0) (pa_cons (pv 1) (pa_cons (pv 2) (pa_cons (pgI T.g_NOT_NOW) pa_nil)))))) pss_nil) (pss_cons (ps_set (i := 4) sc_Leg__take_turn.nd rfl (Or.inl rfl) (pe_c c_answer hr (by decide) rfl (pa_cons (pe_fldC rfl T.cl_Leg T.na_Leg_able (pv 0) rfl) (pa_cons (pv 3) pa_nil)))) (C8.pss_cut (ps_if (pt_cmpR op_isN (pv 4) pe_non (nomark _)) (pss_one (ps_ret (C8.pe_mt c_Leg__reply hr (by decide) (pv 0) (pa_cons (pv 1) (pa_cons (pv 2) (pa_cons (pgI T.g_NO_FORMAT) pa_nil)))))) pss_nil) (pss_cons (ps_expr (pe_bm PySem.F.plainAttrs_list PySem.F.slot_list_append PySem.F.type_list_append mt_append (pe_fldC rfl T.cl_Leg T.na_Leg__events (pv 0) rfl) (pa_cons (pe_tup (pa_cons pe_str (pa_cons (pv 3) pa_nil))) pa_nil))) (pss_one (ps_ret (C8.pe_mt c_Leg__reply_d1 hr (by decide) (pv 0) (pa_cons (pv 1) (pa_cons (pv 2) (pa_cons (pgI T.g_YES) (pa_cons (pv 4) pa_nil)))))))))))), ?_⟩
    refine ⟨_, rfl, s.p, s.dx, _, _, rfl, hsp, rfl, s.la, dl, _, _, rfl, hl, rfl, ?_⟩
    cases eo : s.o with
    | none =>
      rw [eo] at hof hpl
      have ex : s.L.offer = .non := hof
      refine ⟨fun _ _ => False, ⟨_, rfl, rfl, _, rfl, ?_⟩, fun _ _ z => z.elim⟩
      rw [ex]
      exact iteT ⟨_, rfl, R.p, R.dx, _, rfl, hp, rfl, _, rfl, _, rfl, ok.plain (E := E) k hpl (by decide) (by decide)⟩
    | some u =>
      rw [eo] at hof hpl
      obtain ⟨b, f, ex, q1, q2⟩ := hof
      obtain ⟨ul, ua⟩ := ok.an u eo
      refine ⟨fun σ' H' => σ' = [some (.ref R.p), some (.ref s.p), some (.int now), some (.ref b), none] ∧ H' = H, ?_, ?_⟩
      · refine ⟨_, rfl, rfl, _, rfl, ?_⟩
        rw [ex]
        exact iteF ⟨rfl, rfl⟩
      rintro σ' H1 ⟨rfl, e9⟩
      obtain rfl : H = H1 := e9.symm
      refine ⟨_, rfl, R.p, R.dx, _, _, rfl, hp, rfl, _, rfl, R.ab, R.able, .ref b, u, rfl, ok.i.ab, ⟨b, f, rfl, q1, q2⟩, ul, fun z H1 s1 hz => ?_⟩
      have hp1 := s1 _ _ hp
      have r1 := (Run.refl ok.c).same s1
      have ok1 : NewOk K H1 R pre s := ⟨r1.c, ok.i.im (Im.of_same s1), ok.w, ok.ss, ok.en, ok.fst, ok.an⟩
      have k1 : NewK K H1 R pre s now Q := fun R' rows r ts H' n r2 i2 w2 => k R' rows r ts H' n (r1.trans r2) i2 w2
      cases ea : answerO R.able u with
      | none =>
        rw [ea] at hz
        dsimp only at hpl
        rw [if_pos ea] at hpl
        cases (show z = .non from hz)
        exact ⟨fun _ _ => False, ⟨_, rfl, rfl, _, rfl, iteT ⟨_, rfl, R.p, R.dx, _, rfl, hp1, rfl, _, rfl, _, rfl, ok1.plain (E := E) k1 hpl (by decide) (by decide)⟩⟩, fun _ _ z => z.elim⟩
      | some a =>
        rw [ea] at hz
        obtain ⟨za, fa, rfl, z1, z2⟩ := id hz
        refine ⟨fun σ' H' => σ' = [some (.ref R.p), some (.ref s.p), some (.int now), some (.ref b), some (.ref za)] ∧ H' = H1, ⟨_, rfl, rfl, _, rfl, iteF ⟨rfl, rfl⟩⟩, ?_⟩
        rintro σ' H2 ⟨rfl, e9⟩
        obtain rfl : H1 = H2 := e9.symm
        have hev := leg_ev r1.c
        refine ⟨_, rfl, R.p, R.dx, _, _, rfl, hp1, rfl, .inl ⟨rfl, _, SqL.of hev⟩, _, rfl, by show 2 ≤ sizeLine; decide, fun t ht => ?_⟩
        have st1 := same_upd (o := .tup [.str "turned", .ref b]) ht
        obtain ⟨r3, i3⟩ := Run.event (r1.same st1) (ok1.i.im (Im.of_same st1)) (t := t) (xs := [.str "turned", s.L.offer]) (by rw [ex]; exact upd_same)
        refine ⟨R.ev, _, _, rfl, rfl, st1 _ _ hev, by rw [List.length_map]; exact Nat.lt_of_lt_of_le ok.en (by decide), ?_⟩
        have hp3 := leg_p r3.c
        have hx3 : OffX _ (.ref za) (some a) := ⟨OffO.im (o := some a) (hz.same st1) (Run.event (Run.refl (r1.same st1).c) (ok1.i.im (Im.of_same st1)) (t := t) (xs := [.str "turned", s.L.offer]) (by rw [ex]; exact upd_same)).1.im, fun w e => by cases e; exact (ua a ea).1, fun w e => by cases e; exact (ua a ea).2⟩
        refine ⟨_, rfl, R.p, R.dx, _, rfl, hp3, rfl, _, rfl, _, rfl, _, rfl, { R with es := R.es ++ [(t, [.str "turned", s.L.offer])] }, pre, [], s, now, 20, .ref za, some a, rfl, r3.c, i3, ⟨ok.w.tag, ok.w.call, ok.w.own, ok.w.other, ok.w.ot, ok.w.seq, ok.w.req⟩, hx3, ok.ss, by decide, by decide, fun R' rows r ts H4 hr4 r4 i4 w4 => ?_⟩
        exact k _ _ r ts H4 (.turned v st eo ea hr4) (r3.trans r4) i4 w4
def spTakeMove (K : PySem.W.Frag) : Sp := fun vs H Q _ => ∃ (R : LegR) (pre : List SvR) (s : SvR) (now : Int), vs = [.ref R.p, .ref s.p, .int now] ∧ NewOk K H R pre s ∧ s.L.verb = "MOVE" ∧ R.st = "talking" ∧ (s.L.goal = .non ∨ ∃ z : Str, s.L.goal = .str z) ∧ NewK K H R pre s now Q
theorem ok_Leg__take_move {P : Program} {w : World} {K : PySem.W.Frag} {mg : Str → Option Value} {base : Heap} {f : Addr} {fd : FuncData} (T : Tx K mg) (c_Leg__reply : C8.Met P w K mg base 4 (He.ga K "Leg") "_reply" (spReplyL K) [(V.non)])
    (F : FunD K "_take_move" "Leg._take_move" (defArgs s_Leg__take_move) (defBody s_Leg__take_move) (defScope s_Leg__take_move) [] [] f fd) : FnOk P w K mg base CX0 5 f fd ["self", "server", "now"] (spTakeMove K) := by
  refine F.ok sc_Leg__take_move (fun vs H Q E h => ?_) (fun cdv A outer s0 H vs Q E hr h => ?_)
  · obtain ⟨R, pre, s, now, rfl, _⟩ := h
    rfl
  · obtain ⟨R, pre, s, now, rfl, ok, v, st, hg, k⟩ := h
    have hp := leg_p ok.c
    have is := ok.i.si s (by rw [ok.ss]; simp)
    have hsp : H s.p = some (svO K s) := (Cells.srv ok.c ok.ss).get (by simp [svM])
    obtain ⟨dl, hl⟩ := id is.lt
    have hpl := plain_ask (R := R) (s := s) (by rw [v]; decide +kernel) (by rw [v]; decide +kernel) (by rw [v]; exact ask_move) st
    rw [if_neg (by rw [v]; decide +kernel), if_pos v] at hpl
    refine ⟨_, PSs.nox (pss_cons (ps_set (i := 3) sc_Leg__take_move.nd rfl (Or.inl rfl) (pe_fldC rfl T.cl_Letter T.na_Letter_goal (pe_fldC rfl T.cl_Server T.na_Server_letter (pv 1) rfl) rfl)) (C8.pss_cut (ps_if (pt_cmpR op_isN (pv 3) pe_non (nomark _)) (pss_one (ps_ret (C8.pe_mt c_Leg__reply hr (by decide) (pv 0) (pa_cons (pv 1) (pa_cons (pv 2) (pa_cons (pgI T.g_NOT_NOW) pa_nil)))))) pss_nil) (pss_cons (ps_expr (pe_bm PySem.F.plainAttrs_list PySem.F.slot_list_append PySem.F.type_list_append mt_append (pe_fldC rfl T.cl_Leg T.na_Leg__events (pv 0) rfl) (pa_cons (pe_tup (pa_cons pe_str (pa_cons (pv 3) pa_nil))) pa_nil))) (pss_one (ps_ret (C8.pe_mt c_Leg__reply hr (by decide) (pv 0) (pa_cons (pv 1) (pa_cons (pv 2) (pa_cons (pgI T.g_YES) pa_nil))))))))), ?_⟩
    refine ⟨_, rfl, s.p, s.dx, _, _, rfl, hsp, rfl, s.la, dl, _, _, rfl, hl, rfl, ?_⟩
    rcases hg with ex | ⟨z, ex⟩
    · rw [if_pos ex] at hpl
      refine ⟨fun _ _ => False, ⟨_, rfl, rfl, _, rfl, ?_⟩, fun _ _ z => z.elim⟩
      rw [ex]
      exact iteT ⟨_, rfl, R.p, R.dx, _, rfl, hp, rfl, _, rfl, _, rfl, ok.plain (E := E) k hpl (by decide) (by decide)⟩
    · refine ⟨fun σ' H' => σ' = [some (.ref R.p), some (.ref s.p), some (.int now), some (.str z)] ∧ H' = H, ?_, ?_⟩
      · refine ⟨_, rfl, rfl, _, rfl, ?_⟩
        rw [ex]
        exact iteF ⟨rfl, rfl⟩
      rintro σ' H1 ⟨rfl, e9⟩
      obtain rfl : H = H1 := e9.symm
      have hev := leg_ev ok.c
      refine ⟨_, rfl, R.p, R.dx, _, _, rfl, hp, rfl, .inl ⟨rfl, _, SqL.of hev⟩, _, rfl, by show 2 ≤ sizeLine; decide, fun t ht => ?_⟩
      have st1 := same_upd (o := .tup [.str "moved", .str z]) ht
      obtain ⟨r3, i3⟩ := Run.event ((Run.refl ok.c).same st1) (ok.i.im (Im.of_same st1)) (t := t) (xs := [.str "moved", s.L.goal]) (by rw [ex]; exact upd_same)
      refine ⟨R.ev, _, _, rfl, rfl, st1 _ _ hev, by rw [List.length_map]; exact Nat.lt_of_lt_of_le ok.en (by decide), ?_⟩
      have hp3 := leg_p r3.c
      refine ⟨_, rfl, R.p, R.dx, _, rfl, hp3, rfl, _, rfl, _, rfl, { R with es := R.es ++ [(t, [.str "moved", s.L.goal])] }, pre, [], s, now, 20, .non, none, rfl, r3.c, i3, ⟨ok.w.tag, ok.w.call, ok.w.own, ok.w.other, ok.w.ot, ok.w.seq, ok.w.req⟩, offX_none _, ok.ss, by decide, by decide, fun R' rows r ts H4 hr4 r4 i4 w4 => ?_⟩
      exact k _ _ r ts H4 (.moved v st (by rw [ex]; intro q; cases q) hr4) (r3.trans r4) i4 w4
def spTakeNew (K : PySem.W.Frag) : Sp := fun vs H Q _ => ∃ (R : LegR) (pre : List SvR) (s : SvR) (now : Int), vs = [.ref R.p, .ref s.p, .int now] ∧ NewOk K H R pre s ∧ (s.L.goal = .non ∨ ∃ z : Str, s.L.goal = .str z) ∧ NewK K H R pre s now Q
theorem ok_Leg__take_new {P : Program} {w : World} {K : PySem.W.Frag} {mg : Str → Option Value} {base : Heap} {f : Addr} {fd : FuncData} (T : Tx K mg) (c_Leg__take_end : C8.Met P w K mg base 5 (He.ga K "Leg") "_take_end" (spTakeEnd K) []) (c_Leg__take_stop : C8.Met P w K mg base 6 (He.ga K "Leg") "_take_stop" (spTakeStop K) []) (c_Leg__reply : C8.Met P w K mg base 4 (He.ga K "Leg") "_reply" (spReplyL K) [(V.non)]) (c_Leg__take_turn : C8.Met P w K mg base 5 (He.ga K "Leg") "_take_turn" (spTakeTurn K) []) (c_Leg__take_move : C8.Met P w K mg base 5 (He.ga K "Leg") "_take_move" (spTakeMove K) [])
    (F : FunD K "_take_new" "Leg._take_new" (defArgs s_Leg__take_new) (defBody s_Leg__take_new) (defScope s_Leg__take_new) [] [] f fd) : FnOk P w K mg base CX0 7 f fd ["self", "server", "now"] (spTakeNew K) := by
  refine F.ok sc_Leg__take_new (fun vs H Q E h => ?_) (fun cdv A outer s0 H vs Q E hr h => ?_)
  · obtain ⟨R, pre, s, now, rfl, _⟩ := h
    rfl
  · obtain ⟨R, pre, s, now, rfl, ok, hg, k⟩ := h
    have hp := leg_p ok.c
    have is := ok.i.si s (by rw [ok.ss]; simp)
    have hsp : H s.p = some (svO K s) := (Cells.srv ok.c ok.ss).get (by simp [svM])
    obtain ⟨dl, hl⟩ := id is.lt
    refine ⟨_, PSs.nox (pss_cons (ps_set (i := 3) sc_Leg__take_new.nd rfl (Or.inl rfl) (pe_fldC rfl T.cl_Letter T.na_Letter_verb (pe_fldC rfl T.cl_Server T.na_Server_letter (pv 1) rfl) rfl)) (C8.pss_cut (ps_if (pt_cmpR op_eq (pv 3) pe_str (nomark _)) (pss_one (ps_ret (C8.pe_mt c_Leg__take_end hr (by decide) (pv 0) (pa_cons (pv 1) (pa_cons (pv 2) pa_nil))))) pss_nil) (C8.pss_cut (ps_if (pt_cmpR op_eq (pv 3) pe_str (nomark _)) (pss_one (ps_ret (C8.pe_mt c_Leg__take_stop hr (by decide) (pv 0) (pa_cons (pv 1) (pa_cons (pv 2) pa_nil))))) pss_nil) (C8.pss_cut (ps_if (PW.pt (pw_or (pt_cmpR op_notIn_seq (pv 3) (pgR T.g_ASKING) (by with_unfolding_all rfl)) (pw_or1 (pt_cmpR op_in_seq (pe_fldC rfl T.cl_Leg T.na_Leg_state (pv 0) rfl) (pgR T.g_BEFORE_TALKING) (by with_unfolding_all rfl))))) (pss_one (ps_ret (C8.pe_mt c_Leg__reply hr (by decide) (pv 0) (pa_cons (pv 1) (pa_cons (pv 2) (pa_cons (pgI T.g_NOT_NOW) pa_nil)))))) pss_nil) (C8.pss_cut (ps_if (pt_cmpR op_ne (pe_fldC rfl T.cl_Leg T.na_Leg_state (pv 0) rfl) pe_str (nomark _)) (pss_one (ps_ret (C8.pe_mt c_Leg__reply hr (by decide) (pv 0) (pa_cons (pv 1) (pa_cons (pv 2) (pa_cons (pgI T.g_NO_CALL) pa_nil)))))) pss_nil) (C8.pss_cut (ps_if (pt_cmpR op_eq (pv 3) pe_str (nomark _)) (pss_one (ps_ret (C8.pe_mt c_Leg__take_turn hr (by decide) (pv 0) (pa_cons (pv 1) (pa_cons (pv 2) pa_nil))))) pss_nil) (pss_one (ps_ret (pe_ifExp (pt_cmpR op_eq (pv 3) pe_str (nomark _)) (C8.pe_mt c_Leg__take_move hr (by decide) (pv 0) (pa_cons (pv 1) (pa_cons (pv 2) pa_nil))) (C8.pe_mt c_Leg__reply hr (by decide) (pv 0) (pa_cons (pv 1) (pa_cons (pv 2) (pa_cons (pgI T.g_YES) pa_nil))))))))))))), ?_⟩
    refine ⟨_, rfl, s.p, s.dx, _, _, rfl, hsp, rfl, s.la, dl, _, _, rfl, hl, rfl, ?_⟩
    refine ⟨fun σ' H' => σ' = [some (.ref R.p), some (.ref s.p), some (.int now), some (.str s.L.verb)] ∧ H' = H ∧ ¬ s.L.verb = "END", ?_, ?_⟩
    · refine ⟨_, rfl, rfl, _, rfl, ?_⟩
      rw [vstr]
      by_cases e : s.L.verb = "END"
      · rw [decide_eq_true e]
        exact iteT ⟨_, rfl, R.p, R.dx, _, rfl, hp, rfl, _, rfl, _, rfl, R, pre, s, now, rfl, ok, e, k⟩
      · rw [decide_eq_false e]
        exact iteF ⟨rfl, rfl, e⟩
    rintro σ' H1 ⟨rfl, e9, n1⟩
    obtain rfl : H = H1 := e9.symm
    refine ⟨fun σ' H' => σ' = [some (.ref R.p), some (.ref s.p), some (.int now), some (.str s.L.verb)] ∧ H' = H ∧ ¬ s.L.verb = "STOP", ?_, ?_⟩
    · refine ⟨_, rfl, rfl, _, rfl, ?_⟩
      rw [vstr]
      by_cases e : s.L.verb = "STOP"
      · rw [decide_eq_true e]
        exact iteT ⟨_, rfl, R.p, R.dx, _, rfl, hp, rfl, _, rfl, _, rfl, R, pre, s, now, rfl, ok, e, k⟩
      · rw [decide_eq_false e]
        exact iteF ⟨rfl, rfl, e⟩
    rintro σ' H1 ⟨rfl, e9, n2⟩
    obtain rfl : H = H1 := e9.symm
    refine ⟨fun σ' H' => σ' = [some (.ref R.p), some (.ref s.p), some (.int now), some (.str s.L.verb)] ∧ H' = H ∧ asking s.L.verb = true ∧ before R.st = false, ?_, ?_⟩
    · have p50 : (asking s.L.verb = false ∨ before R.st = true) → plainC R s = some 50 := fun e => by
        unfold plainC
        rw [if_neg n1, if_neg n2, if_pos e]
      refine ⟨_, rfl, _, _, rfl, .inr (T.v_ASKING H), rfl, rfl, _, rfl, ?_⟩
      show (if (!inV (V.str s.L.verb) [.str "TURN", .str "MOVE", .str "LIVE"]) = true then _ else _)
      rw [inV_asking]
      cases e : asking s.L.verb with
      | false => exact iteT (iteT ⟨_, rfl, R.p, R.dx, _, rfl, hp, rfl, _, rfl, _, rfl, ok.plain (E := E) k (p50 (.inl e)) (by decide) (by decide)⟩)
      | true =>
        refine iteF ⟨_, rfl, R.p, R.dx, _, _, rfl, hp, rfl, _, _, rfl, .inr (T.v_BEFORE_TALKING H), rfl, rfl, _, rfl, ?_⟩
        show (if inV (V.str R.st) [.str "calling", .str "ringing"] = true then _ else _)
        rw [inV_before]
        cases e1 : before R.st with
        | true => exact iteT ⟨_, rfl, R.p, R.dx, _, rfl, hp, rfl, _, rfl, _, rfl, ok.plain (E := E) k (p50 (.inr e1)) (by decide) (by decide)⟩
        | false => exact iteF ⟨rfl, rfl, rfl, rfl⟩
    rintro σ' H1 ⟨rfl, e9, ea, eb⟩
    obtain rfl : H = H1 := e9.symm
    refine ⟨fun σ' H' => σ' = [some (.ref R.p), some (.ref s.p), some (.int now), some (.str s.L.verb)] ∧ H' = H ∧ R.st = "talking", ?_, ?_⟩
    · refine ⟨_, rfl, R.p, R.dx, _, _, rfl, hp, rfl, rfl, _, rfl, ?_⟩
      rw [vstr]
      by_cases e : R.st = "talking"
      · rw [decide_eq_true e]
        exact iteF ⟨rfl, rfl, e⟩
      · rw [decide_eq_false e]
        have p41 : plainC R s = some 41 := by
          unfold plainC
          rw [if_neg n1, if_neg n2, if_neg (by rw [ea, eb]; simp), if_pos e]
        exact iteT ⟨_, rfl, R.p, R.dx, _, rfl, hp, rfl, _, rfl, _, rfl, ok.plain (E := E) k p41 (by decide) (by decide)⟩
    rintro σ' H1 ⟨rfl, e9, st⟩
    obtain rfl : H = H1 := e9.symm
    refine ⟨fun σ' H' => σ' = [some (.ref R.p), some (.ref s.p), some (.int now), some (.str s.L.verb)] ∧ H' = H ∧ ¬ s.L.verb = "TURN", ?_, ?_⟩
    · refine ⟨_, rfl, rfl, _, rfl, ?_⟩
      rw [vstr]
      by_cases e : s.L.verb = "TURN"
      · rw [decide_eq_true e]
        exact iteT ⟨_, rfl, R.p, R.dx, _, rfl, hp, rfl, _, rfl, _, rfl, R, pre, s, now, rfl, ok, e, st, k⟩
      · rw [decide_eq_false e]
        exact iteF ⟨rfl, rfl, e⟩
    rintro σ' H1 ⟨rfl, e9, n3⟩
    obtain rfl : H = H1 := e9.symm
    have hpl := plain_ask n1 n2 ea st
    rw [if_neg n3] at hpl
    refine ⟨_, rfl, rfl, _, rfl, ?_⟩
    rw [vstr]
    by_cases e : s.L.verb = "MOVE"
    · rw [decide_eq_true e]
      exact iteT ⟨_, rfl, R.p, R.dx, _, rfl, hp, rfl, _, rfl, _, rfl, R, pre, s, now, rfl, ok, e, st, hg, k⟩
    · rw [decide_eq_false e]
      rw [if_neg e] at hpl
      exact iteF ⟨_, rfl, R.p, R.dx, _, rfl, hp, rfl, _, rfl, _, rfl, ok.plain (E := E) k hpl (by decide) (by decide)⟩

end K7
set_option maxHeartbeats 4000000
set_option pp.maxSteps 400
namespace K7
open PySem PySem.Spec PyProof.Rows L2 SX TK TKS TKC
open C8 (pe_c)
/-! ### a known request -/
def KeptR (R : LegR) (pre post : List SvR) (s : SvR) (now : Int) (R' : LegR) : Prop :=
  ∃ wa wx t, R' = (if (keepB s && decide (R.st = "talking")) = true then { R with ss := pre ++ keepS s now wa wx :: post, es := R.es ++ [(t, [.str "kept"])] } else { R with ss := pre ++ keepS s now wa wx :: post })
theorem keepS_same (s : SvR) (now : Int) (wa wx : Addr) : (keepS s now wa wx).p = s.p ∧ (keepS s now wa wx).la = s.la ∧ (keepS s now wa wx).L = s.L ∧ (keepS s now wa wx).o = s.o ∧ (keepS s now wa wx).tl = s.tl ∧ (keepS s now wa wx).tz = s.tz ∧ (keepS s now wa wx).pl = s.pl := by
  unfold keepS
  split <;> exact ⟨rfl, rfl, rfl, rfl, rfl, rfl, rfl⟩
theorem keepS_I {K : PySem.W.Frag} {H : Hp} {s : SvR} {now : Int} {wa wx : Addr} (h : SvI K H s) : SvI K H (keepS s now wa wx) := by
  obtain ⟨_, e2, e3, e4, e5, e6, e7⟩ := keepS_same s now wa wx
  exact ⟨by rw [e2, e3]; exact h.lt, by rw [e3, e4]; exact h.of, by rw [e3]; exact h.lk, by rw [e5]; exact h.kn, by rw [e5, e6, e7]; exact h.kt⟩
theorem si_swap {K : PySem.W.Frag} {H : Hp} {ss pre post : List SvR} {s s' : SvR} (e : ss = pre ++ s :: post) (h : ∀ x ∈ ss, SvI K H x) (h' : SvI K H s') : ∀ x ∈ pre ++ s' :: post, SvI K H x := fun x m => by
  rcases List.mem_append.mp m with m | m
  · exact h x (by rw [e]; exact List.mem_append_left _ m)
  · rcases List.mem_cons.mp m with rfl | m
    · exact h'
    · exact h x (by rw [e]; exact List.mem_append_right _ (List.mem_cons_of_mem _ m))
theorem ci_swap {K : PySem.W.Frag} {H : Hp} {ss pre post : List ClR} {s s' : ClR} (e : ss = pre ++ s :: post) (h : ∀ x ∈ ss, ClI K H x) (h' : ClI K H s') : ∀ x ∈ pre ++ s' :: post, ClI K H x := fun x m => by
  rcases List.mem_append.mp m with m | m
  · exact h x (by rw [e]; exact List.mem_append_left _ m)
  · rcases List.mem_cons.mp m with rfl | m
    · exact h'
    · exact h x (by rw [e]; exact List.mem_append_right _ (List.mem_cons_of_mem _ m))
def spTakeKnown (K : PySem.W.Frag) : Sp := fun vs H Q _ => ∃ (R : LegR) (pre post : List SvR) (s : SvR) (b : Addr) (M : Ltr) (now : Int), vs = [.ref R.p, .ref s.p, .ref b, .int now] ∧ Cells H (legM K R) ∧ LegI K H R ∧ R.ss = pre ++ s :: post ∧ LetAt K H b M ∧ R.es.length < 100000 ∧
  (M.verb ≠ "KEEP" → ∀ r ts H', Run H (legM K R) H' ((r, .lst (ts.map V.ref)) :: legM K R) → LegI K H' R → RwI H' ts (againO s) → Q (.ref r) H') ∧
  (M.verb = "KEEP" → ∀ R' r H', KeptR R pre post s now R' → Run H (legM K R) H' ((r, .lst []) :: legM K R') → LegI K H' R' → Q (.ref r) H')
theorem ok_Leg__take_known {P : Program} {w : World} {K : PySem.W.Frag} {mg : Str → Option Value} {base : Heap} {f : Addr} {fd : FuncData} (T : Tx K mg) (c_Server_again : C8.Met P w K mg base 1 (He.ga K "Server") "again" (spSvAgain K) []) (c_Server_keep : C8.Met P w K mg base 3 (He.ga K "Server") "keep" (spSvKeep K) [])
    (F : FunD K "_take_known" "Leg._take_known" (defArgs s_Leg__take_known) (defBody s_Leg__take_known) (defScope s_Leg__take_known) [] [] f fd) : FnOk P w K mg base CX0 4 f fd ["self", "server", "letter", "now"] (spTakeKnown K) := by
  refine F.ok sc_Leg__take_known (fun vs H Q E h => ?_) (fun cdv A outer s0 H vs Q E hr h => ?_)
  · obtain ⟨R, pre, post, s, b, M, now, rfl, _⟩ := h
    rfl
  · obtain ⟨R, pre, post, s, b, M, now, rfl, hc, hi, es, ⟨dm, hm⟩, hn, k1, k2⟩ := h
    have hp := leg_p hc
    have hs := Cells.srv hc es
    have is := hi.si s (by rw [es]; simp)
    have hsp : H s.p = some (svO K s) := hs.get (by simp [svM])
    refine ⟨_, PSs.nox (C8.pss_cut (ps_if (pt_cmpR op_ne (pe_fldC rfl T.cl_Letter T.na_Letter_verb (pv 2) rfl) pe_str (nomark _)) (pss_one (ps_ret (C8.pe_mt0 c_Server_again hr (by decide) (pv 1)))) pss_nil) (C8.pss_cut (ps_if (PW.pt (pw_and (pt_val (C8.pe_mt c_Server_keep hr (by decide) (pv 1) (pa_cons (pv 3) pa_nil))) (pw_and1 (pt_cmpR op_eq (pe_fldC rfl T.cl_Leg T.na_Leg_state (pv 0) rfl) pe_str (nomark _))))) (pss_one (ps_expr (pe_bm PySem.F.plainAttrs_list PySem.F.slot_list_append PySem.F.type_list_append mt_append (pe_fldC rfl T.cl_Leg T.na_Leg__events (pv 0) rfl) (pa_cons (pe_tup (pa_cons pe_str pa_nil)) pa_nil)))) pss_nil) (pss_one (ps_ret (pe_lst pa_nil))))), ?_⟩
    refine ⟨fun σ' H' => σ' = [some (.ref R.p), some (.ref s.p), some (.ref b), some (.int now)] ∧ H' = H ∧ M.verb = "KEEP", ?_, ?_⟩
    · refine ⟨_, rfl, b, dm, _, _, rfl, hm, rfl, rfl, _, rfl, ?_⟩
      rw [vstr]
      by_cases e : M.verb = "KEEP"
      · rw [decide_eq_true e]
        exact iteF ⟨rfl, rfl, e⟩
      · rw [decide_eq_false e]
        refine iteT ⟨_, rfl, s.p, s.dx, _, rfl, hsp, rfl, s, rfl, hs, is, fun r ts H' s1 h1 h2 h3 => ?_⟩
        exact k1 e r ts H' ((Run.refl hc).new s1 h1 h2) (hi.im (Im.of_same s1)) h3
    rintro σ' H1 ⟨rfl, e9, eK⟩
    obtain rfl : H = H1 := e9.symm
    have k := k2 eK
    refine ⟨fun σ' H' => σ' = [some (.ref R.p), some (.ref s.p), some (.ref b), some (.int now)] ∧ ∃ R', KeptR R pre post s now R' ∧ Run H (legM K R) H' (legM K R') ∧ LegI K H' R', ?_, ?_⟩
    · refine ⟨_, rfl, s.p, s.dx, _, rfl, hsp, rfl, _, rfl, s, now, rfl, hs, is.lt, fun wa wx H2 r2 => ⟨_, rfl, ?_⟩⟩
      have r3 := Run.srv (X := []) (Run.refl hc) es (keepS_same s now wa wx).1 r2
      have i3 : LegI K H2 { R with ss := pre ++ keepS s now wa wx :: post } := by
        have h := hi.im r2.im
        exact ⟨h.ab, h.ci, si_swap es h.si (keepS_I (h.si s (by rw [es]; simp))), h.wi, h.ei⟩
      have hp3 := leg_p r3.c
      cases e : keepB s with
      | false => exact iteF ⟨rfl, _, ⟨wa, wx, 0, by rw [e, Bool.false_and, if_neg Bool.false_ne_true]⟩, r3, i3⟩
      | true =>
        refine iteT ⟨_, rfl, R.p, R.dx, _, _, rfl, hp3, rfl, rfl, _, rfl, ?_⟩
        dsimp only
        rw [vstr]
        cases e1 : decide (R.st = "talking") with
        | false => exact iteF ⟨rfl, _, ⟨wa, wx, 0, by rw [e, e1, Bool.true_and, if_neg Bool.false_ne_true]⟩, r3, i3⟩
        | true =>
          have hev := leg_ev r3.c
          refine iteT ⟨_, rfl, R.p, R.dx, _, _, rfl, hp3, rfl, .inl ⟨rfl, _, SqL.of hev⟩, by show 1 ≤ sizeLine; decide, fun t ht => ?_⟩
          have st1 := same_upd (o := .tup [.str "kept"]) ht
          obtain ⟨r4, i4⟩ := Run.event (r3.same st1) (i3.im (Im.of_same st1)) (t := t) (xs := [.str "kept"]) upd_same
          exact ⟨R.ev, _, _, rfl, rfl, st1 _ _ hev, by rw [List.length_map]; exact Nat.lt_of_lt_of_le hn (by decide), rfl, _, ⟨wa, wx, t, by rw [e, e1, Bool.true_and, if_pos rfl]⟩, r4, i4⟩
    rintro σ' H2 ⟨rfl, R', kr, r2, i2⟩
    refine ⟨by show 0 ≤ sizeLine; decide, fun r hnr => ?_⟩
    exact k R' r _ kr (r2.add hnr) (i2.im (Im.of_same (same_upd hnr)))
/-! ### replies to a CALL -/
def spNever : Sp := fun _ _ _ _ => False
theorem ok_Leg__send_waiting {P : Program} {w : World} {K : PySem.W.Frag} {mg : Str → Option Value} {base : Heap} {f : Addr} {fd : FuncData} (T : Tx K mg) 
    (F : FunD K "_send_waiting" "Leg._send_waiting" (defArgs s_Leg__send_waiting) (defBody s_Leg__send_waiting) (defScope s_Leg__send_waiting) [] [] f fd) : FnOk P w K mg base CX0 6 f fd ["self", "now"] spNever := by
  refine F.ok sc_Leg__send_waiting (fun vs H Q E h => h.elim) (fun cdv A outer s0 H vs Q E hr h => h.elim)
inductive FcRel (R : LegR) (M : Ltr) (n now : Int) : LegR → Prop
  | rang {t : Addr} (e : n = 18) (st : R.st = "calling") : FcRel R M n now { R with st := "ringing", es := R.es ++ [(t, [.str "rang"])] }
  | rang2 (e : n = 18) (st : R.st ≠ "calling") : FcRel R M n now R
  | yes {t : Addr} (e : n = 20) : FcRel R M n now { talkR { R with ot := M.ttag } now with es := R.es ++ [(t, [.str "answered", M.offer])] }
  | failed {wt t : Addr} (e : n ≠ 18) (e2 : n ≠ 20) : FcRel R M n now (overR R wt t "failed" n)
def spFollowCall (K : PySem.W.Frag) : Sp := fun vs H Q _ => ∃ (R : LegR) (b : Addr) (M : Ltr) (n now : Int), vs = [.ref R.p, .ref b, .int now] ∧ Cells H (legM K R) ∧ LegI K H R ∧ LetAt K H b M ∧ M.code = .int n ∧ before R.st = true ∧ R.es.length < 100000 ∧
  ∀ R' r H', FcRel R M n now R' → Run H (legM K R) H' ((r, .lst []) :: legM K R') → LegI K H' R' → Q (.ref r) H'
theorem dcode (n m : Int) : decide (V.int n = V.int m) = decide (n = m) := by
  by_cases h : n = m
  · rw [h, decide_eq_true rfl, decide_eq_true rfl]
  · rw [decide_eq_false h, decide_eq_false fun e => h (V.int.inj e)]
theorem ok_Leg__follow_call {P : Program} {w : World} {K : PySem.W.Frag} {mg : Str → Option Value} {base : Heap} {f : Addr} {fd : FuncData} (T : Tx K mg) (c_Leg__send : C8.Met P w K mg base 5 (He.ga K "Leg") "_send" (spSend K) [(V.non), (V.non)]) (c_Leg__talk : C8.Met P w K mg base 1 (He.ga K "Leg") "_talk" (spTalk K) []) (c_Leg__end : C8.Met P w K mg base 1 (He.ga K "Leg") "_end" (spEnd K) [])
    (F : FunD K "_follow_call" "Leg._follow_call" (defArgs s_Leg__follow_call) (defBody s_Leg__follow_call) (defScope s_Leg__follow_call) [] [] f fd) : FnOk P w K mg base CX0 6 f fd ["self", "reply", "now"] (spFollowCall K) := by
  refine F.ok sc_Leg__follow_call (fun vs H Q E h => ?_) (fun cdv A outer s0 H vs Q E hr h => ?_)
  · obtain ⟨R, b, M, n, now, rfl, _⟩ := h
    rfl
  · obtain ⟨R, b, M, n, now, rfl, hc, hi, hb, em, hst, hn, k⟩ := h
    obtain ⟨dm, hm⟩ := id hb
    have hp := leg_p hc
    refine ⟨_, PSs.nox (C8.pss_cut (ps_if (pt_cmpR op_eq (pe_fldC rfl T.cl_Letter T.na_Letter_code (pv 1) rfl) (pgI T.g_RINGS) (nomark _)) (C8.pss_cut (ps_if (pt_cmpR op_eq (pe_fldC rfl T.cl_Leg T.na_Leg_state (pv 0) rfl) pe_str (nomark _)) (pss_cons (ps_fldC rfl T.cl_Leg T.na_Leg_state (pv 0) pe_str rfl) (pss_one (ps_expr (pe_bm PySem.F.plainAttrs_list PySem.F.slot_list_append PySem.F.type_list_append mt_append (pe_fldC rfl T.cl_Leg T.na_Leg__events (pv 0) rfl) (pa_cons (pe_tup (pa_cons pe_str pa_nil)) pa_nil))))) pss_nil) (pss_one (ps_ret (pe_lst pa_nil)))) pss_nil) (C8.pss_cut (ps_if (pt_cmpR op_eq (pe_fldC rfl T.cl_Letter T.na_Letter_code (pv 1) rfl) (pgI T.g_YES) (nomark _)) (pss_one (ps_fldC rfl T.cl_Leg T.na_Leg_other_tag (pv 0) (pe_fldC rfl T.cl_Letter T.na_Letter_target_tag (pv 1) rfl) rfl)) pss_nil) (C8.pss_cut (ps_if (pt_cmpR op_notIn_seq (pe_fldC rfl T.cl_Leg T.na_Leg_state (pv 0) rfl) (pgR T.g_BEFORE_TALKING) (by with_unfolding_all rfl)) (pss_one (ps_ret (pe_ifExp (pt_cmpR op_eq (pe_fldC rfl T.cl_Letter T.na_Letter_code (pv 1) rfl) (pgI T.g_YES) (nomark _)) (C8.pe_mt c_Leg__send hr (by decide) (pv 0) (pa_cons pe_str (pa_cons (pv 2) pa_nil))) (pe_lst pa_nil)))) pss_nil) (C8.pss_cut (ps_if (pt_cmpR op_eq (pe_fldC rfl T.cl_Letter T.na_Letter_code (pv 1) rfl) (pgI T.g_YES) (nomark _)) (pss_cons (ps_expr (C8.pe_mt c_Leg__talk hr (by decide) (pv 0) (pa_cons (pv 2) pa_nil))) (pss_one (ps_expr (pe_bm PySem.F.plainAttrs_list PySem.F.slot_list_append PySem.F.type_list_append mt_append (pe_fldC rfl T.cl_Leg T.na_Leg__events (pv 0) rfl) (pa_cons (pe_tup (pa_cons pe_str (pa_cons (pe_fldC rfl T.cl_Letter T.na_Letter_offer (pv 1) rfl) pa_nil))) pa_nil))))) (pss_one (ps_expr (C8.pe_mt c_Leg__end hr (by decide) (pv 0) (pa_cons pe_str (pa_cons (pe_fldC rfl T.cl_Letter T.na_Letter_code (pv 1) rfl) pa_nil)))))) (pss_one (ps_ret (pe_lst pa_nil))))))), ?_⟩
    -- it rings
    refine ⟨fun σ' H' => σ' = [some (.ref R.p), some (.ref b), some (.int now)] ∧ H' = H ∧ n ≠ 18, ?_, ?_⟩
    · refine ⟨_, rfl, b, dm, _, _, rfl, hm, rfl, (by rw [em]; rfl), _, rfl, ?_⟩
      rw [em, dcode]
      by_cases e : n = 18
      · rw [decide_eq_true e]
        refine iteT ⟨fun σ' H' => σ' = [some (.ref R.p), some (.ref b), some (.int now)] ∧ ∃ R', FcRel R M n now R' ∧ Run H (legM K R) H' (legM K R') ∧ LegI K H' R', ?_, ?_⟩
        · refine ⟨_, rfl, R.p, R.dx, _, _, rfl, hp, rfl, rfl, _, rfl, ?_⟩
          rw [vstr]
          by_cases e1 : R.st = "calling"
          · rw [decide_eq_true e1]
            refine iteT ⟨_, rfl, R.p, R.dx, _, rfl, hp, sm, ?_⟩
            rw [put_state]
            have r1 := Run.leg (Run.refl hc) { R with st := "ringing" } rfl rfl
            generalize upd H R.p (.ins (He.ga K "Leg") R.dx (legfl { R with st := "ringing" })) = H1 at r1 ⊢
            have i1 : LegI K H1 { R with st := "ringing" } := by
              have h := hi.im r1.im
              exact ⟨h.ab, h.ci, h.si, h.wi, h.ei⟩
            have hp1 := leg_p r1.c
            have hev := leg_ev r1.c
            refine ⟨_, rfl, R.p, R.dx, _, _, rfl, hp1, rfl, .inl ⟨rfl, _, SqL.of hev⟩, by show 1 ≤ sizeLine; decide, fun t ht => ?_⟩
            have st1 := same_upd (o := .tup [.str "rang"]) ht
            obtain ⟨r4, i4⟩ := Run.event (r1.same st1) (i1.im (Im.of_same st1)) (t := t) (xs := [.str "rang"]) upd_same
            exact ⟨R.ev, _, _, rfl, rfl, st1 _ _ hev, by rw [List.length_map]; exact Nat.lt_of_lt_of_le hn (by decide), rfl, _, .rang e e1, r4, i4⟩
          · rw [decide_eq_false e1]
            exact iteF ⟨rfl, R, .rang2 e e1, Run.refl hc, hi⟩
        · rintro σ' H2 ⟨rfl, R', fr, r2, i2⟩
          refine ⟨by show 0 ≤ sizeLine; decide, fun r hnr => ?_⟩
          exact k R' r _ fr (r2.add hnr) (i2.im (Im.of_same (same_upd hnr)))
      · rw [decide_eq_false e]
        exact iteF ⟨rfl, rfl, e⟩
    rintro σ' H1 ⟨rfl, e9, n18⟩
    obtain rfl : H = H1 := e9.symm
    -- the other side's tag
    refine ⟨fun σ' H' => σ' = [some (.ref R.p), some (.ref b), some (.int now)] ∧ ∃ R1, Run H (legM K R) H' (legM K R1) ∧ LegI K H' R1 ∧ R1 = (if n = 20 then { R with ot := M.ttag } else R), ?_, ?_⟩
    · refine ⟨_, rfl, b, dm, _, _, rfl, hm, rfl, (by rw [em]; rfl), _, rfl, ?_⟩
      rw [em, dcode]
      by_cases e : n = 20
      · rw [decide_eq_true e]
        refine iteT ⟨_, rfl, b, dm, _, _, rfl, hm, rfl, _, rfl, R.p, R.dx, _, rfl, hp, sm, ?_⟩
        rw [show putF "other_tag" (V.str M.ttag) (legfl R) = legfl { R with ot := M.ttag } from rfl]
        have r1 := Run.leg (Run.refl hc) { R with ot := M.ttag } rfl rfl
        have h := hi.im r1.im
        exact ⟨rfl, _, r1, ⟨h.ab, h.ci, h.si, h.wi, h.ei⟩, by rw [if_pos e]⟩
      · rw [decide_eq_false e]
        exact iteF ⟨rfl, R, Run.refl hc, hi, by rw [if_neg e]⟩
    rintro σ' H1 ⟨rfl, R1, r1, i1, eR⟩
    have ep : R1.p = R.p ∧ R1.dx = R.dx ∧ R1.st = R.st ∧ R1.es = R.es ∧ R1.ev = R.ev := by
      rw [eR]
      split <;> exact ⟨rfl, rfl, rfl, rfl, rfl⟩
    obtain ⟨ep1, ep2, ep3, ep4, ep5⟩ := ep
    have hp1 := leg_p r1.c
    rw [ep1] at hp1
    have hm1 := r1.im _ _ hm rfl
    refine ⟨fun σ' H' => σ' = [some (.ref R.p), some (.ref b), some (.int now)] ∧ H' = H1, ?_, ?_⟩
    · refine ⟨_, rfl, R.p, R1.dx, _, _, rfl, hp1, rfl, _, _, rfl, .inr (T.v_BEFORE_TALKING H1), rfl, rfl, _, rfl, ?_⟩
      show (if (!inV (V.str R1.st) [.str "calling", .str "ringing"]) = true then _ else _)
      rw [inV_before, ep3, hst]
      exact iteF ⟨rfl, rfl⟩
    rintro σ' H2 ⟨rfl, e9⟩
    obtain rfl : H1 = H2 := e9.symm
    refine ⟨fun σ' H' => σ' = [some (.ref R.p), some (.ref b), some (.int now)] ∧ ∃ R', FcRel R M n now R' ∧ Run H (legM K R) H' (legM K R') ∧ LegI K H' R', ?_, ?_⟩
    · refine ⟨_, rfl, b, dm, _, _, rfl, hm1, rfl, (by rw [em]; rfl), _, rfl, ?_⟩
      rw [em, dcode]
      by_cases e : n = 20
      · rw [decide_eq_true e]
        rw [if_pos e] at eR
        subst eR
        refine iteT ⟨_, rfl, R.p, R.dx, _, rfl, hp1, rfl, _, rfl, { R with ot := M.ttag }, now, rfl, r1.c, fun H3 r3 => ?_⟩
        have i3 : LegI K H3 (talkR { R with ot := M.ttag } now) := by
          have h := i1.im r3.im
          exact ⟨h.ab, h.ci, h.si, h.wi, h.ei⟩
        have hp3 := leg_p r3.c
        have hev := leg_ev r3.c
        have hm3 := r3.im _ _ hm1 rfl
        refine ⟨_, rfl, R.p, R.dx, _, _, rfl, hp3, rfl, .inl ⟨rfl, _, SqL.of hev⟩, _, rfl, b, dm, _, _, rfl, hm3, rfl, by show 2 ≤ sizeLine; decide, fun t ht => ?_⟩
        have st1 := same_upd (o := .tup [.str "answered", M.offer]) ht
        obtain ⟨r4, i4⟩ := Run.event ((r1.trans r3).same st1) (i3.im (Im.of_same st1)) (t := t) (xs := [.str "answered", M.offer]) upd_same
        exact ⟨R.ev, _, _, rfl, rfl, st1 _ _ hev, by rw [List.length_map]; exact Nat.lt_of_lt_of_le hn (by decide), rfl, _, .yes e, r4, i4⟩
      · rw [decide_eq_false e]
        rw [if_neg e] at eR
        subst eR
        exact iteF ⟨_, rfl, R1.p, R1.dx, _, rfl, hp1, rfl, _, rfl, b, dm, _, _, rfl, hm1, rfl, R1, "failed", n, (by rw [em]; rfl), r1.c, i1, hn, fun wt t H3 r3 i3 => ⟨rfl, _, .failed n18 e, r1.trans r3, i3⟩⟩
    rintro σ' H2 ⟨rfl, R', fr, r2, i2⟩
    refine ⟨by show 0 ≤ sizeLine; decide, fun r hnr => ?_⟩
    exact k R' r _ fr (r2.add hnr) (i2.im (Im.of_same (same_upd hnr)))

end K7
set_option maxHeartbeats 4000000
set_option pp.maxSteps 400
namespace K7
open PySem PySem.Spec PyProof.Rows L2 SX TK TKS TKC
open C8 (pe_c)
/-! ### replies -/
def spFollow (K : PySem.W.Frag) : Sp := fun vs H Q E => (∃ (R : LegR) (b : Addr) (M : Ltr) (n now : Int), vs = [.ref R.p, .ref b, .int now] ∧ LetAt K H b M ∧ M.verb = "CALL") ∧ spFollowCall K vs H Q E
theorem ok_Leg__follow {P : Program} {w : World} {K : PySem.W.Frag} {mg : Str → Option Value} {base : Heap} {f : Addr} {fd : FuncData} (T : Tx K mg) (c_Leg__follow_call : C8.Met P w K mg base 6 (He.ga K "Leg") "_follow_call" (spFollowCall K) []) (c_Leg__end : C8.Met P w K mg base 1 (He.ga K "Leg") "_end" (spEnd K) []) (c_Leg__send_waiting : C8.Met P w K mg base 6 (He.ga K "Leg") "_send_waiting" spNever [])
    (F : FunD K "_follow" "Leg._follow" (defArgs s_Leg__follow) (defBody s_Leg__follow) (defScope s_Leg__follow) [] [] f fd) : FnOk P w K mg base CX0 7 f fd ["self", "reply", "now"] (spFollow K) := by
  refine F.ok sc_Leg__follow (fun vs H Q E h => ?_) (fun cdv A outer s0 H vs Q E hr h => ?_)
  · obtain ⟨⟨R, b, M, n, now, rfl, _⟩, _⟩ := h
    rfl
  · obtain ⟨⟨R, b, M, n, now, rfl, hb, v⟩, h2⟩ := h
    obtain ⟨dm, hm⟩ := id hb
    obtain ⟨R2, b2, M2, n2, now2, e2, hc, h3⟩ := id h2
    injection e2 with e3 e4
    injection e3 with e3
    have hp := leg_p hc
    rw [← e3] at hp
    refine ⟨_, PSs.nox (C8.pss_cut (ps_if (pt_cmpR op_eq (pe_fldC rfl T.cl_Letter T.na_Letter_verb (pv 1) rfl) pe_str (nomark _)) (pss_one (ps_ret (C8.pe_mt c_Leg__follow_call hr (by decide) (pv 0) (pa_cons (pv 1) (pa_cons (pv 2) pa_nil))))) pss_nil) (C8.pss_cut (ps_if (pt_cmpR op_ne (pe_fldC rfl T.cl_Leg T.na_Leg_state (pv 0) rfl) pe_str (nomark _)) (pss_one (ps_ret (pe_lst pa_nil))) pss_nil) (C8.pss_cut (ps_if (pt_cmpR op_eq (pe_fldC rfl T.cl_Letter T.na_Letter_code (pv 1) rfl) (pgI T.g_NO_CALL) (nomark _)) (pss_cons (ps_expr (C8.pe_mt c_Leg__end hr (by decide) (pv 0) (pa_cons pe_str (pa_cons (pgI T.g_NO_CALL) pa_nil)))) (pss_one (ps_ret (pe_lst pa_nil)))) pss_nil) (C8.pss_cut (ps_if (pt_cmpR op_eq (pe_fldC rfl T.cl_Letter T.na_Letter_verb (pv 1) rfl) pe_str (nomark _)) (pss_one (ps_fldC rfl T.cl_Leg T.na_Leg__live_due (pv 0) (pe_op op_add (pv 2) (pe_fldC rfl T.cl_Leg T.na_Leg_check (pv 0) rfl)) rfl)) (pss_one (ps_if (pt_cmpR op_eq (pe_fldC rfl T.cl_Letter T.na_Letter_verb (pv 1) rfl) pe_str (nomark _)) (pss_one (ps_expr (pe_bm PySem.F.plainAttrs_list PySem.F.slot_list_append PySem.F.type_list_append mt_append (pe_fldC rfl T.cl_Leg T.na_Leg__events (pv 0) rfl) (pa_cons (pe_tup (pa_cons pe_str (pa_cons (pe_fldC rfl T.cl_Letter T.na_Letter_code (pv 1) rfl) (pa_cons (pe_fldC rfl T.cl_Letter T.na_Letter_offer (pv 1) rfl) pa_nil)))) pa_nil)))) (pss_one (ps_expr (pe_bm PySem.F.plainAttrs_list PySem.F.slot_list_append PySem.F.type_list_append mt_append (pe_fldC rfl T.cl_Leg T.na_Leg__events (pv 0) rfl) (pa_cons (pe_tup (pa_cons pe_str (pa_cons (pe_fldC rfl T.cl_Letter T.na_Letter_code (pv 1) rfl) pa_nil))) pa_nil))))))) (pss_one (ps_ret (C8.pe_mt c_Leg__send_waiting hr (by decide) (pv 0) (pa_cons (pv 2) pa_nil)))))))), ?_⟩
    refine ⟨fun _ _ => False, ⟨_, rfl, b, dm, _, _, rfl, hm, rfl, rfl, _, rfl, ?_⟩, fun _ _ z => z.elim⟩
    rw [vstr, decide_eq_true v]
    exact iteT ⟨_, rfl, R.p, R2.dx, _, rfl, hp, rfl, _, rfl, _, rfl, h2⟩
def matchC (c : ClR) (M : Ltr) : Bool := decide (c.L.way = M.way) && decide (c.L.verb = M.verb)
def TrRel (R : LegR) (pre post : List ClR) (c : ClR) (M : Ltr) (n now : Int) (R' : LegR) (rows : List (Str × Str)) : Prop :=
  ∃ wa wx ka kt, rows = takeO c M n ∧ ((takeV c n = .non ∧ R' = { R with cs := pre ++ takeC c M n now wa wx ka kt :: post }) ∨ (takeV c n = .int n ∧ FcRel { R with cs := pre ++ takeC c M n now wa wx ka kt :: post } M n now R'))
theorem takeC_p (c : ClR) (M : Ltr) (n now : Int) (wa wx ka kt : Addr) : (takeC c M n now wa wx ka kt).p = c.p := by
  unfold takeC
  split
  · rfl
  · split
    · unfold provC
      split <;> rfl
    · split
      · rfl
      · split <;> rfl
theorem takeV_or (c : ClR) (n : Int) : takeV c n = .non ∨ takeV c n = .int n := by
  unfold takeV
  split
  · exact .inl rfl
  · split
    · unfold provV
      split
      · exact .inr rfl
      · exact .inl rfl
    · split
      · exact .inr rfl
      · split
        · exact .inl rfl
        · exact .inr rfl
theorem takeO_len {c : ClR} {M : Ltr} {n : Int} (h : c.kl.length ≤ 1) : (takeO c M n).length ≤ 1 := by
  unfold takeO
  split
  · exact Nat.zero_le _
  · split
    · exact Nat.zero_le _
    · split
      · exact Nat.zero_le _
      · split
        · rw [List.length_map]
          exact h
        · exact Nat.le_refl 1
def spTakeReply (K : PySem.W.Frag) : Sp := fun vs H Q _ => ∃ (R : LegR) (b : Addr) (M : Ltr) (n now : Int) (pre post : List ClR) (c : ClR), vs = [.ref R.p, .ref b, .int now] ∧ Cells H (legM K R) ∧ LegI K H R ∧ LetAt K H b M ∧ LOk M ∧ M.code = .int n ∧ M.verb = "CALL" ∧ before R.st = true ∧ R.es.length < 100000 ∧
  R.cs = pre ++ c :: post ∧ (∀ x ∈ pre, matchC x M = false) ∧ matchC c M = true ∧
  ∀ R' rows r ts H', TrRel R pre post c M n now R' rows → Run H (legM K R) H' ((r, .lst (ts.map V.ref)) :: legM K R') → LegI K H' R' → RwI H' ts rows → Q (.ref r) H'
theorem ok_Leg__take_reply {P : Program} {w : World} {K : PySem.W.Frag} {mg : Str → Option Value} {base : Heap} {f : Addr} {fd : FuncData} (T : Tx K mg) (c_Client_take : C8.Met P w K mg base 4 (He.ga K "Client") "take" (spTake K) []) (c_Leg__follow : C8.Met P w K mg base 7 (He.ga K "Leg") "_follow" (spFollow K) [])
    (F : FunD K "_take_reply" "Leg._take_reply" (defArgs s_Leg__take_reply) (defBody s_Leg__take_reply) (defScope s_Leg__take_reply) [] [] f fd) : FnOk P w K mg base CX0 8 f fd ["self", "reply", "now"] (spTakeReply K) := by
  refine F.ok sc_Leg__take_reply (fun vs H Q E h => ?_) (fun cdv A outer s0 H vs Q E hr h => ?_)
  · obtain ⟨R, b, M, n, now, pre, post, c, rfl, _⟩ := h
    rfl
  · obtain ⟨R, b, M, n, now, pre, post, c, rfl, hc0, hi0, hb0, lk, em, v, hst, hn, ecs, hpre, hmc, k⟩ := h
    have hp0 := leg_p hc0
    have hcl0 := leg_cl hc0
    refine ⟨_, PSs.nox (pss_cons (ps_for PassesOwn.never rfl (pi_list (pe_callTy call_list_of rfl T.f_list (by decide +kernel) (pa_cons (pe_fldC rfl T.cl_Leg T.na_Leg__clients (pv 0) rfl) pa_nil))) (pg_name (i := 3) sc_Leg__take_reply.nd rfl (Or.inl rfl)) (pss_one (ps_if (PW.pt (pw_and (pt_cmpR op_eq (pe_fldC rfl T.cl_Letter T.na_Letter_way (pe_fldC rfl T.cl_Client T.na_Client_letter (pv 3) rfl) rfl) (pe_fldC rfl T.cl_Letter T.na_Letter_way (pv 1) rfl) (nomark _)) (pw_and1 (pt_cmpR op_eq (pe_fldC rfl T.cl_Letter T.na_Letter_verb (pe_fldC rfl T.cl_Client T.na_Client_letter (pv 3) rfl) rfl) (pe_fldC rfl T.cl_Letter T.na_Letter_verb (pv 1) rfl) (nomark _))))) (pss_cons (ps_asg (C8.pe_mt c_Client_take hr (by decide) (pv 3) (pa_cons (pv 1) (pa_cons (pv 2) pa_nil))) (pg_tup rfl (pgs_cons (pg_name (i := 4) sc_Leg__take_reply.nd rfl (Or.inl rfl)) (pgs_cons (pg_name (i := 5) sc_Leg__take_reply.nd rfl (Or.inl rfl)) pgs_nil)))) (pss_one (ps_ret (pe_ifExp (pt_cmpR op_notN (pv 5) pe_non (nomark _)) (pe_op op_cat (pv 4) (C8.pe_mt c_Leg__follow hr (by decide) (pv 0) (pa_cons (pv 1) (pa_cons (pv 2) pa_nil)))) (pv 4))))) pss_nil))) (pss_one (ps_ret (pe_lst pa_nil)))), ?_⟩
    refine ⟨_, rfl, R.p, R.dx, _, _, rfl, hp0, rfl, R.cl, _, rfl, .inl (SqL.of hcl0), fun l hl => ?_⟩
    have s1 := same_upd (o := .lst (R.cs.map fun c => V.ref c.p)) hl
    have r0 := (Run.refl hc0).same s1
    have hi := hi0.im r0.im
    have hb := hb0.im r0.im
    have hll : (upd H l (.lst (R.cs.map fun c => V.ref c.p))) l = some (.lst (R.cs.map fun c => V.ref c.p)) := upd_same
    generalize upd H l (.lst (R.cs.map fun c => V.ref c.p)) = H1 at r0 hi hb hll ⊢
    clear hp0 hcl0 hc0 hi0 hb0 s1
    have hp := leg_p r0.c
    obtain ⟨dm, hm⟩ := id hb
    have hlen : pre.length < R.cs.length := by rw [ecs, List.length_append, List.length_cons]; omega
    refine ⟨l, rfl, ⟨_, SqL.of hll⟩, for_list (K := K) (a := l) (xs := R.cs.map fun c => V.ref c.p) (fun i σ H' => H' = H1 ∧ i ≤ pre.length ∧ ∃ v3 : Option V, σ = [some (.ref R.p), some (.ref b), some (.int now), v3, none, none]) ⟨rfl, Nat.zero_le _, none, rfl⟩ (fun _ _ _ _ q => q.1 ▸ SqL.of hll) ?_ ?_⟩
    · rintro i x σ H2 hi1 ⟨e9, hiP, v3, rfl⟩
      obtain rfl : H1 = H2 := e9.symm
      rw [List.getElem?_map] at hi1
      obtain ⟨y, hy, rfl⟩ := Option.map_eq_some_iff.mp hi1
      have my : y ∈ R.cs := List.mem_of_getElem? hy
      obtain ⟨pre2, post2, e2⟩ := List.append_of_mem my
      have cy := Cells.cli r0.c e2
      have iy := hi.ci y my
      have hyp : H1 y.p = some (clO K y) := cy.get (by simp [clM])
      obtain ⟨dl, hyl⟩ := id iy.lt
      refine ⟨_, rfl, y.p, y.dx, _, _, rfl, hyp, rfl, y.la, dl, _, _, rfl, hyl, rfl, _, rfl, b, dm, _, _, rfl, hm, rfl, rfl, _, rfl, ?_⟩
      rw [vstr]
      have second : decide (y.L.way = M.way) = true → matchC y M = decide (y.L.verb = M.verb) := fun e => by unfold matchC; rw [e, Bool.true_and]
      rcases Nat.lt_or_ge i pre.length with hlt | hge
      · have hno : matchC y M = false := by
          rw [ecs, List.getElem?_append_left hlt] at hy
          exact hpre y (List.mem_of_getElem? hy)
        cases e : decide (y.L.way = M.way) with
        | false => exact iteF (iteF ⟨rfl, hlt, _, rfl⟩)
        | true =>
          refine iteT ⟨_, rfl, y.p, y.dx, _, _, rfl, hyp, rfl, y.la, dl, _, _, rfl, hyl, rfl, _, rfl, b, dm, _, _, rfl, hm, rfl, rfl, _, rfl, ?_⟩
          rw [vstr, ← second e, hno]
          exact iteF ⟨rfl, hlt, _, rfl⟩
      · obtain rfl : i = pre.length := by omega
        obtain rfl : c = y := by
          rw [ecs, List.getElem?_append_right (Nat.le_refl _), Nat.sub_self] at hy
          exact Option.some.inj hy
        have e : decide (c.L.way = M.way) = true := by
          unfold matchC at hmc
          rw [Bool.and_eq_true] at hmc
          exact hmc.1
        rw [e]
        refine iteT ⟨_, rfl, c.p, c.dx, _, _, rfl, hyp, rfl, c.la, dl, _, _, rfl, hyl, rfl, _, rfl, b, dm, _, _, rfl, hm, rfl, rfl, _, rfl, ?_⟩
        rw [vstr, ← second e, hmc]
        refine iteT ?_
        refine ⟨_, rfl, c.p, c.dx, _, rfl, hyp, rfl, _, rfl, _, rfl, c, b, n, now, M, rfl, cy, iy, hb, lk, em, fun t r ts wa wx ka kt H3 r3 i3 ht w3 => ?_⟩
        have r4 := Run.cli (X := [(r, .lst (ts.map V.ref))]) r0 ecs (takeC_p c M n now wa wx ka kt) r3
        have i4 : LegI K H3 { R with cs := pre ++ takeC c M n now wa wx ka kt :: post } := by
          have h := hi.im r3.im
          exact ⟨h.ab, ci_swap ecs h.ci i3, h.si, h.wi, h.ei⟩
        have c4 := Cells.right (A := [(r, .lst (ts.map V.ref))]) r4.c
        have hp4 := leg_p c4
        rcases takeV_or c n with ev | ev
        · rw [ev] at ht
          refine ⟨t, _, rfl, SqT.of ht, rfl, _, _, rfl, _, _, rfl, rfl, ?_⟩
          exact ⟨_, rfl, rfl, _, rfl, iteF ⟨_, rfl, k _ _ r ts H3 ⟨wa, wx, ka, kt, rfl, .inl ⟨ev, rfl⟩⟩ r4 i4 w3⟩⟩
        · rw [ev] at ht
          refine ⟨t, _, rfl, SqT.of ht, rfl, _, _, rfl, _, _, rfl, rfl, ?_⟩
          have hb4 := hb.im r3.im
          refine ⟨_, rfl, rfl, _, rfl, iteT ⟨_, rfl, _, rfl, R.p, R.dx, _, rfl, hp4, rfl, _, rfl, _, rfl, ⟨R, b, M, n, now, rfl, hb4, v⟩, { R with cs := pre ++ takeC c M n now wa wx ka kt :: post }, b, M, n, now, rfl, c4, i4, hb4, em, hst, hn, fun R' r2 H4 fr r5 i5 => ?_⟩⟩
          have r6 := Run.frameR (A := [(r, .lst (ts.map V.ref))]) r4 r5
          have ea : H4 r = some (.lst (ts.map V.ref)) := r6.c.get (by simp)
          have eb : H4 r2 = some (.lst []) := r6.c.get (by simp)
          have w4 := w3.im r5.im
          refine ⟨r, r2, _, _, rfl, rfl, ea, eb, ?_, fun q hq => ?_⟩
          · rw [List.length_map, w3.len]
            have := takeO_len (M := M) (n := n) iy.kn
            exact Nat.le_trans (by show _ + 0 ≤ 1; omega : _ ≤ 1) (by decide)
          · rw [List.append_nil]
            have r7 := (r6.add (o := .lst (ts.map V.ref)) hq).sub (M2 := (q, .lst (ts.map V.ref)) :: legM K R') (((List.Sublist.refl _).cons _ |>.cons _).cons₂ _)
            have s7 := same_upd (o := .lst (ts.map V.ref)) hq
            exact k R' _ q ts _ ⟨wa, wx, ka, kt, rfl, .inr ⟨ev, fr⟩⟩ r7 (i5.im (Im.of_same s7)) (w4.im (Im.of_same s7))
    · rintro σ H2 ⟨e9, hiP, v3, rfl⟩
      rw [List.length_map] at hiP
      omega
/-! ### receive -/
def spRecv (K : PySem.W.Frag) : Sp := fun vs H Q _ => ∃ (R : LegR) (b : Addr) (M : Ltr) (o : Option Off) (pl : Str) (now : Int), vs = [.ref R.p, .ref b, .str pl, .int now] ∧ Cells H (legM K R) ∧ LegI K H R ∧ LegW R ∧ LetAt K H b M ∧ OffO H M.offer o ∧ LOk M ∧ R.es.length < 99999 ∧ R.ss.length < 99999 ∧
  ((∃ (n : Int) (pre post : List ClR) (c : ClR), M.code = .int n ∧ M.verb = "CALL" ∧ before R.st = true ∧ R.cs = pre ++ c :: post ∧ (∀ x ∈ pre, matchC x M = false) ∧ matchC c M = true ∧
      ∀ R' rows r ts H', TrRel R pre post c M n now R' rows → Run H (legM K R) H' ((r, .lst (ts.map V.ref)) :: legM K R') → LegI K H' R' → RwI H' ts rows → Q (.ref r) H')
  ∨ (M.code = .non ∧ ∃ (pre post : List SvR) (s : SvR), R.ss = pre ++ s :: post ∧ (∀ x ∈ pre, matchB x.L M x.pl pl = false) ∧ matchB s.L M s.pl pl = true ∧ M.verb ≠ "KEEP" ∧
      ∀ r ts H', Run H (legM K R) H' ((r, .lst (ts.map V.ref)) :: legM K R) → LegI K H' R → RwI H' ts (againO s) → Q (.ref r) H')
  ∨ (M.code = .non ∧ (∀ x ∈ R.ss, matchB x.L M x.pl pl = false) ∧ (M.verb = "KEEP" ∨ M.seq ≤ R.gt ∨ 16 ≤ openN R) ∧
      ∀ r H', Run H (legM K R) H' ((r, .lst []) :: legM K R) → LegI K H' R → Q (.ref r) H')
  ∨ (M.code = .non ∧ (∀ x ∈ R.ss, matchB x.L M x.pl pl = false) ∧ M.verb ≠ "KEEP" ∧ R.gt < M.seq ∧ openN R < 16 ∧ (R.st = "offered" → R.ss ≠ []) ∧ (∀ u, o = some u → u.fs.length ≤ 1000 ∧ ∀ a, answerO R.able u = some a → OffOk a ∧ TxOk (wordsS a)) ∧ (M.goal = .non ∨ ∃ z : Str, M.goal = .str z) ∧
      ∀ sp sdx al R' rows r ts H', NewRel (servedR R (newS sp sdx b al M o pl R.first)) R.ss (newS sp sdx b al M o pl R.first) now R' rows → Run H (legM K R) H' ((r, .lst (ts.map V.ref)) :: legM K R') → LegI K H' R' → RwI H' ts rows → Q (.ref r) H'))
theorem ok_Leg_receive {P : Program} {w : World} {K : PySem.W.Frag} {mg : Str → Option Value} {base : Heap} {f : Addr} {fd : FuncData} (T : Tx K mg) (c_Leg__take_reply : C8.Met P w K mg base 8 (He.ga K "Leg") "_take_reply" (spTakeReply K) []) (c_Server_matches : C8.Met P w K mg base 1 (He.ga K "Server") "matches" (spSvMatch K) []) (c_Leg__take_known : C8.Met P w K mg base 4 (He.ga K "Leg") "_take_known" (spTakeKnown K) []) (c_Leg__has_most_servers : C8.Met P w K mg base 2 (He.ga K "Leg") "_has_most_servers" (spMost K) []) (c_Leg__serve : C8.Met P w K mg base 3 (He.ga K "Leg") "_serve" (spServe K) []) (c_Leg__take_new : C8.Met P w K mg base 7 (He.ga K "Leg") "_take_new" (spTakeNew K) [])
    (F : FunD K "receive" "Leg.receive" (defArgs s_Leg_receive) (defBody s_Leg_receive) (defScope s_Leg_receive) [] [] f fd) : FnOk P w K mg base CX0 9 f fd ["self", "letter", "place", "now"] (spRecv K) := by
  refine F.ok sc_Leg_receive (fun vs H Q E h => ?_) (fun cdv A outer s0 H vs Q E hr h => ?_)
  · obtain ⟨R, b, M, o, pl, now, rfl, _⟩ := h
    rfl
  · obtain ⟨R, b, M, o, pl, now, rfl, hc, hi, hw, hb, ho, lk, hn, hsn, h⟩ := h
    have hp := leg_p hc
    obtain ⟨dm, hm⟩ := id hb
    refine ⟨_, PSs.nox (C8.pss_cut (ps_if (pt_cmpR op_notN (pe_fldC rfl T.cl_Letter T.na_Letter_code (pv 1) rfl) pe_non (nomark _)) (pss_one (ps_ret (C8.pe_mt c_Leg__take_reply hr (by decide) (pv 0) (pa_cons (pv 1) (pa_cons (pv 3) pa_nil))))) pss_nil) (pss_cons (ps_for PassesOwn.never rfl (pi_list (pe_fldC rfl T.cl_Leg T.na_Leg__servers (pv 0) rfl)) (pg_name (i := 4) sc_Leg_receive.nd rfl (Or.inl rfl)) (pss_one (ps_if (pt_val (C8.pe_mt c_Server_matches hr (by decide) (pv 4) (pa_cons (pv 1) (pa_cons (pv 2) pa_nil)))) (pss_one (ps_ret (C8.pe_mt c_Leg__take_known hr (by decide) (pv 0) (pa_cons (pv 4) (pa_cons (pv 1) (pa_cons (pv 3) pa_nil)))))) pss_nil))) (C8.pss_cut (ps_if (PW.pt (pw_or (pt_cmpR op_eq (pe_fldC rfl T.cl_Letter T.na_Letter_verb (pv 1) rfl) pe_str (nomark _)) (pw_or (pt_cmpR op_le (pe_fldC rfl T.cl_Letter T.na_Letter_seq (pv 1) rfl) (pe_fldC rfl T.cl_Leg T.na_Leg__greatest_taken (pv 0) rfl) (nomark _)) (pw_or1 (pt_val (C8.pe_mt0 c_Leg__has_most_servers hr (by decide) (pv 0))))))) (pss_one (ps_ret (pe_lst pa_nil))) pss_nil) (pss_one (ps_ret (C8.pe_mt c_Leg__take_new hr (by decide) (pv 0) (pa_cons (C8.pe_mt c_Leg__serve hr (by decide) (pv 0) (pa_cons (pv 1) (pa_cons (pv 2) pa_nil))) (pa_cons (pv 3) pa_nil)))))))), ?_⟩
    rcases h with ⟨n, pre, post, c, em, v, hst, ecs, hpre, hmc, k⟩ | h
    · refine ⟨fun _ _ => False, ⟨_, rfl, b, dm, _, _, rfl, hm, rfl, rfl, _, rfl, ?_⟩, fun _ _ z => z.elim⟩
      rw [em]
      exact iteT ⟨_, rfl, R.p, R.dx, _, rfl, hp, rfl, _, rfl, _, rfl, R, b, M, n, now, pre, post, c, rfl, hc, hi, hb, lk, em, v, hst, Nat.lt_of_lt_of_le hn (by decide), ecs, hpre, hmc, k⟩
    have em : M.code = .non := by
      rcases h with ⟨e, _⟩ | ⟨e, _⟩ | ⟨e, _⟩ <;> exact e
    refine ⟨fun σ' H' => σ' = [some (.ref R.p), some (.ref b), some (.str pl), some (.int now), none] ∧ H' = H, ?_, ?_⟩
    · refine ⟨_, rfl, b, dm, _, _, rfl, hm, rfl, rfl, _, rfl, ?_⟩
      rw [em]
      exact iteF ⟨rfl, rfl⟩
    rintro σ' H1 ⟨rfl, e9⟩
    obtain rfl : H = H1 := e9.symm
    have hsv := leg_sv hc
    -- how far the servers do not match
    obtain ⟨m, hml, hnm, hre⟩ : ∃ m, m ≤ R.ss.length ∧ (∀ i (hi : i < m) (hl : i < R.ss.length), matchB R.ss[i].L M R.ss[i].pl pl = false) ∧ ((m = R.ss.length ∧ ∀ x ∈ R.ss, matchB x.L M x.pl pl = false) ∨ ∃ (pre post : List SvR) (s : SvR), m = pre.length ∧ R.ss = pre ++ s :: post ∧ matchB s.L M s.pl pl = true ∧ M.verb ≠ "KEEP" ∧ ∀ r ts H', Run H (legM K R) H' ((r, .lst (ts.map V.ref)) :: legM K R) → LegI K H' R → RwI H' ts (againO s) → Q (.ref r) H') := by
      rcases h with ⟨_, pre, post, s, e, hpre, hms, nk, k⟩ | ⟨_, hno, _⟩ | ⟨_, hno, _⟩
      · refine ⟨pre.length, by rw [e, List.length_append]; omega, fun i hi hl => ?_, .inr ⟨pre, post, s, rfl, e, hms, nk, k⟩⟩
        have e2 : R.ss[i] = pre[i] := by
          have : R.ss[i]? = some pre[i] := by rw [e, List.getElem?_append_left hi, List.getElem?_eq_getElem hi]
          rw [List.getElem?_eq_getElem hl] at this
          exact Option.some.inj this
        rw [e2]
        exact hpre _ (List.getElem_mem hi)
      · exact ⟨_, Nat.le_refl _, fun i _ hl => hno _ (List.getElem_mem hl), .inl ⟨rfl, hno⟩⟩
      · exact ⟨_, Nat.le_refl _, fun i _ hl => hno _ (List.getElem_mem hl), .inl ⟨rfl, hno⟩⟩
    refine ⟨_, rfl, R.p, R.dx, _, _, rfl, hp, rfl, R.sv, rfl, ⟨_, SqL.of hsv⟩, for_list (K := K) (a := R.sv) (xs := R.ss.map fun c => V.ref c.p) (fun i σ H' => Same H H' ∧ i ≤ m ∧ ∃ v4 : Option V, σ = [some (.ref R.p), some (.ref b), some (.str pl), some (.int now), v4]) ⟨Same.refl H, Nat.zero_le _, none, rfl⟩ (fun _ _ _ _ q => SqL.of (q.1 _ _ hsv)) ?_ ?_⟩
    · rintro i x σ H2 hi1 ⟨s2, hiP, v3, rfl⟩
      rw [List.getElem?_map] at hi1
      obtain ⟨y, hy, rfl⟩ := Option.map_eq_some_iff.mp hi1
      obtain ⟨hlt, ey⟩ := List.getElem?_eq_some_iff.mp hy
      have my : y ∈ R.ss := List.mem_of_getElem? hy
      obtain ⟨pre2, post2, e2⟩ := List.append_of_mem my
      have hyp : H2 y.p = some (svO K y) := s2 _ _ ((Cells.srv hc e2).get (by simp [svM]))
      have iy := hi.si y my
      refine ⟨_, rfl, y.p, y.dx, _, rfl, hyp, rfl, _, rfl, _, rfl, y, b, M, pl, rfl, hyp, iy.lt.same s2, hb.same s2, lk, iy.lk, fun H3 s3 => ⟨_, rfl, ?_⟩⟩
      have s23 := s2.trans s3
      rcases Nat.lt_or_ge i m with hlt2 | hge
      · have hno := hnm i hlt2 hlt
        rw [ey] at hno
        rw [hno]
        exact iteF ⟨s23, hlt2, _, rfl⟩
      · rcases hre with ⟨em2, hno⟩ | ⟨pre, post, s, em2, e, hms, nk, k⟩
        · omega
        · obtain rfl : i = pre.length := by omega
          obtain rfl : s = y := by
            rw [e, List.getElem?_append_right (Nat.le_refl _), Nat.sub_self] at hy
            exact Option.some.inj hy
          rw [hms]
          have r3 := (Run.refl hc).same s23
          have hp3 := leg_p r3.c
          refine iteT ⟨_, rfl, R.p, R.dx, _, rfl, hp3, rfl, _, rfl, _, rfl, _, rfl, R, pre, post, s, b, M, now, rfl, r3.c, hi.im r3.im, e, hb.same s23, Nat.lt_of_lt_of_le hn (by decide), fun _ r ts H4 r4 i4 w4 => k r ts H4 (r3.trans r4) i4 w4, fun e => absurd e nk⟩
    · rintro σ H2 ⟨s2, hiP, v3, rfl⟩
      rw [List.length_map] at hiP
      have hno : ∀ x ∈ R.ss, matchB x.L M x.pl pl = false := by
        rcases hre with ⟨_, hno⟩ | ⟨pre, post, s, em2, e, _⟩
        · exact hno
        · rw [e, List.length_append, List.length_cons] at hiP
          omega
      have r2 := (Run.refl hc).same s2
      have i2 := hi.im r2.im
      have hp2 := leg_p r2.c
      have hm2 := s2 _ _ hm
      have hb2 := hb.same s2
      have h2 : ((M.verb = "KEEP" ∨ M.seq ≤ R.gt ∨ 16 ≤ openN R) ∧ ∀ r H', Run H2 (legM K R) H' ((r, .lst []) :: legM K R) → LegI K H' R → Q (.ref r) H') ∨ (M.verb ≠ "KEEP" ∧ R.gt < M.seq ∧ openN R < 16 ∧ (R.st = "offered" → R.ss ≠ []) ∧ (∀ u, o = some u → u.fs.length ≤ 1000 ∧ ∀ a, answerO R.able u = some a → OffOk a ∧ TxOk (wordsS a)) ∧ (M.goal = .non ∨ ∃ z : Str, M.goal = .str z) ∧
        ∀ sp sdx al R' rows r ts H', NewRel (servedR R (newS sp sdx b al M o pl R.first)) R.ss (newS sp sdx b al M o pl R.first) now R' rows → Run H2 (legM K R) H' ((r, .lst (ts.map V.ref)) :: legM K R') → LegI K H' R' → RwI H' ts rows → Q (.ref r) H') := by
        rcases h with ⟨_, pre, post, s, e, _, hms, _⟩ | ⟨_, _, hg, k⟩ | ⟨_, _, h1, h2, h3, h4, h5, h6, k⟩
        · have := hno s (by rw [e]; simp)
          rw [hms] at this
          cases this
        · exact .inl ⟨hg, fun r H' r3 i3 => k r H' (r2.trans r3) i3⟩
        · exact .inr ⟨h1, h2, h3, h4, h5, h6, fun sp sdx al R' rows r ts H' n r3 i3 w3 => k sp sdx al R' rows r ts H' n (r2.trans r3) i3 w3⟩
      clear h hre hnm
      refine ⟨fun σ' H' => σ' = [some (.ref R.p), some (.ref b), some (.str pl), some (.int now), v3] ∧ Same H2 H' ∧ (M.verb ≠ "KEEP" ∧ R.gt < M.seq ∧ openN R < 16), ?_, ?_⟩
      · have no : (M.verb = "KEEP" ∨ M.seq ≤ R.gt ∨ 16 ≤ openN R) → ∀ H3, Same H2 H3 → ∀ r, H3 r = none → Q (.ref r) (upd H3 r (.lst [])) := fun g H3 s3 r hr => by
          rcases h2 with ⟨_, k⟩ | ⟨g1, g2, g3, _⟩
          · exact k r _ (((Run.refl r2.c).same s3).add hr) (i2.im (Im.of_same (s3.trans (same_upd hr))))
          · rcases g with g | g | g
            · exact absurd g g1
            · omega
            · omega
        refine ⟨_, rfl, b, dm, _, _, rfl, hm2, rfl, rfl, _, rfl, ?_⟩
        rw [vstr]
        by_cases e : M.verb = "KEEP"
        · rw [decide_eq_true e]
          exact iteT (iteT ⟨by show 0 ≤ sizeLine; decide, fun r hr => no (.inl e) H2 (Same.refl _) r hr⟩)
        · rw [decide_eq_false e]
          refine iteF ⟨_, rfl, b, dm, _, _, rfl, hm2, rfl, _, rfl, R.p, R.dx, _, _, rfl, hp2, rfl, _, _, rfl, rfl, _, rfl, ?_⟩
          by_cases e1 : M.seq ≤ R.gt
          · rw [decide_eq_true e1]
            exact iteT (iteT ⟨by show 0 ≤ sizeLine; decide, fun r hr => no (.inr (.inl e1)) H2 (Same.refl _) r hr⟩)
          · rw [decide_eq_false e1]
            refine iteF ⟨_, rfl, R.p, R.dx, _, rfl, hp2, rfl, R, rfl, r2.c, Nat.lt_of_lt_of_le hsn (by decide), fun H3 s3 => ⟨_, rfl, ?_⟩⟩
            by_cases e2 : 16 ≤ openN R
            · rw [decide_eq_true e2]
              exact iteT ⟨by show 0 ≤ sizeLine; decide, fun r hr => no (.inr (.inr e2)) H3 s3 r hr⟩
            · rw [decide_eq_false e2]
              exact iteF ⟨rfl, s3, e, by omega, by omega⟩
      rintro σ' H3 ⟨rfl, s3, g1, g2, g3⟩
      rcases h2 with ⟨g, _⟩ | ⟨_, _, _, h4, h5, h6, k⟩
      · rcases g with g | g | g
        · exact absurd g g1
        · omega
        · omega
      have r3 := (Run.refl r2.c).same s3
      have i3 := i2.im r3.im
      have hp3 := leg_p r3.c
      refine ⟨_, rfl, R.p, R.dx, _, rfl, hp3, rfl, _, rfl, R.p, R.dx, _, rfl, hp3, rfl, _, rfl, _, rfl, R, b, pl, M, o, rfl, r3.c, i3, (hb2.same s3), (ho.im (Im.of_same (s2.trans s3))), lk, Nat.lt_of_lt_of_le hsn (by decide), fun sp sdx al H4 r4 i4 => ?_⟩
      exact ⟨_, rfl, servedR R (newS sp sdx b al M o pl R.first), R.ss, newS sp sdx b al M o pl R.first, now, rfl, ⟨r4.c, i4, ⟨hw.tag, hw.call, hw.own, hw.other, hw.ot, hw.seq, hw.req⟩, rfl, hn, h4, h5⟩, h6, fun R' rows r ts H5 nr r5 i5 w5 => k sp sdx al R' rows r ts H5 nr ((r3.trans r4).trans r5) i5 w5⟩

end K7
set_option maxHeartbeats 4000000
set_option pp.maxSteps 400
namespace K7
open PySem PySem.Spec PyProof.Rows L2 SX TK TKS TKC
open C8 (pe_c)
/-! ### a leg's making and its user -/
def newR (p dx cl sv wt ev : Addr) (tag call own other place : Str) (ab : V) (able : Off) (first check seq : Int) : LegR := ⟨p, dx, cl, sv, wt, ev, tag, call, own, other, place, ab, able, first, check, "", "new", seq, 0, false, -1, 0, [], [], [], []⟩
instance {R : LegR} {k : Nat} : SmallF ((legfl R).take k) 19 := ⟨List.length_take_le' _ _⟩
def spLegInit (K : PySem.W.Frag) : Sp := fun vs H Q _ => ∃ (p dx : Addr) (tag call own other place : Str) (ab : V) (first check seq : Int), vs = [.ref p, .str tag, .str call, .str own, .str other, .str place, ab, .int first, .int check, .int seq] ∧ H p = some (.ins (He.ga K "Leg") dx []) ∧
  ∀ cl sv wt ev H', (∀ able, Run H [(p, .ins (He.ga K "Leg") dx [])] H' (legM K (newR p dx cl sv wt ev tag call own other place ab able first check seq))) → Q .non H'
theorem ok_Leg___init {P : Program} {w : World} {K : PySem.W.Frag} {mg : Str → Option Value} {base : Heap} {f : Addr} {fd : FuncData} (T : Tx K mg) 
    (F : FunD K "__init__" "Leg.__init__" (defArgs s_Leg___init) (defBody s_Leg___init) (defScope s_Leg___init) [] [("seq", (V.int 0))] f fd) : FnOk P w K mg base CX0 1 f fd ["self", "tag", "call", "own", "other", "place", "able", "first", "check", "seq"] (spLegInit K) := by
  refine F.ok sc_Leg___init (fun vs H Q E h => ?_) (fun cdv A outer s0 H vs Q E hr h => ?_)
  · obtain ⟨p, dx, tag, call, own, other, place, ab, first, check, seq, rfl, _⟩ := h
    rfl
  · obtain ⟨p, dx, tag, call, own, other, place, ab, first, check, seq, rfl, hp, k⟩ := h
    refine ⟨_, PSs.nox (pss_cons (ps_fldC rfl T.cl_Leg T.na_Leg_tag (pv 0) (pv 1) rfl) (pss_cons (ps_fldC rfl T.cl_Leg T.na_Leg_call (pv 0) (pv 2) rfl) (pss_cons (ps_fldC rfl T.cl_Leg T.na_Leg_own (pv 0) (pv 3) rfl) (pss_cons (ps_fldC rfl T.cl_Leg T.na_Leg_other (pv 0) (pv 4) rfl) (pss_cons (ps_fldC rfl T.cl_Leg T.na_Leg_place (pv 0) (pv 5) rfl) (pss_cons (ps_fldC rfl T.cl_Leg T.na_Leg_able (pv 0) (pv 6) rfl) (pss_cons (ps_fldC rfl T.cl_Leg T.na_Leg_first (pv 0) (pv 7) rfl) (pss_cons (ps_fldC rfl T.cl_Leg T.na_Leg_check (pv 0) (pv 8) rfl) (pss_cons (ps_fldC rfl T.cl_Leg T.na_Leg_other_tag (pv 0) pe_str rfl) (pss_cons (ps_fldC rfl T.cl_Leg T.na_Leg_state (pv 0) pe_str rfl) (pss_cons (ps_fldC rfl T.cl_Leg T.na_Leg__seq (pv 0) (pv 9) rfl) (pss_cons (ps_fldC rfl T.cl_Leg T.na_Leg__requests (pv 0) pe_int rfl) (pss_cons (ps_fldC rfl T.cl_Leg T.na_Leg_took_call (pv 0) pe_bl rfl) (pss_cons (ps_fldC rfl T.cl_Leg T.na_Leg__greatest_taken (pv 0) (pe_un un_neg pe_int) rfl) (pss_cons (ps_fldC rfl T.cl_Leg T.na_Leg__clients (pv 0) (pe_lst pa_nil) rfl) (pss_cons (ps_fldC rfl T.cl_Leg T.na_Leg__servers (pv 0) (pe_lst pa_nil) rfl) (pss_cons (ps_fldC rfl T.cl_Leg T.na_Leg__waiting (pv 0) (pe_lst pa_nil) rfl) (pss_cons (ps_fldC rfl T.cl_Leg T.na_Leg__live_due (pv 0) pe_int rfl) (pss_one (ps_fldC rfl T.cl_Leg T.na_Leg__events (pv 0) (pe_lst pa_nil) rfl)))))))))))))))))))), ?_⟩
    have rz := Run.refl (cells1 hp)
    obtain ⟨R0, hR0⟩ : ∃ R0 : Addr → Addr → Addr → Addr → LegR, R0 = fun cl sv wt ev => newR p dx cl sv wt ev tag call own other place ab ⟨0, "", []⟩ first check seq := ⟨_, rfl⟩
    have g14 : ∀ n, n = -1 → putF "_greatest_taken" (V.int n) (putF "took_call" (V.bl false) (putF "_requests" (V.int 0) (putF "_seq" (V.int seq) (putF "state" (V.str "new") (putF "other_tag" (V.str "") (putF "check" (V.int check) (putF "first" (V.int first) (putF "able" ab (putF "place" (V.str place) (putF "other" (V.str other) (putF "own" (V.str own) (putF "call" (V.str call) (putF "tag" (V.str tag) []))))))))))))) = (legfl (R0 0 0 0 0)).take 14 := fun n e => by subst e; rw [hR0]; rfl
    have g15 : ∀ cl, putF "_clients" (V.ref cl) ((legfl (R0 0 0 0 0)).take 14) = (legfl (R0 cl 0 0 0)).take 15 := fun cl => by rw [hR0]; rfl
    have g16 : ∀ cl sv, putF "_servers" (V.ref sv) ((legfl (R0 cl 0 0 0)).take 15) = (legfl (R0 cl sv 0 0)).take 16 := fun cl sv => by rw [hR0]; rfl
    have g17 : ∀ cl sv wt, putF "_waiting" (V.ref wt) ((legfl (R0 cl sv 0 0)).take 16) = (legfl (R0 cl sv wt 0)).take 17 := fun cl sv wt => by rw [hR0]; rfl
    have g18 : ∀ cl sv wt, putF "_live_due" (V.int 0) ((legfl (R0 cl sv wt 0)).take 17) = (legfl (R0 cl sv wt 0)).take 18 := fun cl sv wt => by rw [hR0]; rfl
    have g19 : ∀ cl sv wt ev, putF "_events" (V.ref ev) ((legfl (R0 cl sv wt 0)).take 18) = legfl (R0 cl sv wt ev) := fun cl sv wt ev => by rw [hR0]; rfl
    refine ⟨_, rfl, _, rfl, p, dx, _, rfl, hp, sm, ?_⟩
    refine ⟨_, rfl, _, rfl, p, dx, _, rfl, upd_same, sm, ?_⟩
    refine ⟨_, rfl, _, rfl, p, dx, _, rfl, upd_same, sm, ?_⟩
    refine ⟨_, rfl, _, rfl, p, dx, _, rfl, upd_same, sm, ?_⟩
    refine ⟨_, rfl, _, rfl, p, dx, _, rfl, upd_same, sm, ?_⟩
    refine ⟨_, rfl, _, rfl, p, dx, _, rfl, upd_same, sm, ?_⟩
    refine ⟨_, rfl, _, rfl, p, dx, _, rfl, upd_same, sm, ?_⟩
    refine ⟨_, rfl, _, rfl, p, dx, _, rfl, upd_same, sm, ?_⟩
    refine ⟨_, rfl, p, dx, _, rfl, upd_same, sm, ?_⟩
    refine ⟨_, rfl, p, dx, _, rfl, upd_same, sm, ?_⟩
    refine ⟨_, rfl, _, rfl, p, dx, _, rfl, upd_same, sm, ?_⟩
    refine ⟨_, rfl, p, dx, _, rfl, upd_same, sm, ?_⟩
    refine ⟨_, rfl, p, dx, _, rfl, upd_same, sm, ?_⟩
    refine ⟨_, rfl, _, rfl, p, dx, _, rfl, upd_same, sm, ?_⟩
    simp only [upd_upd]
    rw [g14 _ rfl]
    have r1 := rz.set (A := []) (B := []) (o' := .ins (He.ga K "Leg") dx ((legfl (R0 0 0 0 0)).take 14)) rfl
    generalize upd H p (.ins (He.ga K "Leg") dx ((legfl (R0 0 0 0 0)).take 14)) = H1 at r1 ⊢
    refine ⟨by show 0 ≤ sizeLine; decide, fun cl hcl => ?_⟩
    have r2 := r1.add (o := .lst []) hcl
    refine ⟨_, rfl, p, dx, _, rfl, r2.c.get (o := .ins (He.ga K "Leg") dx ((legfl (R0 0 0 0 0)).take 14)) (by simp), sm, ?_⟩
    rw [g15]
    have r3 := r2.set (A := [(cl, .lst [])]) (B := []) (o' := .ins (He.ga K "Leg") dx ((legfl (R0 cl 0 0 0)).take 15)) rfl
    generalize upd _ p (.ins (He.ga K "Leg") dx ((legfl (R0 cl 0 0 0)).take 15)) = H3 at r3 ⊢
    refine ⟨by show 0 ≤ sizeLine; decide, fun sv hsv => ?_⟩
    have r4 := r3.add (o := .lst []) hsv
    refine ⟨_, rfl, p, dx, _, rfl, r4.c.get (o := .ins (He.ga K "Leg") dx ((legfl (R0 cl 0 0 0)).take 15)) (by simp), sm, ?_⟩
    rw [g16]
    have r5 := r4.set (A := [(sv, .lst []), (cl, .lst [])]) (B := []) (o' := .ins (He.ga K "Leg") dx ((legfl (R0 cl sv 0 0)).take 16)) rfl
    generalize upd _ p (.ins (He.ga K "Leg") dx ((legfl (R0 cl sv 0 0)).take 16)) = H5 at r5 ⊢
    refine ⟨by show 0 ≤ sizeLine; decide, fun wt hwt => ?_⟩
    have r6 := r5.add (o := .lst []) hwt
    refine ⟨_, rfl, p, dx, _, rfl, r6.c.get (o := .ins (He.ga K "Leg") dx ((legfl (R0 cl sv 0 0)).take 16)) (by simp), sm, ?_⟩
    rw [g17]
    have r7 := r6.set (A := [(wt, .lst []), (sv, .lst []), (cl, .lst [])]) (B := []) (o' := .ins (He.ga K "Leg") dx ((legfl (R0 cl sv wt 0)).take 17)) rfl
    generalize upd _ p (.ins (He.ga K "Leg") dx ((legfl (R0 cl sv wt 0)).take 17)) = H7 at r7 ⊢
    refine ⟨_, rfl, p, dx, _, rfl, r7.c.get (o := .ins (He.ga K "Leg") dx ((legfl (R0 cl sv wt 0)).take 17)) (by simp), sm, ?_⟩
    rw [g18]
    have r8 := r7.set (A := [(wt, .lst []), (sv, .lst []), (cl, .lst [])]) (B := []) (o' := .ins (He.ga K "Leg") dx ((legfl (R0 cl sv wt 0)).take 18)) rfl
    generalize upd _ p (.ins (He.ga K "Leg") dx ((legfl (R0 cl sv wt 0)).take 18)) = H8 at r8 ⊢
    refine ⟨by show 0 ≤ sizeLine; decide, fun ev hev => ?_⟩
    have r9 := r8.add (o := .lst []) hev
    refine ⟨_, rfl, p, dx, _, rfl, r9.c.get (o := .ins (He.ga K "Leg") dx ((legfl (R0 cl sv wt 0)).take 18)) (by simp), sm, ?_⟩
    rw [g19]
    have ra := r9.set (A := [(ev, .lst []), (wt, .lst []), (sv, .lst []), (cl, .lst [])]) (B := []) (o' := .ins (He.ga K "Leg") dx (legfl (R0 cl sv wt ev))) rfl
    rw [hR0] at ra ⊢
    exact k cl sv wt ev _ fun able => ra.perm (List.reverse_perm [(p, HO.ins (He.ga K "Leg") dx (legfl (newR p dx cl sv wt ev tag call own other place ab ⟨0, "", []⟩ first check seq))), (cl, .lst []), (sv, .lst []), (wt, .lst []), (ev, .lst [])])
def spCallOut (K : PySem.W.Frag) : Sp := fun vs H Q _ => ∃ (R : LegR) (now : Int) (xo : V) (o : Option Off), vs = [.ref R.p, xo, .int now] ∧ Cells H (legM K R) ∧ LegI K H R ∧ OffX H xo o ∧ LegW R ∧ R.seq + 1 < 1000000000 ∧ R.req + 1 < 1000000000 ∧ R.cs.length < 100000 ∧
  ∀ cp cdx la wa wx ka r ts H', Run H (legM K R) H' ((r, .lst (ts.map V.ref)) :: legM K (sentR { R with st := "calling" } (newC cp cdx la wa wx ka (sendL R "CALL" xo .non) o R.place R.first now))) →
    LegI K H' (sentR { R with st := "calling" } (newC cp cdx la wa wx ka (sendL R "CALL" xo .non) o R.place R.first now)) → RwI H' ts [(R.place, textOf (linesX (sendL R "CALL" xo .non) o))] → Q (.ref r) H'
theorem k_call_ok : TxOk ("CALL" : Str) ∧ ("CALL" : Str).length ≤ 1000 := ⟨by show PyData.strOk "CALL" = true; decide +kernel, by decide +kernel⟩
theorem k_end_ok : TxOk ("END" : Str) ∧ ("END" : Str).length ≤ 1000 := ⟨by show PyData.strOk "END" = true; decide +kernel, by decide +kernel⟩
theorem ok_Leg_call_out {P : Program} {w : World} {K : PySem.W.Frag} {mg : Str → Option Value} {base : Heap} {f : Addr} {fd : FuncData} (T : Tx K mg) (c_Leg__send_d1 : C8.Met P w K mg base 5 (He.ga K "Leg") "_send" (spSend K) [(V.non)])
    (F : FunD K "call_out" "Leg.call_out" (defArgs s_Leg_call_out) (defBody s_Leg_call_out) (defScope s_Leg_call_out) [] [] f fd) : FnOk P w K mg base CX0 6 f fd ["self", "offer", "now"] (spCallOut K) := by
  refine F.ok sc_Leg_call_out (fun vs H Q E h => ?_) (fun cdv A outer s0 H vs Q E hr h => ?_)
  · obtain ⟨R, now, xo, o, rfl, _⟩ := h
    rfl
  · obtain ⟨R, now, xo, o, rfl, hc, hi, hx, hw, h1, h2, hn, k⟩ := h
    refine ⟨_, PSs.nox (pss_cons (ps_fldC rfl T.cl_Leg T.na_Leg_state (pv 0) pe_str rfl) (pss_one (ps_ret (C8.pe_mt c_Leg__send_d1 hr (by decide) (pv 0) (pa_cons pe_str (pa_cons (pv 2) (pa_cons (pv 1) pa_nil))))))), ?_⟩
    refine ⟨_, rfl, R.p, R.dx, _, rfl, leg_p hc, sm, ?_⟩
    rw [put_state]
    have r1 := Run.leg (Run.refl hc) { R with st := "calling" } rfl rfl
    generalize upd H R.p (.ins (He.ga K "Leg") R.dx (legfl { R with st := "calling" })) = H1 at r1 ⊢
    have h := hi.im r1.im
    have hp1 := leg_p r1.c
    refine ⟨_, rfl, R.p, R.dx, _, rfl, hp1, rfl, _, rfl, _, rfl, { R with st := "calling" }, "CALL", now, xo, .non, o, rfl, r1.c, ⟨h.ab, h.ci, h.si, h.wi, h.ei⟩, hx.im r1.im, ⟨⟨hw.tag, hw.call, hw.own, hw.other, hw.ot, hw.seq, hw.req⟩, k_call_ok, .inl rfl, h1, h2⟩, hn, fun cp cdx la wa wx ka r ts H2 r2 i2 w2 => ?_⟩
    exact k cp cdx la wa wx ka r ts H2 (r1.trans r2) i2 w2
def spCallIn (K : PySem.W.Frag) : Sp := fun vs H Q _ => ∃ (R : LegR) (la : Addr) (L : Ltr) (o : Option Off), vs = [.ref R.p, .ref la] ∧ Cells H (legM K R) ∧ LegI K H R ∧ LetAt K H la L ∧ OffO H L.offer o ∧ LOk L ∧ R.ss.length < 100000 ∧
  ∀ sp sdx al H', Run H (legM K R) H' (legM K (servedR { R with st := "offered", took := true, ot := L.otag } (newS sp sdx la al L o R.place R.first))) → LegI K H' (servedR { R with st := "offered", took := true, ot := L.otag } (newS sp sdx la al L o R.place R.first)) → Q .non H'
theorem ok_Leg_call_in {P : Program} {w : World} {K : PySem.W.Frag} {mg : Str → Option Value} {base : Heap} {f : Addr} {fd : FuncData} (T : Tx K mg) (c_Leg__serve : C8.Met P w K mg base 3 (He.ga K "Leg") "_serve" (spServe K) [])
    (F : FunD K "call_in" "Leg.call_in" (defArgs s_Leg_call_in) (defBody s_Leg_call_in) (defScope s_Leg_call_in) [] [] f fd) : FnOk P w K mg base CX0 4 f fd ["self", "letter"] (spCallIn K) := by
  refine F.ok sc_Leg_call_in (fun vs H Q E h => ?_) (fun cdv A outer s0 H vs Q E hr h => ?_)
  · obtain ⟨R, la, L, o, rfl, _⟩ := h
    rfl
  · obtain ⟨R, la, L, o, rfl, hc, hi, hl, ho, lk, hn, k⟩ := h
    refine ⟨_, PSs.nox (pss_cons (ps_fldC rfl T.cl_Leg T.na_Leg_state (pv 0) pe_str rfl) (pss_cons (ps_fldC rfl T.cl_Leg T.na_Leg_took_call (pv 0) pe_bl rfl) (pss_cons (ps_fldC rfl T.cl_Leg T.na_Leg_other_tag (pv 0) (pe_fldC rfl T.cl_Letter T.na_Letter_origin_tag (pv 1) rfl) rfl) (pss_one (ps_expr (C8.pe_mt c_Leg__serve hr (by decide) (pv 0) (pa_cons (pv 1) (pa_cons (pe_fldC rfl T.cl_Leg T.na_Leg_place (pv 0) rfl) pa_nil)))))))), ?_⟩
    refine ⟨_, rfl, R.p, R.dx, _, rfl, leg_p hc, sm, ?_⟩
    rw [put_state]
    have r1 := Run.leg (Run.refl hc) { R with st := "offered" } rfl rfl
    generalize upd H R.p (.ins (He.ga K "Leg") R.dx (legfl { R with st := "offered" })) = H1 at r1 ⊢
    have hp1 := leg_p r1.c
    refine ⟨_, rfl, R.p, R.dx, _, rfl, hp1, sm, ?_⟩
    rw [show putF "took_call" (V.bl true) (legfl { R with st := "offered" }) = legfl { R with st := "offered", took := true } from rfl]
    have r2 := Run.leg (R := { R with st := "offered" }) r1 { R with st := "offered", took := true } rfl rfl
    dsimp only at r2
    generalize upd H1 R.p (.ins (He.ga K "Leg") R.dx (legfl { R with st := "offered", took := true })) = H2 at r2 ⊢
    have hp2 := leg_p r2.c
    obtain ⟨dl, hl2⟩ := hl.im r2.im
    refine ⟨_, rfl, la, dl, _, _, rfl, hl2, rfl, _, rfl, R.p, R.dx, _, rfl, hp2, sm, ?_⟩
    rw [show putF "other_tag" (V.str L.otag) (legfl { R with st := "offered", took := true }) = legfl { R with st := "offered", took := true, ot := L.otag } from rfl]
    have r3 := Run.leg (R := { R with st := "offered", took := true }) r2 { R with st := "offered", took := true, ot := L.otag } rfl rfl
    dsimp only at r3
    generalize upd H2 R.p (.ins (He.ga K "Leg") R.dx (legfl { R with st := "offered", took := true, ot := L.otag })) = H3 at r3 ⊢
    have hp3 := leg_p r3.c
    have h := hi.im r3.im
    refine ⟨_, rfl, R.p, R.dx, _, rfl, hp3, rfl, _, rfl, _, rfl, R.p, R.dx, _, _, rfl, hp3, rfl, { R with st := "offered", took := true, ot := L.otag }, la, R.place, L, o, rfl, r3.c, ⟨h.ab, h.ci, h.si, h.wi, h.ei⟩, hl.im r3.im, ho.im r3.im, lk, hn, fun sp sdx al H4 r4 i4 => ?_⟩
    exact k sp sdx al H4 (r3.trans r4) i4
def spAccept (K : PySem.W.Frag) : Sp := fun vs H Q _ => ∃ (R : LegR) (post : List SvR) (s : SvR) (now : Int) (xo : V) (o : Option Off), vs = [.ref R.p, xo, .int now] ∧ Cells H (legM K R) ∧ LegI K H R ∧ LegW R ∧ OffX H xo o ∧ R.ss = s :: post ∧ R.st = "offered" ∧
  ∀ R' rows r ts H', RepR (talkR R now) [] post s now 20 xo o R' rows → Run H (legM K R) H' ((r, .lst (ts.map V.ref)) :: legM K R') → LegI K H' R' → RwI H' ts rows → Q (.ref r) H'
theorem ok_Leg_accept {P : Program} {w : World} {K : PySem.W.Frag} {mg : Str → Option Value} {base : Heap} {f : Addr} {fd : FuncData} (T : Tx K mg) (c_Leg__talk : C8.Met P w K mg base 1 (He.ga K "Leg") "_talk" (spTalk K) []) (c_Leg__reply_to_call_d1 : C8.Met P w K mg base 5 (He.ga K "Leg") "_reply_to_call" (spRepCall K) [])
    (F : FunD K "accept" "Leg.accept" (defArgs s_Leg_accept) (defBody s_Leg_accept) (defScope s_Leg_accept) [] [] f fd) : FnOk P w K mg base CX0 6 f fd ["self", "offer", "now"] (spAccept K) := by
  refine F.ok sc_Leg_accept (fun vs H Q E h => ?_) (fun cdv A outer s0 H vs Q E hr h => ?_)
  · obtain ⟨R, post, s, now, xo, o, rfl, _⟩ := h
    rfl
  · obtain ⟨R, post, s, now, xo, o, rfl, hc, hi, hw, hx, es, est, k⟩ := h
    have hp := leg_p hc
    refine ⟨_, PSs.nox (C8.pss_cut (ps_if (pt_cmpR op_ne (pe_fldC rfl T.cl_Leg T.na_Leg_state (pv 0) rfl) pe_str (nomark _)) (pss_one (ps_ret (pe_lst pa_nil))) pss_nil) (pss_cons (ps_expr (C8.pe_mt c_Leg__talk hr (by decide) (pv 0) (pa_cons (pv 2) pa_nil))) (pss_one (ps_ret (C8.pe_mt c_Leg__reply_to_call_d1 hr (by decide) (pv 0) (pa_cons (pv 2) (pa_cons (pgI T.g_YES) (pa_cons (pv 1) pa_nil)))))))), ?_⟩
    refine ⟨fun σ' H' => σ' = [some (.ref R.p), some xo, some (.int now)] ∧ H' = H, ⟨_, rfl, R.p, R.dx, _, _, rfl, hp, rfl, rfl, _, rfl, ?_⟩, ?_⟩
    · rw [vstr, decide_eq_true est]
      exact iteF ⟨rfl, rfl⟩
    rintro σ' H1 ⟨rfl, e9⟩
    obtain rfl : H = H1 := e9.symm
    refine ⟨_, rfl, R.p, R.dx, _, rfl, hp, rfl, _, rfl, R, now, rfl, hc, fun H2 r2 => ?_⟩
    have h := hi.im r2.im
    have hp2 := leg_p r2.c
    refine ⟨_, rfl, R.p, R.dx, _, rfl, hp2, rfl, _, rfl, _, rfl, talkR R now, post, s, now, 20, xo, o, rfl, r2.c, ⟨h.ab, h.ci, h.si, h.wi, h.ei⟩, ⟨hw.tag, hw.call, hw.own, hw.other, hw.ot, hw.seq, hw.req⟩, hx.im r2.im, es, by decide, by decide, fun R' rows r ts H3 hr3 r3 i3 w3 => ?_⟩
    exact k R' rows r ts H3 hr3 (r2.trans r3) i3 w3
def spRefuse (K : PySem.W.Frag) : Sp := fun vs H Q _ => ∃ (R : LegR) (post : List SvR) (s : SvR) (code now : Int), vs = [.ref R.p, .int code, .int now] ∧ Cells H (legM K R) ∧ LegI K H R ∧ LegW R ∧ R.ss = s :: post ∧ R.st = "offered" ∧ R.es.length < 100000 ∧ 0 ≤ code ∧ code ≤ 99 ∧
  ∀ wt t R' rows r ts H', RepR (overR R wt t "refused" code) [] post s now code .non none R' rows → Run H (legM K R) H' ((r, .lst (ts.map V.ref)) :: legM K R') → LegI K H' R' → RwI H' ts rows → Q (.ref r) H'
theorem ok_Leg_refuse {P : Program} {w : World} {K : PySem.W.Frag} {mg : Str → Option Value} {base : Heap} {f : Addr} {fd : FuncData} (T : Tx K mg) (c_Leg__end : C8.Met P w K mg base 1 (He.ga K "Leg") "_end" (spEnd K) []) (c_Leg__reply_to_call : C8.Met P w K mg base 5 (He.ga K "Leg") "_reply_to_call" (spRepCall K) [(V.non)])
    (F : FunD K "refuse" "Leg.refuse" (defArgs s_Leg_refuse) (defBody s_Leg_refuse) (defScope s_Leg_refuse) [] [] f fd) : FnOk P w K mg base CX0 6 f fd ["self", "code", "now"] (spRefuse K) := by
  refine F.ok sc_Leg_refuse (fun vs H Q E h => ?_) (fun cdv A outer s0 H vs Q E hr h => ?_)
  · obtain ⟨R, post, s, code, now, rfl, _⟩ := h
    rfl
  · obtain ⟨R, post, s, code, now, rfl, hc, hi, hw, es, est, hn, c0, c1, k⟩ := h
    have hp := leg_p hc
    refine ⟨_, PSs.nox (C8.pss_cut (ps_if (pt_cmpR op_ne (pe_fldC rfl T.cl_Leg T.na_Leg_state (pv 0) rfl) pe_str (nomark _)) (pss_one (ps_ret (pe_lst pa_nil))) pss_nil) (pss_cons (ps_expr (C8.pe_mt c_Leg__end hr (by decide) (pv 0) (pa_cons pe_str (pa_cons (pv 1) pa_nil)))) (pss_one (ps_ret (C8.pe_mt c_Leg__reply_to_call hr (by decide) (pv 0) (pa_cons (pv 2) (pa_cons (pv 1) pa_nil))))))), ?_⟩
    refine ⟨fun σ' H' => σ' = [some (.ref R.p), some (.int code), some (.int now)] ∧ H' = H, ⟨_, rfl, R.p, R.dx, _, _, rfl, hp, rfl, rfl, _, rfl, ?_⟩, ?_⟩
    · rw [vstr, decide_eq_true est]
      exact iteF ⟨rfl, rfl⟩
    rintro σ' H1 ⟨rfl, e9⟩
    obtain rfl : H = H1 := e9.symm
    refine ⟨_, rfl, R.p, R.dx, _, rfl, hp, rfl, _, rfl, R, "refused", code, rfl, hc, hi, hn, fun wt t H2 r2 i2 => ?_⟩
    have hp2 := leg_p r2.c
    refine ⟨_, rfl, R.p, R.dx, _, rfl, hp2, rfl, _, rfl, _, rfl, overR R wt t "refused" code, post, s, now, code, .non, none, rfl, r2.c, i2, ⟨hw.tag, hw.call, hw.own, hw.other, hw.ot, hw.seq, hw.req⟩, offX_none H2, es, c0, c1, fun R' rows r ts H3 hr3 r3 i3 w3 => ?_⟩
    exact k wt t R' rows r ts H3 hr3 (r2.trans r3) i3 w3
def spHangUp (K : PySem.W.Frag) : Sp := fun vs H Q _ => ∃ (R : LegR) (now : Int), vs = [.ref R.p, .int now] ∧ Cells H (legM K R) ∧ LegI K H R ∧ LegW R ∧ R.st = "talking" ∧ R.es.length < 100000 ∧ R.seq + 1 < 1000000000 ∧ R.req + 1 < 1000000000 ∧ R.cs.length < 100000 ∧
  ∀ wt t cp cdx la wa wx ka r (ts : List Addr) H', Run H (legM K R) H' ((r, .lst (ts.map V.ref)) :: legM K (sentR (overR R wt t "hung" 20) (newC cp cdx la wa wx ka (sendL R "END" .non .non) none R.place R.first now))) → LegI K H' (sentR (overR R wt t "hung" 20) (newC cp cdx la wa wx ka (sendL R "END" .non .non) none R.place R.first now)) → Q (.ref r) H'
theorem ok_Leg_hang_up {P : Program} {w : World} {K : PySem.W.Frag} {mg : Str → Option Value} {base : Heap} {f : Addr} {fd : FuncData} (T : Tx K mg) (c_Leg_refuse : C8.Met P w K mg base 6 (He.ga K "Leg") "refuse" (spRefuse K) []) (c_Leg__end : C8.Met P w K mg base 1 (He.ga K "Leg") "_end" (spEnd K) []) (c_Leg__send : C8.Met P w K mg base 5 (He.ga K "Leg") "_send" (spSend K) [(V.non), (V.non)]) (c_Leg__stop_call : C8.Met P w K mg base 4 (He.ga K "Leg") "_stop_call" (spStopCall K) [])
    (F : FunD K "hang_up" "Leg.hang_up" (defArgs s_Leg_hang_up) (defBody s_Leg_hang_up) (defScope s_Leg_hang_up) [] [] f fd) : FnOk P w K mg base CX0 7 f fd ["self", "now"] (spHangUp K) := by
  refine F.ok sc_Leg_hang_up (fun vs H Q E h => ?_) (fun cdv A outer s0 H vs Q E hr h => ?_)
  · obtain ⟨R, now, rfl, _⟩ := h
    rfl
  · obtain ⟨R, now, rfl, hc, hi, hw, est, hn, h1, h2, hcn, k⟩ := h
    have hp := leg_p hc
    refine ⟨_, PSs.nox (C8.pss_cut (ps_if (pt_cmpR op_eq (pe_fldC rfl T.cl_Leg T.na_Leg_state (pv 0) rfl) pe_str (nomark _)) (pss_one (ps_ret (C8.pe_mt c_Leg_refuse hr (by decide) (pv 0) (pa_cons (pgI T.g_BUSY) (pa_cons (pv 1) pa_nil))))) pss_nil) (C8.pss_cut (ps_if (pt_cmpR op_eq (pe_fldC rfl T.cl_Leg T.na_Leg_state (pv 0) rfl) pe_str (nomark _)) (pss_cons (ps_expr (C8.pe_mt c_Leg__end hr (by decide) (pv 0) (pa_cons pe_str (pa_cons (pgI T.g_YES) pa_nil)))) (pss_one (ps_ret (C8.pe_mt c_Leg__send hr (by decide) (pv 0) (pa_cons pe_str (pa_cons (pv 1) pa_nil)))))) pss_nil) (C8.pss_cut (ps_if (pt_cmpR op_in_seq (pe_fldC rfl T.cl_Leg T.na_Leg_state (pv 0) rfl) (pgR T.g_BEFORE_TALKING) (by with_unfolding_all rfl)) (pss_cons (ps_expr (C8.pe_mt c_Leg__stop_call hr (by decide) (pv 0) (pa_cons (pv 1) pa_nil))) (pss_cons (ps_expr (C8.pe_mt c_Leg__end hr (by decide) (pv 0) (pa_cons pe_str (pa_cons (pgI T.g_STOPPED) pa_nil)))) (pss_one (ps_ret (C8.pe_mt c_Leg__send hr (by decide) (pv 0) (pa_cons pe_str (pa_cons (pv 1) pa_nil))))))) pss_nil) (pss_one (ps_ret (pe_lst pa_nil)))))), ?_⟩
    refine ⟨fun σ' H' => σ' = [some (.ref R.p), some (.int now)] ∧ H' = H, ⟨_, rfl, R.p, R.dx, _, _, rfl, hp, rfl, rfl, _, rfl, ?_⟩, ?_⟩
    · rw [vstr, decide_eq_false (by rw [est]; decide +kernel)]
      exact iteF ⟨rfl, rfl⟩
    rintro σ' H1 ⟨rfl, e9⟩
    obtain rfl : H = H1 := e9.symm
    refine ⟨fun _ _ => False, ⟨_, rfl, R.p, R.dx, _, _, rfl, hp, rfl, rfl, _, rfl, ?_⟩, fun _ _ z => z.elim⟩
    rw [vstr, decide_eq_true est]
    refine iteT ⟨_, rfl, R.p, R.dx, _, rfl, hp, rfl, R, "hung", 20, rfl, hc, hi, hn, fun wt t H2 r2 i2 => ?_⟩
    have hp2 := leg_p r2.c
    refine ⟨_, rfl, R.p, R.dx, _, rfl, hp2, rfl, _, rfl, overR R wt t "hung" 20, "END", now, .non, .non, none, rfl, r2.c, i2, offX_none H2, ⟨⟨hw.tag, hw.call, hw.own, hw.other, hw.ot, hw.seq, hw.req⟩, k_end_ok, .inl rfl, h1, h2⟩, hcn, fun cp cdx la wa wx ka r ts H3 r3 i3 w3 => ?_⟩
    exact k wt t cp cdx la wa wx ka r ts H3 (r2.trans r3) i3

end K7
set_option maxHeartbeats 4000000
set_option pp.maxSteps 400
namespace K7
open PySem PySem.Spec PyProof.Rows L2 SX TK TKS TKC
open C8 (pe_c)
/-! ### the law: legs, letters, what is sent -/
theorem Keep.im {H H' : Hp} {s c : Addr} (st : StAt H s c) (k : Keep H H' s c) : Im H H' := fun b o e i => by
  obtain ⟨_, ⟨n, g1⟩, ns, g2, _⟩ := st
  exact k b o e (fun q => by rw [q, g1] at e; cases e; cases i) (fun q => by rw [q, g2] at e; cases e; cases i)
theorem Cells.keep {H H' : Hp} {s c : Addr} {M : List Cell} (h : Cells H M) (k : Keep H H' s c) (hs : s ∉ keys M) (hc : c ∉ keys M) : Cells H' M := ⟨h.nd, fun q m => k _ _ (h.at_ q m) (fun e => hs (e ▸ mem_keys m)) (fun e => hc (e ▸ mem_keys m))⟩
/-- the law's draws stand outside of the cells; what stood in H0 stands, but for them -/
structure StK (H0 H : Hp) (s c : Addr) (M : List Cell) : Prop where
  st : StAt H s c
  s_ : s ∉ keys M
  c_ : c ∉ keys M
  kp : Keep H0 H s c
  fr : ∀ x ∈ keys M, H0 x = none
theorem StK.run {H0 H H' : Hp} {s c : Addr} {M M' : List Cell} (h : StK H0 H s c M) (r : Run H M H' M') : StK H0 H' s c M' := by
  obtain ⟨ne, ⟨n, g1⟩, ns, g2, l⟩ := id h.st
  refine ⟨⟨ne, ⟨n, r.u.fr _ _ g1 fun m => absurd m h.s_⟩, ns, r.u.fr _ _ g2 fun m => absurd m h.c_, l⟩, fun m => ?_, fun m => ?_, fun b o e n1 n2 => ?_, fun x m => ?_⟩
  · rcases r.u.nw _ m with q | q
    · exact h.s_ q
    · rw [g1] at q; cases q
  · rcases r.u.nw _ m with q | q
    · exact h.c_ q
    · rw [g2] at q; cases q
  · refine r.u.fr _ _ (h.kp b o e n1 n2) fun m => ?_
    rw [h.fr b m] at e
    cases e
  · rcases r.u.nw _ m with q | q
    · exact h.fr x q
    · exact h.kp.none q (fun e => by rw [e, g1] at q; cases q) (fun e => by rw [e, g2] at q; cases q)
theorem StK.keep {H0 H H' : Hp} {s c : Addr} {M : List Cell} (h : StK H0 H s c M) (st : StAt H' s c) (k : Keep H H' s c) : StK H0 H' s c M := ⟨st, h.s_, h.c_, h.kp.trans k, h.fr⟩
theorem StK.cells {H0 H H' : Hp} {s c : Addr} {M : List Cell} (h : StK H0 H s c M) (k : Keep H H' s c) (d : Cells H M) : Cells H' M := Cells.keep d k h.s_ h.c_
theorem StK.same {H0 H H' : Hp} {s c : Addr} {M : List Cell} (h : StK H0 H s c M) (k : Same H H') : StK H0 H' s c M := h.keep (h.st.same k) (Keep.of_same k)
theorem StK.tail {H0 H : Hp} {s c : Addr} {q : Cell} {M : List Cell} (h : StK H0 H s c (q :: M)) : StK H0 H s c M := ⟨h.st, fun m => h.s_ (List.mem_cons_of_mem _ m), fun m => h.c_ (List.mem_cons_of_mem _ m), h.kp, fun x m => h.fr x (List.mem_cons_of_mem _ m)⟩
theorem Cells.tail {H : Hp} {q : Cell} {M : List Cell} (h : Cells H (q :: M)) : Cells H M := h.sub (List.sublist_cons_self _ _)
def ableO : Off := ⟨40, "both", ["a", "b"]⟩
def legR0 (p dx cl sv wt ev : Addr) (ab : V) (seq : Int) : LegR := newR p dx cl sv wt ev "x1" "c1" "ann@x" "bob@x" "q" ab ableO 2 9 seq
def spLLeg (K : PySem.W.Frag) : Sp := fun vs H Q _ => ∃ (s c : Addr), vs = [.ref s] ∧ StAt H s c ∧ ∀ p dx cl sv wt ev ab seq H', 0 ≤ seq → seq < 5 → Cells H' (legM K (legR0 p dx cl sv wt ev ab seq)) → LegI K H' (legR0 p dx cl sv wt ev ab seq) → StK H H' s c (legM K (legR0 p dx cl sv wt ev ab seq)) → Q (.ref p) H'
theorem ok_law_leg {P : Program} {w : World} {K : PySem.W.Frag} {mg : Str → Option Value} {base : Heap} {f : Addr} {fd : FuncData} (T : Tx K mg) (c_mk_Leg_f : MakK P w K mg base 1 "Leg" (He.ga K "Leg") (spLegInit K) 0 ["tag", "call", "own", "other", "place", "able", "first", "check", "seq"] (fun vs zs => vs ++ (((zs.drop 0).take 9)))) (c_law_draw : C8.Cal P w K mg base 1 "_law_draw" spDraw [])
    (F : FunD K "_law_leg" "_law_leg" (defArgs s_law_leg) (defBody s_law_leg) (defScope s_law_leg) [] [] f fd) : FnOk P w K mg base CX0 3 f fd ["state"] (spLLeg K) := by
  refine F.ok sc_law_leg (fun vs H Q E h => ?_) (fun cdv A outer s0 H vs Q E hr h => ?_)
  · obtain ⟨s, c, rfl, _⟩ := h
    rfl
  · obtain ⟨s, c, rfl, st, k⟩ := h
    refine ⟨_, PSs.nox (pss_one (ps_ret (pe_mkK0 c_mk_Leg_f hr (by decide) rfl (pk_cons pe_str (pk_cons pe_str (pk_cons pe_str (pk_cons pe_str (pk_cons pe_str (pk_cons (pe_tup (pa_cons pe_int (pa_cons pe_str (pa_cons (pe_tup (pa_cons pe_str (pa_cons pe_str pa_nil))) pa_nil)))) (pk_cons pe_int (pk_cons pe_int (pk_cons (pe_c c_law_draw hr (by decide) rfl (pa_cons (pv 0) (pa_cons pe_int pa_nil))) pk_nil)))))))))))), ?_⟩
    refine ⟨by show 2 ≤ sizeLine; decide, fun f hf => ⟨by show 3 ≤ sizeLine; decide, fun o ho => ?_⟩⟩
    have s1 := (same_upd (o := .tup [.str "a", .str "b"]) hf).trans (same_upd (o := .tup [.int 40, .str "both", .ref f]) ho)
    have fo : f ≠ o := fun e => by rw [← e, upd_same] at ho; cases ho
    have hab : OffAt (upd (upd H f (.tup [.str "a", .str "b"])) o (.tup [.int 40, .str "both", .ref f])) (.ref o) ableO := ⟨o, f, rfl, upd_same, (upd_ne fo).trans upd_same⟩
    have st1 := st.same s1
    generalize (upd (upd H f (.tup [.str "a", .str "b"])) o (.tup [.int 40, .str "both", .ref f])) = H1 at s1 hab st1 ⊢
    refine ⟨_, rfl, s, c, 5, rfl, st1, by decide, by decide, fun q H2 q0 q1 st2 kp2 => ⟨rfl, rfl, fun x dy hx hdy hne => ?_⟩⟩
    have im2 := Keep.im st1 kp2
    have so := same_own (C := He.ga K "Leg") (fs := []) hx hdy
    have ro := (Run.refl (Cells.nil H2)).own (o := .ins (He.ga K "Leg") dy []) hx hdy hne.symm
    refine ⟨x, dy, "x1", "c1", "ann@x", "bob@x", "q", .ref o, 2, 9, q, rfl, upd_same, fun cl sv wt ev H3 rI => ⟨rfl, ?_⟩⟩
    have r3 := ro.trans (rI ableO)
    have so3 : StK H H2 s c [] := ⟨st2, (fun m => nomatch m), (fun m => nomatch m), (Keep.of_same s1).trans kp2, fun _ m => nomatch m⟩
    have st3 := so3.run r3
    have im3 : Im H1 H3 := im2.trans r3.im
    exact k x dy cl sv wt ev (.ref o) q H3 q0 q1 r3.c ⟨hab.im im3, (fun _ m => nomatch m), (fun _ m => nomatch m), (fun _ m => nomatch m), fun _ m => nomatch m⟩ st3
/-! letters -/
def wayL (seq : Int) : Str := ("y1w" : Str) ++ numS seq
def lawL (verb : Str) (seq : Int) (xo xg : V) : Ltr := ⟨verb, "c1", "bob@x", "y1", "ann@x", "x1", seq, wayL seq, .non, xo, .non, xg⟩
theorem y_len : ("y1w" : Str).length = 3 := by decide +kernel
def spLLet (K : PySem.W.Frag) : Sp := fun vs H Q _ => ∃ (verb : Str) (seq : Int) (xo xg : V), vs = [.str verb, .int seq, xo, xg] ∧ 0 ≤ seq ∧ seq < 1000000 ∧ ∀ a H', Same H H' → H a = none → LetAt K H' a (lawL verb seq xo xg) → Q (.ref a) H'
theorem ok_law_letter {P : Program} {w : World} {K : PySem.W.Frag} {mg : Str → Option Value} {base : Heap} {f : Addr} {fd : FuncData} (T : Tx K mg) (c_mk_Letter_d : MakK P w K mg base 1 "Letter" (He.ga K "Letter") (spLetInit K) 0 ["verb", "call", "origin", "origin_tag", "target", "target_tag", "seq", "way", "offer", "goal"] (fun vs zs => vs ++ ((((zs.drop 0).take 8) ++ (((([(V.non), (V.non)] : List V).drop 0).take 1) ++ (((zs.drop 8).take 1) ++ (((([(V.non), (V.non)] : List V).drop 1).take 1) ++ ((zs.drop 9).take 1))))))))
    (F : FunD K "_law_letter" "_law_letter" (defArgs s_law_letter) (defBody s_law_letter) (defScope s_law_letter) [] [] f fd) : FnOk P w K mg base CX0 3 f fd ["verb", "seq", "offer", "goal"] (spLLet K) := by
  refine F.ok sc_law_letter (fun vs H Q E h => ?_) (fun cdv A outer s0 H vs Q E hr h => ?_)
  · obtain ⟨verb, seq, xo, xg, rfl, _⟩ := h
    rfl
  · obtain ⟨verb, seq, xo, xg, rfl, h0, h1, k⟩ := h
    have n1 := numS_len (i := seq) (by omega)
    refine ⟨_, PSs.nox (pss_one (ps_ret (pe_mkK0 c_mk_Letter_d hr (by decide) rfl (pk_cons (pv 0) (pk_cons pe_str (pk_cons pe_str (pk_cons pe_str (pk_cons pe_str (pk_cons pe_str (pk_cons (pv 1) (pk_cons (pe_op op_add_str pe_str (pe_callTy call_str_int rfl T.f_str (by decide +kernel) (pa_cons (pv 1) pa_nil))) (pk_cons (pv 2) (pk_cons (pv 3) pk_nil))))))))))))), ?_⟩
    refine ⟨_, rfl, _, rfl, _, rfl, seq, rfl, numS_log (by omega), _, _, rfl, rfl, (by show ("y1w" : Str).length + (numS seq).length ≤ sizeLine; rw [y_len]; exact Nat.le_trans (by omega : _ ≤ 20) (by decide)), _, rfl, _, rfl, rfl, rfl, fun x dy hx hdy hne => ?_⟩
    refine ⟨x, dy, lawL verb seq xo xg, rfl, upd_same, rfl, ?_⟩
    rw [upd_upd]
    exact k x _ (same_own hx hdy) hx ⟨dy, upd_same⟩
def firstL (xo : V) : Ltr := ⟨"CALL", "c1", "bob@x", "y1", "ann@x", "", 3, "first", .non, xo, .non, .non⟩
def spLFirst (K : PySem.W.Frag) : Sp := fun vs H Q _ => ∃ (xo : V), vs = [xo] ∧ ∀ a H', Same H H' → H a = none → LetAt K H' a (firstL xo) → Q (.ref a) H'
theorem ok_law_first {P : Program} {w : World} {K : PySem.W.Frag} {mg : Str → Option Value} {base : Heap} {f : Addr} {fd : FuncData} (T : Tx K mg) (c_mk_Letter_e : MakK P w K mg base 1 "Letter" (He.ga K "Letter") (spLetInit K) 0 ["verb", "call", "origin", "origin_tag", "target", "target_tag", "seq", "way", "offer"] (fun vs zs => vs ++ ((((zs.drop 0).take 8) ++ (((([(V.non), (V.non), (V.non)] : List V).drop 0).take 1) ++ (((zs.drop 8).take 1) ++ ((([(V.non), (V.non), (V.non)] : List V).drop 1).take 2)))))))
    (F : FunD K "_law_first" "_law_first" (defArgs s_law_first) (defBody s_law_first) (defScope s_law_first) [] [] f fd) : FnOk P w K mg base CX0 3 f fd ["offer"] (spLFirst K) := by
  refine F.ok sc_law_first (fun vs H Q E h => ?_) (fun cdv A outer s0 H vs Q E hr h => ?_)
  · obtain ⟨xo, rfl, _⟩ := h
    rfl
  · obtain ⟨xo, rfl, k⟩ := h
    refine ⟨_, PSs.nox (pss_one (ps_ret (pe_mkK0 c_mk_Letter_e hr (by decide) rfl (pk_cons pe_str (pk_cons pe_str (pk_cons pe_str (pk_cons pe_str (pk_cons pe_str (pk_cons pe_str (pk_cons pe_int (pk_cons pe_str (pk_cons (pv 0) pk_nil)))))))))))), ?_⟩
    refine ⟨_, rfl, rfl, rfl, fun x dy hx hdy hne => ?_⟩
    refine ⟨x, dy, firstL xo, rfl, upd_same, rfl, ?_⟩
    rw [upd_upd]
    exact k x _ (same_own hx hdy) hx ⟨dy, upd_same⟩
/-! what is sent, read -/
abbrev GL := Ltr × Option Off × Option Int
def rowG (g : GL) : Str × Str := ("q", textOf (linesX g.1 g.2.1))
def LtsI (K : PySem.W.Frag) (H : Hp) : List Addr → List GL → Prop
  | [], [] => True
  | b :: bs, g :: gs => (∃ x, LetAt K H b { g.1 with offer := x } ∧ OffO H x g.2.1) ∧ LtsI K H bs gs
  | _, _ => False
theorem LtsI.im {K : PySem.W.Frag} {H H' : Hp} (s : Im H H') : ∀ {bs : List Addr} {gs : List GL}, LtsI K H bs gs → LtsI K H' bs gs
  | [], [], _ => trivial
  | _ :: _, _ :: _, ⟨⟨x, h1, h2⟩, h⟩ => ⟨⟨x, h1.im s, h2.im s⟩, h.im s⟩
  | [], _ :: _, h => h.elim
  | _ :: _, [], h => h.elim
theorem LtsI.len {K : PySem.W.Frag} {H : Hp} : ∀ {bs : List Addr} {gs : List GL}, LtsI K H bs gs → bs.length = gs.length
  | [], [], _ => rfl
  | _ :: _, _ :: _, h => congrArg (· + 1) h.2.len
  | [], _ :: _, h => h.elim
  | _ :: _, [], h => h.elim
theorem LtsI.snoc {K : PySem.W.Frag} {H : Hp} {b : Addr} {g : GL} (k : ∃ x, LetAt K H b { g.1 with offer := x } ∧ OffO H x g.2.1) : ∀ {bs : List Addr} {gs : List GL}, LtsI K H bs gs → LtsI K H (bs ++ [b]) (gs ++ [g])
  | [], [], _ => ⟨k, trivial⟩
  | _ :: _, _ :: _, h => ⟨h.1, LtsI.snoc k h.2⟩
  | [], _ :: _, h => h.elim
  | _ :: _, [], h => h.elim
theorem RwI.at {H : Hp} : ∀ {ts : List Addr} {zs : List (Str × Str)} (i : Nat) (t : Addr), RwI H ts zs → ts[i]? = some t → ∃ z, zs[i]? = some z ∧ H t = some (.tup [.str z.1, .str z.2])
  | t' :: _, z :: _, 0, t, h, e => ⟨z, rfl, by cases e; exact h.1⟩
  | _ :: _, _ :: _, i + 1, t, h, e => RwI.at i t h.2 e
  | [], [], _, _, _, e => nomatch e
  | [], _ :: _, _, _, h, _ => h.elim
  | _ :: _, [], _, _, h, _ => h.elim
def spSent (K : PySem.W.Frag) : Sp := fun vs H Q _ => ∃ (r : Addr) (ts : List Addr) (gs : List GL), vs = [.ref r] ∧ H r = some (.lst (ts.map V.ref)) ∧ RwI H ts (gs.map rowG) ∧ (∀ g ∈ gs, GLet g.1 g.2.1 g.2.2) ∧ gs.length ≤ 100 ∧
  ∀ D bs H', Same H H' → H D = none → H' D = some (.lst (bs.map V.ref)) → LtsI K H' bs gs → Q (.ref D) H'
theorem ok_law_sent {P : Program} {w : World} {K : PySem.W.Frag} {mg : Str → Option Value} {base : Heap} {f : Addr} {fd : FuncData} (T : Tx K mg) (c_read : C8.Cal P w K mg base 7 "read" (spReadL K) [])
    (F : FunD K "_law_sent" "_law_sent" (defArgs s_law_sent) (defBody s_law_sent) (defScope s_law_sent) [] [] f fd) : FnOk P w K mg base CX0 8 f fd ["rows"] (spSent K) := by
  refine F.ok sc_law_sent (fun vs H Q E h => ?_) (fun cdv A outer s0 H vs Q E hr h => ?_)
  · obtain ⟨r, ts, gs, rfl, _⟩ := h
    rfl
  · obtain ⟨r, ts, gs, rfl, hr0, hw, hg, hn, k⟩ := h
    have hl : ts.length = gs.length := by rw [hw.len, List.length_map]
    refine ⟨_, PSs.nox (pss_one (ps_ret (pe_lc (own := [("place", 1), ("text", 2)]) rfl sc_law_sent.nd (pi_list (pv 0)) (blkOk_by (own := [("place", 1), ("text", 2)]) (N := ["rows", "place", "text"]) (sc := defScope s_law_sent) (by decide +kernel)) (fun _ _ _ _ _ => TKE.pg_tupK (n := 2) K rfl rfl (pgs_cons (pg_name (i := 1) sc_law_sent.nd rfl (Or.inl rfl)) (pgs_cons (pg_name (i := 2) sc_law_sent.nd rfl (Or.inl rfl)) pgs_nil))) (fun _ _ _ _ _ => pts_one (pt_cmpR op_eq (pv 1) pe_str (nomark _))) (fun _ _ _ _ _ => (pe_c c_read hr (by decide) rfl (pa_cons (pv 2) pa_nil)))))), ?_⟩
    refine ⟨_, rfl, r, rfl, ⟨_, SqL.of hr0⟩, fun D hD => ?_⟩
    refine lc_it walk_list (fun i H' => Same H H' ∧ ∃ bs : List Addr, bs.length = i ∧ H' D = some (.lst (bs.map V.ref)) ∧ LtsI K H' bs (gs.take i)) ⟨same_upd hD, [], rfl, upd_same, trivial⟩ (fun i H' _ q => SqL.of (q.1 _ _ hr0)) (fun i x H1 H2 hi p y => ?_) (fun H1 p => ?_)
    · obtain ⟨s1, bs, hb, e1, l1⟩ := p
      obtain ⟨rfl, hx⟩ := y
      rw [List.getElem?_map] at hx
      obtain ⟨t, ht, rfl⟩ := Option.map_eq_some_iff.mp hx
      obtain ⟨z, hz, et⟩ := RwI.at i t hw ht
      rw [List.getElem?_map] at hz
      obtain ⟨g, hgi, rfl⟩ := Option.map_eq_some_iff.mp hz
      have et1 := s1 _ _ et
      refine ⟨t, _, rfl, SqT.of et1, rfl, _, _, rfl, _, _, rfl, rfl, ?_⟩
      refine ⟨rfl, _, rfl, rfl, _, rfl, ?_⟩
      refine iteT ?_
      refine ⟨_, rfl, g.1, g.2.1, g.2.2, rfl, hg g (List.mem_of_getElem? hgi), fun a x H3 s3 ha ho hle => ?_⟩
      have s13 := s1.trans s3
      have e3 := s3 _ _ e1
      have aD : a ≠ D := fun e => by rw [e, e1] at ha; cases ha
      refine ⟨_, e3, ?_, TK.Same.upd_of s13 hD, bs ++ [a], ?_, ?_, ?_⟩
      · rw [List.length_map, hb]
        rw [List.length_map, hl] at hi
        exact Nat.lt_of_lt_of_le hi (Nat.le_trans hn (by decide))
      · rw [List.length_append, hb]
        rfl
      · rw [upd_same, List.map_append]
        rfl
      · have im3 : Im H3 (upd H3 D (.lst (bs.map V.ref ++ [.ref a]))) := fun b o e i => by
          by_cases q : b = D
          · rw [q, e3] at e; cases e; cases i
          · rw [upd_ne q]; exact e
        obtain ⟨hlt, eg⟩ := List.getElem?_eq_some_iff.mp hgi
        rw [List.take_succ_eq_append_getElem hlt, eg]
        exact LtsI.snoc ⟨x, hle.im im3, ho.im im3⟩ (l1.im ((Im.of_same s3).trans im3))
    · obtain ⟨s1, bs, hb, e1, l1⟩ := p
      rw [List.length_map, hl, List.take_length] at l1
      exact k D bs H1 s1 hD e1 l1

end K7
set_option maxHeartbeats 4000000
set_option pp.maxSteps 400
namespace K7
open PySem PySem.Spec PyProof.Rows L2 SX TK TKS TKC
open C8 (pe_c)
/-- the offers that the law draws -/
structure GoodO (o : Off) : Prop where
  p0 : 0 ≤ o.port
  p1 : o.port ≤ 65535
  m : o.mode ∈ modesL
  ne : o.fs ≠ []
  n : o.fs.length ≤ 6
  nd : o.fs.Nodup
  f : ∀ z ∈ o.fs, nameB z = true
theorem nm_plain : ∀ c ∈ TL.tl zNM, c ≠ 44 := by decide +kernel
theorem name_nocomma {z : Str} (h : nameB z = true) : 44 ∉ TL.tl z := fun m => by
  unfold nameB at h
  rw [Bool.and_eq_true] at h
  exact nm_plain _ ((consB_len h.1).2.2 _ m) rfl
theorem name_ok {z : Str} (h : nameB z = true) : PyData.strOk z = true := ok_iff.mpr (name_okS h)
theorem modes_lenS : ∀ z ∈ modesL, z.length ≤ 16 ∧ 10 ∉ TL.tl z ∧ PyData.strOk z = true := by decide +kernel
theorem GoodO.ok {o : Off} (g : GoodO o) : OffOk o := ⟨g.p0, g.p1, (modes_lenS _ g.m).1, g.n, fun z h => (name_free (g.f z h)).2.2⟩
theorem fmt_goodO {o : Off} (g : GoodO o) : fmtO (Txt.join "," o.fs) = some o.fs := by
  have e : Txt.split (Txt.join "," o.fs) "," = o.fs := TL.split_join (y := ",") (s := 44) (S := []) (by decide +kernel) (by decide +kernel) g.ne fun p hp => name_nocomma (g.f p hp)
  unfold fmtO
  rw [e, if_pos ⟨g.n, g.nd⟩, if_pos (List.all_eq_true.mpr g.f)]
theorem fmt_free {o : Off} (g : GoodO o) : 32 ∉ TL.tl (Txt.join "," o.fs) ∧ 10 ∉ TL.tl (Txt.join "," o.fs) := by
  rw [show Txt.join "," o.fs = Str.join "," o.fs from TL.join_eq _ _, TL.tl_join]
  refine ⟨joinL_free (by decide +kernel) _ fun p hp => ?_, joinL_free (by decide +kernel) _ fun p hp => ?_⟩
  · obtain ⟨z, hz, rfl⟩ := List.mem_map.mp hp
    exact (name_free (g.f z hz)).1
  · obtain ⟨z, hz, rfl⟩ := List.mem_map.mp hp
    exact (name_free (g.f z hz)).2.1
theorem words_cutO {o : Off} (g : GoodO o) : Txt.split (wordsS o) " " = [Str.ofString (toString o.port), o.mode, Txt.join "," o.fs] := by
  refine cut_sp (by simp) fun p hp => ?_
  simp only [List.mem_cons, List.not_mem_nil, or_false] at hp
  rcases hp with rfl | rfl | rfl
  · exact str_noblank g.p0
  · exact modes_plain _ g.m
  · exact (fmt_free g).1
theorem GoodO.off {o : Off} (g : GoodO o) : readO (Txt.split (wordsS o) " ") = some o ∧ OffOk o ∧ 10 ∉ TL.tl (wordsS o) ∧ PyData.strOk (wordsS o) = true ∧ (∀ z ∈ Txt.split (wordsS o) " ", z.length ≤ 1000) ∧ (Txt.split (wordsS o) " ").length ≤ 999 := by
  have p1 := g.p1
  obtain ⟨j1, j2⟩ := g.ok.join
  obtain ⟨t1, t2⟩ := g.ok.str
  obtain ⟨m1, m2, m3⟩ := modes_lenS _ g.m
  rw [words_cutO g]
  refine ⟨by rw [readO_eq, fmt_goodO g, num_back g.p0 g.p1 (by omega), readP_ok, if_pos g.m], g.ok, ?_, ?_, ?_, by simp⟩
  · unfold wordsS
    rw [show ∀ l, Txt.join " " l = Str.join " " l from fun l => TL.join_eq _ _, TL.tl_join]
    refine joinL_free (by decide +kernel) _ fun p hp => ?_
    obtain ⟨z, hz, rfl⟩ := List.mem_map.mp hp
    simp only [List.mem_cons, List.not_mem_nil, or_false] at hz
    rcases hz with rfl | rfl | rfl
    · exact (num_free g.p0).2
    · exact m2
    · exact (fmt_free g).2
  · refine ok_join (by decide +kernel) fun z hz => ?_
    simp only [List.mem_cons, List.not_mem_nil, or_false] at hz
    rcases hz with rfl | rfl | rfl
    · exact ok_num g.p0
    · exact m3
    · exact ok_join (by decide +kernel) fun z hz => name_ok (g.f z hz)
  · intro z hz
    simp only [List.mem_cons, List.not_mem_nil, or_false] at hz
    rcases hz with rfl | rfl | rfl
    · omega
    · omega
    · omega
/-! ### the law: a leg made -/
inductive Kd | calling | ringing | offered | called | cout | refused | ended
  deriving DecidableEq
def Kd.s : Kd → Str | .calling => "calling" | .ringing => "ringing" | .offered => "offered" | .called => "called" | .cout => "calling out" | .refused => "refused" | .ended => "ended"
def Kd.st : Kd → Str | .calling => "calling" | .ringing => "ringing" | .offered => "offered" | .called => "talking" | .cout => "talking" | .refused => "over" | .ended => "over"
def Kd.inn : Kd → Bool | .offered => true | .called => true | .refused => true | _ => false
def Kd.low (k : Kd) : Int := if k.inn = true then 3 else -1
theorem kd_is (a b : Kd) : decide (V.str a.s = V.str b.s) = decide (a = b) := by cases a <;> cases b <;> rfl
def o7 : Off := ⟨7, "both", ["b"]⟩
def o40 : Off := ⟨40, "both", ["b"]⟩
theorem o7_good : GoodO o7 := ⟨by decide, by decide, by decide +kernel, by simp [o7], by decide, by simp [o7], by decide +kernel⟩
theorem o40_good : GoodO o40 := ⟨by decide, by decide, by decide +kernel, by simp [o40], by decide, by simp [o40], by decide +kernel⟩
theorem GoodO.x {o : Off} (g : GoodO o) {H : Hp} {x : V} (h : OffAt H x o) : OffX H x (some o) := ⟨h, (fun u e => by cases e; exact g.ok), fun u e => by cases e; exact g.off.2.2.2.1⟩
/-- what every leg of the law has -/
structure ComR (p dx : Addr) (st : Str) (m : Nat) (R : LegR) : Prop where
  p : R.p = p
  dx : R.dx = dx
  tag : R.tag = "x1"
  place : R.place = "q"
  able : R.able = ableO
  w : LegW R
  st : R.st = st
  es : R.es.length ≤ m
structure InR (p dx : Addr) (st : Str) (m : Nat) (R : LegR) : Prop where
  com : ComR p dx st m R
  took : R.took = true
  gt : R.gt = 3
  ss : ∃ s xo, R.ss = [s] ∧ s.L = firstL xo ∧ s.pl = "q" ∧ (st = "offered" → s.st = .opn)
structure OutR (p dx : Addr) (st : Str) (m : Nat) (R : LegR) : Prop where
  com : ComR p dx st m R
  took : R.took = false
  gt : R.gt = -1
  ss : R.ss = []
theorem ComR.mono {p dx : Addr} {st : Str} {m n : Nat} {R : LegR} (h : ComR p dx st m R) (l : m ≤ n) : ComR p dx st n R := ⟨h.p, h.dx, h.tag, h.place, h.able, h.w, h.st, Nat.le_trans h.es l⟩
theorem RepR.s {R R' : LegR} {pre post : List SvR} {s : SvR} {now n : Int} {xo : V} {o : Option Off} {rows : List (Str × Str)} (h : RepR R pre post s now n xo o R' rows) : ∃ s', R' = { R with ss := pre ++ s' :: post } ∧ s'.p = s.p ∧ s'.L = s.L ∧ s'.pl = s.pl ∧ s'.o = s.o := by
  obtain ⟨al, t, wa, wx, e, _⟩ := h
  refine ⟨_, e, repS_p .., ?_⟩
  unfold repS replyS
  split
  · split <;> exact ⟨rfl, rfl, rfl⟩
  · exact ⟨rfl, rfl, rfl⟩
theorem firstL_ok (xo : V) : LOk (firstL xo) := by
  have hd : PyData.strOk "CALL" = true ∧ PyData.strOk "c1" = true ∧ PyData.strOk "bob@x" = true ∧ PyData.strOk "y1" = true ∧ PyData.strOk "ann@x" = true ∧ PyData.strOk "" = true ∧ PyData.strOk "first" = true := by decide +kernel
  exact ⟨hd, by show (0 : Int) ≤ 3; decide, by show ("CALL" : Str).length ≤ 1000; decide +kernel, by show ("c1" : Str).length ≤ 1000; decide +kernel, by show ("bob@x" : Str).length ≤ 1000; decide +kernel, by show ("y1" : Str).length ≤ 1000; decide +kernel, by show ("ann@x" : Str).length ≤ 1000; decide +kernel, by show ("" : Str).length ≤ 1000; decide +kernel, by show (3 : Int).natAbs < 1000000000; decide, by show ("first" : Str).length ≤ 1000; decide +kernel, .inl rfl⟩
theorem legW0 {p dx cl sv wt ev : Addr} {ab : V} {seq : Int} (h : 0 ≤ seq) : LegW (legR0 p dx cl sv wt ev ab seq) := by
  have hd : PyData.strOk "x1" = true ∧ PyData.strOk "c1" = true ∧ PyData.strOk "ann@x" = true ∧ PyData.strOk "bob@x" = true ∧ PyData.strOk "" = true := by decide +kernel
  exact ⟨⟨hd.1, by show ("x1" : Str).length ≤ 100; decide +kernel⟩, ⟨hd.2.1, by show ("c1" : Str).length ≤ 1000; decide +kernel⟩, ⟨hd.2.2.1, by show ("ann@x" : Str).length ≤ 1000; decide +kernel⟩, ⟨hd.2.2.2.1, by show ("bob@x" : Str).length ≤ 1000; decide +kernel⟩, ⟨hd.2.2.2.2, by show ("" : Str).length ≤ 1000; decide +kernel⟩, h, Int.le_refl 0⟩
theorem y1_ok : TxOk ("y1" : Str) ∧ ("y1" : Str).length ≤ 1000 := ⟨by show PyData.strOk "y1" = true; decide +kernel, by decide +kernel⟩
theorem reply_ok {L : Ltr} {n : Int} {tag : Str} {xo : V} (g : LOk L) (t : TxOk tag ∧ tag.length ≤ 1000) (h0 : 0 ≤ n) (h1 : n ≤ 99) : LOk (L.reply (.int n) tag xo .non) := by
  obtain ⟨g1, g2, g3, g4, g5, _, g7⟩ := g.oks
  exact ⟨⟨g1, g2, g3, g4, g5, t.1, g7⟩, g.seq0, g.verb, g.call, g.origin, g.otag, g.target, t.2, g.seq, g.way, .inr ⟨n, rfl, h0, by omega⟩⟩
theorem offer_ok {L : Ltr} {x : V} (g : LOk L) : LOk { L with offer := x } := ⟨g.oks, g.seq0, g.verb, g.call, g.origin, g.otag, g.target, g.ttag, g.seq, g.way, g.code⟩
theorem takeV_18 {c : ClR} (h : c.st = .cl) (v : c.L.verb = "CALL") : takeV c 18 = .int 18 := by
  unfold takeV
  rw [if_neg (by rw [h]; decide), if_pos (by decide)]
  unfold provV provB isC
  rw [decide_eq_true v, h]
  rfl
theorem takeV_20 {c : ClR} (h : c.st = .cl) (v : c.L.verb = "CALL") : takeV c 20 = .int 20 := by
  unfold takeV
  rw [if_neg (by rw [h]; decide), if_neg (by decide), if_neg (by unfold isC; rw [decide_eq_true v]; decide), if_neg (by rw [h]; decide)]
/-- a leg that calls out -/
structure CalR (p dx : Addr) (st : Str) (m : Nat) (L : Ltr) (R : LegR) : Prop where
  out : OutR p dx st m R
  sq : R.seq ≤ 10
  rq : R.req ≤ 10
  cn : R.cs.length ≤ 10
  cl : st = "calling" → ∃ c, R.cs = [c] ∧ c.st = .cl ∧ c.L = L
/-- what the law's leg has said, from its making on -/
def spMade (K : PySem.W.Frag) : Sp := fun vs H Q _ => ∃ (s c : Addr) (kd : Kd), vs = [.ref s, .str kd.s] ∧ StAt H s c ∧ ∀ R H', (if kd.inn = true then InR R.p R.dx kd.st 5 R else OutR R.p R.dx kd.st 5 R) → Cells H' (legM K R) → LegI K H' R → StK H H' s c (legM K R) → Q (.ref R.p) H'
theorem ok_law_made {P : Program} {w : World} {K : PySem.W.Frag} {mg : Str → Option Value} {base : Heap} {f : Addr} {fd : FuncData} (T : Tx K mg) (c_law_leg : C8.Cal P w K mg base 3 "_law_leg" (spLLeg K) []) (c_law_first : C8.Cal P w K mg base 3 "_law_first" (spLFirst K) []) (c_Leg_call_in : C8.Met P w K mg base 4 (He.ga K "Leg") "call_in" (spCallIn K) []) (c_Leg_accept : C8.Met P w K mg base 6 (He.ga K "Leg") "accept" (spAccept K) []) (c_Leg_refuse : C8.Met P w K mg base 6 (He.ga K "Leg") "refuse" (spRefuse K) []) (c_Leg_call_out : C8.Met P w K mg base 6 (He.ga K "Leg") "call_out" (spCallOut K) []) (c_law_sent : C8.Cal P w K mg base 8 "_law_sent" (spSent K) []) (c_Letter_reply : C8.Met P w K mg base 3 (He.ga K "Letter") "reply" (spLReply K) [(V.non), (V.non)]) (c_Letter_reply_o : TK.MetK P w K mg base 3 (He.ga K "Letter") "reply" (spLReply K) 2 ["offer"] (fun vs zs => vs ++ zs ++ [(V.non)])) (c_Leg_receive : C8.Met P w K mg base 9 (He.ga K "Leg") "receive" (spRecv K) []) (c_Leg_hang_up : C8.Met P w K mg base 7 (He.ga K "Leg") "hang_up" (spHangUp K) [])
    (F : FunD K "_law_made" "_law_made" (defArgs s_law_made) (defBody s_law_made) (defScope s_law_made) [] [] f fd) : FnOk P w K mg base CX0 10 f fd ["state", "kind"] (spMade K) := by
  refine F.ok sc_law_made (fun vs H Q E h => ?_) (fun cdv A outer s0 H vs Q E hr h => ?_)
  · obtain ⟨s, c, kd, rfl, _⟩ := h
    rfl
  · obtain ⟨s, c, kd, rfl, st, k⟩ := h
    refine ⟨_, PSs.nox (pss_cons (ps_set (i := 2) sc_law_made.nd rfl (Or.inl rfl) (pe_c c_law_leg hr (by decide) rfl (pa_cons (pv 0) pa_nil))) (pss_cons (ps_set (i := 3) sc_law_made.nd rfl (Or.inl rfl) (pe_tup (pa_cons pe_int (pa_cons pe_str (pa_cons (pe_tup (pa_cons pe_str pa_nil)) pa_nil))))) (C8.pss_cut (ps_if (pt_cmpR op_in_seq (pv 1) (pe_lst (pa_cons pe_str (pa_cons pe_str (pa_cons pe_str pa_nil)))) (by with_unfolding_all rfl)) (pss_cons (ps_expr (C8.pe_mt c_Leg_call_in hr (by decide) (pv 2) (pa_cons (pe_c c_law_first hr (by decide) rfl (pa_cons (pv 3) pa_nil)) pa_nil))) (C8.pss_cut (ps_if (pt_cmpR op_eq (pv 1) pe_str (nomark _)) (pss_one (ps_expr (C8.pe_mt c_Leg_accept hr (by decide) (pv 2) (pa_cons (pe_tup (pa_cons pe_int (pa_cons pe_str (pa_cons (pe_tup (pa_cons pe_str pa_nil)) pa_nil)))) (pa_cons pe_int pa_nil))))) pss_nil) (C8.pss_cut (ps_if (pt_cmpR op_eq (pv 1) pe_str (nomark _)) (pss_one (ps_expr (C8.pe_mt c_Leg_refuse hr (by decide) (pv 2) (pa_cons pe_int (pa_cons pe_int pa_nil))))) pss_nil) (pss_one (ps_ret (pv 2)))))) pss_nil) (pss_cons (ps_set (i := 4) sc_law_made.nd rfl (Or.inl rfl) (pe_ix ix_list (pe_c c_law_sent hr (by decide) rfl (pa_cons (C8.pe_mt c_Leg_call_out hr (by decide) (pv 2) (pa_cons (pv 3) (pa_cons pe_int pa_nil))) pa_nil)) pe_int (fun _ _ => rfl))) (C8.pss_cut (ps_if (pt_cmpR op_eq (pv 1) pe_str (nomark _)) (pss_one (ps_expr (C8.pe_mt c_Leg_receive hr (by decide) (pv 2) (pa_cons (C8.pe_mt c_Letter_reply hr (by decide) (pv 4) (pa_cons pe_int (pa_cons pe_str pa_nil))) (pa_cons pe_str (pa_cons pe_int pa_nil)))))) pss_nil) (C8.pss_cut (ps_if (pt_cmpR op_in_seq (pv 1) (pe_lst (pa_cons pe_str (pa_cons pe_str pa_nil))) (by with_unfolding_all rfl)) (pss_one (ps_expr (C8.pe_mt c_Leg_receive hr (by decide) (pv 2) (pa_cons (TK.pe_mtK c_Letter_reply_o hr (by decide) (pv 4) (pa_cons pe_int (pa_cons pe_str pa_nil)) (pk_cons (pv 3) pk_nil)) (pa_cons pe_str (pa_cons pe_int pa_nil)))))) pss_nil) (C8.pss_cut (ps_if (pt_cmpR op_eq (pv 1) pe_str (nomark _)) (pss_one (ps_expr (C8.pe_mt c_Leg_hang_up hr (by decide) (pv 2) (pa_cons pe_int pa_nil)))) pss_nil) (pss_one (ps_ret (pv 2)))))))))), ?_⟩
    refine ⟨_, rfl, s, c, rfl, st, fun p dx cl sv wt ev ab seq H1 q0 q1 c1 i1 k1 => ?_⟩
    refine ⟨by show 1 ≤ sizeLine; decide, fun f hf => ⟨by show 3 ≤ sizeLine; decide, fun o ho => ?_⟩⟩
    have s2 := (same_upd (o := .tup [.str "b"]) hf).trans (same_upd (o := .tup [.int 7, .str "both", .ref f]) ho)
    have fo : f ≠ o := fun e => by rw [← e, upd_same] at ho; cases ho
    have hof : OffAt (upd (upd H1 f (.tup [.str "b"])) o (.tup [.int 7, .str "both", .ref f])) (.ref o) o7 := ⟨o, f, rfl, upd_same, (upd_ne fo).trans upd_same⟩
    have r2 := (Run.refl c1).same s2
    have k2 := k1.same s2
    have i2 := i1.im (Im.of_same s2)
    generalize (upd (upd H1 f (.tup [.str "b"])) o (.tup [.int 7, .str "both", .ref f])) = H2 at s2 hof r2 k2 i2 ⊢
    have c2 := r2.c
    clear r2 c1 i1 k1 s2 hf ho fo
    refine ⟨fun σ' H' => σ' = [some (.ref s), some (.str kd.s), some (.ref p), some (.ref o), none] ∧ Same H2 H' ∧ kd.inn = false, ?_, ?_⟩
    · refine ⟨_, rfl, by show 3 ≤ sizeLine; decide, fun l hl => ?_⟩
      have s3 := same_upd (o := .lst [.str "offered", .str "called", .str "refused"]) hl
      refine ⟨_, _, rfl, .inl (SqL.of upd_same), rfl, rfl, _, rfl, ?_⟩
      have e : inV (V.str kd.s) [.str "offered", .str "called", .str "refused"] = kd.inn := by cases kd <;> rfl
      show (if inV (V.str kd.s) [.str "offered", .str "called", .str "refused"] = true then _ else _)
      rw [e]
      cases ek : kd.inn with
      | false => exact iteF ⟨rfl, s3, rfl⟩
      | true =>
        rw [ek] at k
        have c3 := c2.same s3
        have i3 := i2.im (Im.of_same s3)
        have k3 := k2.same s3
        have hof3 := hof.same s3
        generalize upd H2 l (.lst [.str "offered", .str "called", .str "refused"]) = H3 at c3 i3 k3 hof3 ⊢
        have hp3 := leg_p c3
        refine iteT ⟨_, rfl, p, dx, _, rfl, hp3, rfl, _, rfl, .ref o, rfl, fun a H4 s4 ha hla => ?_⟩
        refine ⟨legR0 p dx cl sv wt ev ab seq, a, firstL (.ref o), some o7, rfl, c3.same s4, i3.im (Im.of_same s4), hla, (hof3.same s4), firstL_ok _, by show 0 < 100000; decide, fun sp sdx al H5 r5 i5 => ?_⟩
        have k5 := (k3.same s4).run r5
        obtain ⟨R5, c5, i5, k5, in5⟩ : ∃ R5, Cells H5 (legM K R5) ∧ LegI K H5 R5 ∧ StK H H5 s c (legM K R5) ∧ InR p dx "offered" 0 R5 := by
          refine ⟨_, r5.c, i5, k5, ?_⟩
          have w := legW0 (p := p) (dx := dx) (cl := cl) (sv := sv) (wt := wt) (ev := ev) (ab := ab) q0
          exact ⟨⟨rfl, rfl, rfl, rfl, rfl, ⟨w.tag, w.call, w.own, w.other, y1_ok, w.seq, w.req⟩, rfl, Nat.le_refl 0⟩, rfl, rfl, _, _, rfl, rfl, rfl, fun _ => rfl⟩
        clear r5 hla ha s4 c3 i3 k3 hof3
        have hp5 := leg_p c5
        rw [in5.com.p, in5.com.dx] at hp5
        refine ⟨fun σ' H' => σ' = [some (.ref s), some (.str kd.s), some (.ref p), some (.ref o), none] ∧ ∃ st R, st = (if kd = .called then ("talking" : Str) else "offered") ∧ InR p dx st 0 R ∧ Cells H' (legM K R) ∧ LegI K H' R ∧ StK H H' s c (legM K R), ?_, ?_⟩
        · refine ⟨_, rfl, rfl, _, rfl, ?_⟩
          rw [show decide (V.str kd.s = V.str "called") = decide (kd = .called) from kd_is kd .called]
          by_cases e1 : kd = .called
          · rw [decide_eq_true e1]
            refine iteT ⟨_, rfl, p, dx, _, rfl, hp5, rfl, by show 1 ≤ sizeLine; decide, fun f2 hf2 => ⟨by show 3 ≤ sizeLine; decide, fun o2 ho2 => ?_⟩⟩
            have s6 := (same_upd (o := .tup [.str "b"]) hf2).trans (same_upd (o := .tup [.int 40, .str "both", .ref f2]) ho2)
            have fo2 : f2 ≠ o2 := fun e => by rw [← e, upd_same] at ho2; cases ho2
            have hof2 : OffAt (upd (upd H5 f2 (.tup [.str "b"])) o2 (.tup [.int 40, .str "both", .ref f2])) (.ref o2) o40 := ⟨o2, f2, rfl, upd_same, (upd_ne fo2).trans upd_same⟩
            obtain ⟨s5, xo5, es5, eL5, epl5, eo5⟩ := in5.ss
            refine ⟨R5, [], s5, 0, .ref o2, some o40, by rw [in5.com.p]; rfl, c5.same s6, i5.im (Im.of_same s6), in5.com.w, o40_good.x hof2, es5, in5.com.st, fun R' rows r ts H7 hr7 r7 i7 w7 => ?_⟩
            have k7 := ((k5.same s6).run r7).tail
            obtain ⟨s', eR, _, g2, g3, _⟩ := hr7.s
            have w := in5.com.w
            have in7 : InR p dx "talking" 0 R' := by
              rw [eR]
              exact ⟨⟨in5.com.p, in5.com.dx, in5.com.tag, in5.com.place, in5.com.able, ⟨w.tag, w.call, w.own, w.other, w.ot, w.seq, w.req⟩, rfl, in5.com.es⟩, in5.took, in5.gt, s', xo5, rfl, by rw [g2]; exact eL5, by rw [g3]; exact epl5, fun e => absurd e (by decide +kernel)⟩
            exact ⟨rfl, "talking", R', by rw [if_pos e1], in7, Cells.tail r7.c, i7, k7⟩
          · rw [decide_eq_false e1]
            exact iteF ⟨rfl, "offered", R5, by rw [if_neg e1], in5, c5, i5, k5⟩
        rintro σ' H6 ⟨rfl, st6, R6, e6, in6, c6, i6, k6⟩
        have hp6 := leg_p c6
        rw [in6.com.p, in6.com.dx] at hp6
        refine ⟨fun σ' H' => σ' = [some (.ref s), some (.str kd.s), some (.ref p), some (.ref o), none] ∧ ∃ R, InR p dx kd.st 5 R ∧ Cells H' (legM K R) ∧ LegI K H' R ∧ StK H H' s c (legM K R), ?_, ?_⟩
        · refine ⟨_, rfl, rfl, _, rfl, ?_⟩
          rw [show decide (V.str kd.s = V.str "refused") = decide (kd = .refused) from kd_is kd .refused]
          by_cases e1 : kd = .refused
          · rw [decide_eq_true e1]
            subst e1
            rw [if_neg (by decide)] at e6
            subst e6
            obtain ⟨s5, xo5, es5, eL5, epl5, eo5⟩ := in6.ss
            refine iteT ⟨_, rfl, p, dx, _, rfl, hp6, rfl, R6, [], s5, 44, 0, by rw [in6.com.p]; rfl, c6, i6, in6.com.w, es5, in6.com.st, Nat.lt_of_le_of_lt in6.com.es (by decide), by decide, by decide, fun wt t R' rows r ts H7 hr7 r7 i7 w7 => ?_⟩
            have k7 := (k6.run r7).tail
            obtain ⟨s', eR, _, g2, g3, _⟩ := hr7.s
            have w := in6.com.w
            have in7 : InR p dx "over" 5 R' := by
              rw [eR]
              exact ⟨⟨in6.com.p, in6.com.dx, in6.com.tag, in6.com.place, in6.com.able, ⟨w.tag, w.call, w.own, w.other, w.ot, w.seq, w.req⟩, rfl, (by show (R6.es ++ [(t, _)]).length ≤ 5; rw [List.length_append]; exact Nat.le_trans (Nat.add_le_add_right in6.com.es 1) (by decide))⟩, in6.took, in6.gt, s', xo5, rfl, by rw [g2]; exact eL5, by rw [g3]; exact epl5, fun e => absurd e (by decide +kernel)⟩
            exact ⟨rfl, R', in7, Cells.tail r7.c, i7, k7⟩
          · rw [decide_eq_false e1]
            have e7 : st6 = kd.st := by
              rw [e6]
              cases kd with
              | called => rfl
              | offered => rfl
              | refused => exact absurd rfl e1
              | _ => cases ek
            rw [← e7]
            exact iteF ⟨rfl, R6, ⟨in6.com.mono (by decide), in6.took, in6.gt, in6.ss⟩, c6, i6, k6⟩
        rintro σ' H7 ⟨rfl, R7, in7, c7, i7, k7⟩
        have q := k R7 H7 (by rw [if_pos rfl, in7.com.p, in7.com.dx]; exact in7) c7 i7 k7
        rw [in7.com.p] at q
        exact ⟨_, rfl, q⟩
    rintro σ' H3 ⟨rfl, s3, ek⟩
    replace k : ∀ R H', OutR R.p R.dx kd.st 5 R → Cells H' (legM K R) → LegI K H' R → StK H H' s c (legM K R) → Q (.ref R.p) H' := fun R H' o => k R H' (by rw [ek, if_neg Bool.false_ne_true]; exact o)
    have c3 := c2.same s3
    have i3 := i2.im (Im.of_same s3)
    have k3 := k2.same s3
    have hof3 := hof.same s3
    clear c2 i2 k2 hof s3
    have hp3 := leg_p c3
    have w0 := legW0 (p := p) (dx := dx) (cl := cl) (sv := sv) (wt := wt) (ev := ev) (ab := ab) q0
    refine ⟨_, rfl, p, dx, _, rfl, hp3, rfl, _, rfl, legR0 p dx cl sv wt ev ab seq, 0, .ref o, some o7, rfl, c3, i3, o7_good.x hof3, w0, by show seq + 1 < 1000000000; omega, by show (0 : Int) + 1 < 1000000000; decide, by show 0 < 100000; decide, fun cp cdx la wa wx ka r ts H4 r4 i4 w4 => ?_⟩
    obtain ⟨L4, eL4⟩ : ∃ L4, L4 = sendL (legR0 p dx cl sv wt ev ab seq) "CALL" (.ref o) .non := ⟨_, rfl⟩
    have g4 : GLet L4 (some o7) none := by
      rw [eL4]
      exact ⟨by show ("CALL" : Str) ∈ verbsL; decide +kernel, rfl, (fun _ e => nomatch e), by show tagB "c1" = true; decide +kernel, by show (splitB "ann@x").isSome = true; decide +kernel, by show tagB "x1" = true; decide +kernel, by show (splitB "bob@x").isSome = true; decide +kernel, .inl rfl, by show 0 ≤ seq + 1; omega, by show seq + 1 ≤ 999999; omega, by show tagB (wayS "x1" 1) = true; decide +kernel, fun u e => by cases e; exact o7_good.off, .inl rfl, .inl rfl⟩
    have v4 : L4.verb = "CALL" := by rw [eL4]; rfl
    have hr4 : H4 r = some (.lst (ts.map V.ref)) := r4.c.get (by simp)
    have k4 := (k3.run r4).tail
    obtain ⟨R4, c4, i4, k4, o4⟩ : ∃ R4, Cells H4 (legM K R4) ∧ LegI K H4 R4 ∧ StK H H4 s c (legM K R4) ∧ CalR p dx "calling" 0 L4 R4 := by
      refine ⟨_, Cells.tail r4.c, i4, k4, ⟨⟨⟨rfl, rfl, rfl, rfl, rfl, ⟨w0.tag, w0.call, w0.own, w0.other, w0.ot, ?_, ?_⟩, rfl, Nat.le_refl 0⟩, rfl, rfl, rfl⟩, ?_, ?_, ?_, fun _ => ⟨_, rfl, rfl, eL4.symm⟩⟩⟩
      · show 0 ≤ seq + 1
        omega
      · show (0 : Int) ≤ 0 + 1
        decide
      · show seq + 1 ≤ 10
        omega
      · show (0 : Int) + 1 ≤ 10
        decide
      · show 1 ≤ 10
        decide
    have hof4 := OffAt.im hof3 r4.im
    rw [← eL4] at w4
    clear r4 hp3 c3 i3 k3 hof3
    refine ⟨r, ts, [(L4, some o7, none)], rfl, hr4, w4, (fun g m => by rw [List.mem_singleton.mp m]; exact g4), by show 1 ≤ 100; decide, fun D bs H5 s5 hD eD l5 => ?_⟩
    obtain ⟨b, rfl⟩ : ∃ b, bs = [b] := by
      have := l5.len
      match bs, this with
      | [b], _ => exact ⟨b, rfl⟩
    obtain ⟨⟨x, hle, hox⟩, _⟩ := l5
    refine ⟨D, _, 0, .ref b, rfl, rfl, SqL.of eD, rfl, ?_⟩
    have c5 := c4.same s5
    have i5 := i4.im (Im.of_same s5)
    have k5 := k4.same s5
    have hof5 := hof4.same s5
    clear c4 i4 k4 hof4 s5 hD eD hr4 w4
    have lok : LOk { L4 with offer := x } := offer_ok g4.lok
    -- it rings
    refine ⟨fun σ' H' => σ' = [some (.ref s), some (.str kd.s), some (.ref p), some (.ref o), some (.ref b)] ∧ Im H5 H' ∧ ∃ st R, st = (if kd = .ringing then ("ringing" : Str) else "calling") ∧ CalR p dx st 1 L4 R ∧ (kd ≠ .ringing → ∃ c, R.cs = [c] ∧ c.st = .cl ∧ c.L = L4) ∧ Cells H' (legM K R) ∧ LegI K H' R ∧ StK H H' s c (legM K R), ?_, ?_⟩
    · refine ⟨_, rfl, rfl, _, rfl, ?_⟩
      rw [show decide (V.str kd.s = V.str "ringing") = decide (kd = .ringing) from kd_is kd .ringing]
      by_cases e1 : kd = .ringing
      · rw [decide_eq_true e1]
        obtain ⟨cc, ecs, est, ecl⟩ := o4.cl rfl
        obtain ⟨db, hdb⟩ := id hle
        have hp5 := leg_p c5
        rw [o4.out.com.p, o4.out.com.dx] at hp5
        refine iteT ⟨_, rfl, p, dx, _, rfl, hp5, rfl, _, rfl, b, db, _, rfl, hdb, rfl, b, { L4 with offer := x }, .int 18, "y1", .non, .non, rfl, hle, fun a H6 s6 ha hla => ?_⟩
        refine ⟨R4, a, ({ L4 with offer := x } : Ltr).reply (.int 18) "y1" .non .non, none, "q", 0, by rw [o4.out.com.p]; rfl, c5.same s6, i5.im (Im.of_same s6), o4.out.com.w, hla, rfl, reply_ok lok y1_ok (by decide) (by decide), Nat.lt_of_le_of_lt o4.out.com.es (by decide), by rw [o4.out.ss]; show 0 < 99999; decide, .inl ⟨18, [], [], cc, rfl, v4, by rw [o4.out.com.st]; decide +kernel, ecs, (fun _ m => nomatch m), by unfold matchC; rw [ecl]; show (decide (L4.way = L4.way) && decide (L4.verb = L4.verb)) = true; rw [decide_eq_true rfl, decide_eq_true rfl]; rfl, fun R' rows r ts H7 tr r7 i7 w7 => ?_⟩⟩
        have k7 := ((k5.same s6).run r7).tail
        have im7 : Im H5 H7 := (Im.of_same s6).trans r7.im
        obtain ⟨wa', wx', ka', kt', _, ⟨ev', _⟩ | ⟨_, fr⟩⟩ := tr
        · rw [takeV_18 est (by rw [ecl]; exact v4)] at ev'
          cases ev'
        · have o7' : CalR p dx "ringing" 1 L4 R' := by
            cases fr with
            | @rang t e st =>
              have w := o4.out.com.w
              exact ⟨⟨⟨o4.out.com.p, o4.out.com.dx, o4.out.com.tag, o4.out.com.place, o4.out.com.able, ⟨w.tag, w.call, w.own, w.other, w.ot, w.seq, w.req⟩, rfl, (by show (R4.es ++ [(t, _)]).length ≤ 1; rw [List.length_append]; exact Nat.add_le_add_right o4.out.com.es 1)⟩, o4.out.took, o4.out.gt, o4.out.ss⟩, o4.sq, o4.rq, by show 1 ≤ 10; decide, fun z => absurd z (by decide +kernel)⟩
            | rang2 e st => exact absurd o4.out.com.st st
            | yes e => exact absurd e (by decide)
            | failed e _ => exact absurd rfl e
          exact ⟨rfl, im7, "ringing", R', by rw [if_pos e1], o7', fun z => absurd e1 z, Cells.tail r7.c, i7, k7⟩
      · rw [decide_eq_false e1]
        exact iteF ⟨rfl, Im.refl _, "calling", R4, by rw [if_neg e1], ⟨⟨o4.out.com.mono (by decide), o4.out.took, o4.out.gt, o4.out.ss⟩, o4.sq, o4.rq, o4.cn, o4.cl⟩, fun _ => o4.cl rfl, c5, i5, k5⟩
    rintro σ' H6 ⟨rfl, im6, st6, R6, e6, o6, cl6, c6, i6, k6⟩
    have hof6 := OffAt.im hof5 im6
    have hle6 := LetAt.im hle im6
    clear c5 i5 k5 hof5 o4 hle hox im6
    -- it is answered
    refine ⟨fun σ' H' => σ' = [some (.ref s), some (.str kd.s), some (.ref p), some (.ref o), some (.ref b)] ∧ ∃ st R, st = (if kd = .ringing then ("ringing" : Str) else if kd = .calling then "calling" else "talking") ∧ CalR p dx st 2 L4 R ∧ Cells H' (legM K R) ∧ LegI K H' R ∧ StK H H' s c (legM K R), ?_, ?_⟩
    · refine ⟨_, rfl, by show 2 ≤ sizeLine; decide, fun l hl => ?_⟩
      have s7 := same_upd (o := .lst [.str "calling out", .str "ended"]) hl
      refine ⟨_, _, rfl, .inl (SqL.of upd_same), rfl, rfl, _, rfl, ?_⟩
      have e : inV (V.str kd.s) [.str "calling out", .str "ended"] = (decide (kd = .cout) || decide (kd = .ended)) := by cases kd <;> rfl
      show (if inV (V.str kd.s) [.str "calling out", .str "ended"] = true then _ else _)
      rw [e]
      have c7 := c6.same s7
      have i7 := i6.im (Im.of_same s7)
      have k7 := k6.same s7
      have hof7 := hof6.same s7
      have hle7 := hle6.same s7
      generalize upd H6 l (.lst [.str "calling out", .str "ended"]) = H7 at c7 i7 k7 hof7 hle7 ⊢
      clear s7 hl e
      cases e1 : (decide (kd = .cout) || decide (kd = .ended)) with
      | false =>
        refine iteF ⟨rfl, st6, R6, ?_, ⟨⟨o6.out.com.mono (by decide), o6.out.took, o6.out.gt, o6.out.ss⟩, o6.sq, o6.rq, o6.cn, o6.cl⟩, c7, i7, k7⟩
        rw [e6]
        cases kd with
        | calling => rfl
        | ringing => rfl
        | cout => cases e1
        | ended => cases e1
        | _ => cases ek
      | true =>
        have e2 : kd ≠ .ringing ∧ kd ≠ .calling := by
          cases kd with
          | cout => exact ⟨by decide, by decide⟩
          | ended => exact ⟨by decide, by decide⟩
          | _ => cases e1
        rw [if_neg e2.1] at e6
        subst e6
        obtain ⟨cc, ecs, est, ecl⟩ := cl6 e2.1
        obtain ⟨db, hdb⟩ := id hle7
        have hp7 := leg_p c7
        rw [o6.out.com.p, o6.out.com.dx] at hp7
        refine iteT ⟨_, rfl, p, dx, _, rfl, hp7, rfl, _, rfl, b, db, _, rfl, hdb, rfl, _, rfl, rfl, rfl, b, { L4 with offer := x }, .int 20, "y1", .ref o, .non, rfl, hle7, fun a H8 s8 ha hla => ?_⟩
        refine ⟨R6, a, ({ L4 with offer := x } : Ltr).reply (.int 20) "y1" (.ref o) .non, some o7, "q", 0, by rw [o6.out.com.p]; rfl, c7.same s8, i7.im (Im.of_same s8), o6.out.com.w, hla, (hof7.same s8), reply_ok lok y1_ok (by decide) (by decide), Nat.lt_of_le_of_lt o6.out.com.es (by decide), by rw [o6.out.ss]; show 0 < 99999; decide, .inl ⟨20, [], [], cc, rfl, v4, by rw [o6.out.com.st]; decide +kernel, ecs, (fun _ m => nomatch m), by unfold matchC; rw [ecl]; show (decide (L4.way = L4.way) && decide (L4.verb = L4.verb)) = true; rw [decide_eq_true rfl, decide_eq_true rfl]; rfl, fun R' rows r ts H9 tr r9 i9 w9 => ?_⟩⟩
        have k9 := ((k7.same s8).run r9).tail
        obtain ⟨wa', wx', ka', kt', _, ⟨ev', _⟩ | ⟨_, fr⟩⟩ := tr
        · rw [takeV_20 est (by rw [ecl]; exact v4)] at ev'
          cases ev'
        · have o9 : CalR p dx "talking" 2 L4 R' := by
            cases fr with
            | rang e st => exact absurd e (by decide)
            | rang2 e st => exact absurd e (by decide)
            | @yes t e =>
              have w := o6.out.com.w
              exact ⟨⟨⟨o6.out.com.p, o6.out.com.dx, o6.out.com.tag, o6.out.com.place, o6.out.com.able, ⟨w.tag, w.call, w.own, w.other, y1_ok, w.seq, w.req⟩, rfl, (by show (R6.es ++ [(t, _)]).length ≤ 2; rw [List.length_append]; exact Nat.add_le_add_right o6.out.com.es 1)⟩, o6.out.took, o6.out.gt, o6.out.ss⟩, o6.sq, o6.rq, by show 1 ≤ 10; decide, fun z => absurd z (by decide +kernel)⟩
            | failed e e2 => exact absurd rfl e2
          exact ⟨rfl, "talking", R', by rw [if_neg e2.1, if_neg e2.2], o9, Cells.tail r9.c, i9, k9⟩
    rintro σ' H7 ⟨rfl, st7, R7, e7, o7', c7, i7, k7⟩
    have hp7 := leg_p c7
    rw [o7'.out.com.p, o7'.out.com.dx] at hp7
    refine ⟨fun σ' H' => σ' = [some (.ref s), some (.str kd.s), some (.ref p), some (.ref o), some (.ref b)] ∧ ∃ R, OutR p dx kd.st 5 R ∧ Cells H' (legM K R) ∧ LegI K H' R ∧ StK H H' s c (legM K R), ?_, ?_⟩
    · refine ⟨_, rfl, rfl, _, rfl, ?_⟩
      rw [show decide (V.str kd.s = V.str "ended") = decide (kd = .ended) from kd_is kd .ended]
      by_cases e1 : kd = .ended
      · rw [decide_eq_true e1]
        subst e1
        rw [if_neg (by decide), if_neg (by decide)] at e7
        subst e7
        have sq := o7'.sq
        have rq := o7'.rq
        refine iteT ⟨_, rfl, p, dx, _, rfl, hp7, rfl, R7, 0, by rw [o7'.out.com.p]; rfl, c7, i7, o7'.out.com.w, o7'.out.com.st, Nat.lt_of_le_of_lt o7'.out.com.es (by decide), by omega, by omega, Nat.lt_of_le_of_lt o7'.cn (by decide), fun wt t cp' cdx' la' wa' wx' ka' r ts H8 r8 i8 => ?_⟩
        have k8 := (k7.run r8).tail
        have w := o7'.out.com.w
        have w1 := w.seq
        have w2 := w.req
        have o8 : OutR p dx "over" 5 (sentR (overR R7 wt t "hung" 20) (newC cp' cdx' la' wa' wx' ka' (sendL R7 "END" .non .non) none R7.place R7.first 0)) := by
          refine ⟨⟨o7'.out.com.p, o7'.out.com.dx, o7'.out.com.tag, o7'.out.com.place, o7'.out.com.able, ⟨w.tag, w.call, w.own, w.other, w.ot, ?_, ?_⟩, rfl, ?_⟩, o7'.out.took, o7'.out.gt, o7'.out.ss⟩
          · show 0 ≤ R7.seq + 1
            omega
          · show 0 ≤ R7.req + 1
            omega
          · show (R7.es ++ [(t, _)]).length ≤ 5
            rw [List.length_append]
            exact Nat.le_trans (Nat.add_le_add_right o7'.out.com.es 1) (by decide)
        exact ⟨rfl, _, o8, Cells.tail r8.c, i8, k8⟩
      · rw [decide_eq_false e1]
        have e8 : st7 = kd.st := by
          rw [e7]
          cases kd with
          | calling => rfl
          | ringing => rfl
          | cout => rfl
          | ended => exact absurd rfl e1
          | _ => cases ek
        rw [← e8]
        exact iteF ⟨rfl, R7, ⟨o7'.out.com.mono (by decide), o7'.out.took, o7'.out.gt, o7'.out.ss⟩, c7, i7, k7⟩
    rintro σ' H8 ⟨rfl, R8, o8, c8, i8, k8⟩
    have q := k R8 H8 (by rw [o8.com.p, o8.com.dx]; exact o8) c8 i8 k8
    rw [o8.com.p] at q
    exact ⟨_, rfl, q⟩

end K7
set_option maxHeartbeats 4000000
set_option pp.maxSteps 400
namespace K7
open PySem PySem.Spec PyProof.Rows L2 SX TK TKS TKC
open C8 (pe_c)
/-! ### the law: what is due -/
inductive Vb | end_ | stop | turn | move | live | call | sign
  deriving DecidableEq
def Vb.s : Vb → Str | .end_ => "END" | .stop => "STOP" | .turn => "TURN" | .move => "MOVE" | .live => "LIVE" | .call => "CALL" | .sign => "SIGN"
theorem vb_is (a b : Vb) : decide (V.str a.s = V.str b.s) = decide (a = b) := by cases a <;> cases b <;> rfl
def Kd.talk : Kd → Bool | .called => true | .cout => true | _ => false
def Kd.bef : Kd → Bool | .calling => true | .ringing => true | _ => false
def turnC : Option Off → Int
  | none => 50
  | some u => if (decide (("a" : Str) ∈ u.fs) || decide (("b" : Str) ∈ u.fs)) = true then 20 else 46
def codeL (kd : Kd) (vb : Vb) (o : Option Off) (xg : V) : Int :=
  if vb = .end_ then (if (kd.talk || kd.bef) = true then 20 else 41)
  else if vb = .stop then (if (decide (kd = .offered) || decide (kd = .called)) = true then 20 else 41)
  else if (decide (vb = .call) || decide (vb = .sign)) = true then 50
  else if kd.bef = true then 50
  else if kd.talk = false then 41
  else if vb = .turn then turnC o
  else if vb = .move ∧ xg = .non then 50
  else 20
def spLTurn : Sp := fun vs H Q _ => ∃ (z : Str) (xo : V) (o : Option Off), vs = [.str z, xo] ∧ OffO H xo o ∧ Q (.int (turnC o)) H
theorem ok_law_turn {P : Program} {w : World} {K : PySem.W.Frag} {mg : Str → Option Value} {base : Heap} {f : Addr} {fd : FuncData} (T : Tx K mg) 
    (F : FunD K "_law_turn" "_law_turn" (defArgs s_law_turn) (defBody s_law_turn) (defScope s_law_turn) [] [] f fd) : FnOk P w K mg base CX0 1 f fd ["state", "offer"] spLTurn := by
  refine F.ok sc_law_turn (fun vs H Q E h => ?_) (fun cdv A outer s0 H vs Q E hr h => ?_)
  · obtain ⟨z, xo, o, rfl, _⟩ := h
    rfl
  · obtain ⟨z, xo, o, rfl, ho, k⟩ := h
    refine ⟨_, PSs.nox (C8.pss_cut (ps_if (pt_cmpR op_isN (pv 1) pe_non (nomark _)) (pss_one (ps_ret pe_int)) pss_nil) (C8.pss_cut (ps_if (PW.pt (pw_and (pt_cmpR op_notIn_seq pe_str (pe_ix ix_tup (pv 1) pe_int (fun _ _ => rfl)) (by with_unfolding_all rfl)) (pw_and1 (pt_cmpR op_notIn_seq pe_str (pe_ix ix_tup (pv 1) pe_int (fun _ _ => rfl)) (by with_unfolding_all rfl))))) (pss_one (ps_ret pe_int)) pss_nil) (pss_one (ps_ret pe_int)))), ?_⟩
    cases o with
    | none =>
      cases (show xo = .non from ho)
      exact ⟨fun _ _ => False, ⟨_, rfl, rfl, _, rfl, iteT k⟩, fun _ _ z => z.elim⟩
    | some u =>
      obtain ⟨p, f, rfl, e1, e2⟩ := ho
      refine ⟨fun σ' H' => σ' = [some (.str z), some (.ref p)] ∧ H' = H, ⟨_, rfl, rfl, _, rfl, iteF ⟨rfl, rfl⟩⟩, ?_⟩
      rintro σ' H' ⟨rfl, e9⟩
      obtain rfl : H = H' := e9.symm
      refine ⟨fun σ' H' => σ' = [some (.str z), some (.ref p)] ∧ H' = H ∧ (decide (("a" : Str) ∈ u.fs) || decide (("b" : Str) ∈ u.fs)) = true, ?_, ?_⟩
      · refine ⟨_, rfl, p, _, 2, .ref f, rfl, rfl, SqT.of e1, rfl, f, _, rfl, .inr (SqT.of e2), rfl, flat_strs _, _, rfl, ?_⟩
        show (if (!inV (V.str "a") (u.fs.map V.str)) = true then _ else _)
        rw [inV_strs]
        cases ea : decide (("a" : Str) ∈ u.fs) with
        | true => exact iteF ⟨rfl, rfl, rfl⟩
        | false =>
          refine iteT ⟨_, rfl, p, _, 2, .ref f, rfl, rfl, SqT.of e1, rfl, f, _, rfl, .inr (SqT.of e2), rfl, flat_strs _, _, rfl, ?_⟩
          show (if (!inV (V.str "b") (u.fs.map V.str)) = true then _ else _)
          rw [inV_strs]
          cases eb : decide (("b" : Str) ∈ u.fs) with
          | true => exact iteF ⟨rfl, rfl, rfl⟩
          | false =>
            have e : turnC (some u) = 46 := if_neg (by rw [ea, eb]; exact Bool.false_ne_true)
            rw [e] at k
            exact iteT k
      rintro σ' H' ⟨rfl, e9, e⟩
      obtain rfl : H = H' := e9.symm
      rw [show turnC (some u) = 20 from if_pos e] at k
      exact k
def spLCode : Sp := fun vs H Q _ => ∃ (kd : Kd) (vb : Vb) (xo xg : V) (o : Option Off), vs = [.str kd.s, .str vb.s, xo, xg] ∧ OffO H xo o ∧ (xg = .non ∨ xg = .str "eve@x") ∧ ∀ H', Same H H' → Q (.int (codeL kd vb o xg)) H'
theorem ok_law_code {P : Program} {w : World} {K : PySem.W.Frag} {mg : Str → Option Value} {base : Heap} {f : Addr} {fd : FuncData} (T : Tx K mg) (c_law_turn : C8.Cal P w K mg base 1 "_law_turn" spLTurn [])
    (F : FunD K "_law_code" "_law_code" (defArgs s_law_code) (defBody s_law_code) (defScope s_law_code) [] [] f fd) : FnOk P w K mg base CX0 2 f fd ["kind", "verb", "offer", "goal"] spLCode := by
  refine F.ok sc_law_code (fun vs H Q E h => ?_) (fun cdv A outer s0 H vs Q E hr h => ?_)
  · obtain ⟨kd, vb, xo, xg, o, rfl, _⟩ := h
    rfl
  · obtain ⟨kd, vb, xo, xg, o, rfl, ho, hg, k⟩ := h
    refine ⟨_, PSs.nox (pss_cons (ps_set (i := 4) sc_law_code.nd rfl (Or.inl rfl) (pe_cmpR op_in_seq (pv 0) (pe_lst (pa_cons pe_str (pa_cons pe_str pa_nil))) (by with_unfolding_all rfl))) (C8.pss_cut (ps_if (pt_cmpR op_eq (pv 1) pe_str (nomark _)) (pss_one (ps_ret (pe_ifExp (PW.pt (pw_or (pt_val (pv 4)) (pw_or1 (pt_cmpR op_in_seq (pv 0) (pe_lst (pa_cons pe_str (pa_cons pe_str pa_nil))) (by with_unfolding_all rfl))))) pe_int pe_int))) pss_nil) (C8.pss_cut (ps_if (pt_cmpR op_eq (pv 1) pe_str (nomark _)) (pss_one (ps_ret (pe_ifExp (pt_cmpR op_in_seq (pv 0) (pe_lst (pa_cons pe_str (pa_cons pe_str pa_nil))) (by with_unfolding_all rfl)) pe_int pe_int))) pss_nil) (C8.pss_cut (ps_if (pt_cmpR op_in_seq (pv 1) (pe_lst (pa_cons pe_str (pa_cons pe_str pa_nil))) (by with_unfolding_all rfl)) (pss_one (ps_ret pe_int)) pss_nil) (C8.pss_cut (ps_if (pt_cmpR op_in_seq (pv 0) (pe_lst (pa_cons pe_str (pa_cons pe_str pa_nil))) (by with_unfolding_all rfl)) (pss_one (ps_ret pe_int)) pss_nil) (C8.pss_cut (ps_if (pt_not (pt_val (pv 4))) (pss_one (ps_ret pe_int)) pss_nil) (C8.pss_cut (ps_if (pt_cmpR op_eq (pv 1) pe_str (nomark _)) (pss_one (ps_ret (pe_c c_law_turn hr (by decide) rfl (pa_cons (pv 0) (pa_cons (pv 2) pa_nil))))) pss_nil) (C8.pss_cut (ps_if (PW.pt (pw_and (pt_cmpR op_eq (pv 1) pe_str (nomark _)) (pw_and1 (pt_cmpR op_isN (pv 3) pe_non (nomark _))))) (pss_one (ps_ret pe_int)) pss_nil) (pss_one (ps_ret pe_int)))))))))), ?_⟩
    refine ⟨_, rfl, by show 2 ≤ sizeLine; decide, fun l hl => ?_⟩
    have s1 := same_upd (o := .lst [.str "called", .str "calling out"]) hl
    refine ⟨_, _, rfl, .inl (SqL.of upd_same), rfl, rfl, ?_⟩
    have e : inV (V.str kd.s) [.str "called", .str "calling out"] = kd.talk := by cases kd <;> rfl
    have ho1 := ho.same s1
    generalize upd H l (.lst [.str "called", .str "calling out"]) = H1 at s1 ho1 ⊢
    refine ⟨fun σ' H' => σ' = [some (.str kd.s), some (.str vb.s), some xo, some xg, some (.bl kd.talk)] ∧ Same H1 H' ∧ vb ≠ .end_, ?_, ?_⟩
    · refine ⟨_, rfl, rfl, _, rfl, ?_⟩
      rw [show decide (V.str vb.s = V.str "END") = decide (vb = .end_) from vb_is vb .end_]
      by_cases e1 : vb = .end_
      · rw [decide_eq_true e1]
        have ec : codeL kd vb o xg = if (kd.talk || kd.bef) = true then 20 else 41 := if_pos e1
        refine iteT ⟨_, rfl, _, rfl, ?_⟩
        rw [e]
        cases et : kd.talk with
        | true =>
          rw [ec, et, Bool.true_or, if_pos rfl] at k
          exact iteT (iteT (k _ s1))
        | false =>
          rw [et, Bool.false_or] at ec
          refine iteF ⟨_, rfl, by show 2 ≤ sizeLine; decide, fun l2 hl2 => ?_⟩
          have s2 := s1.trans (same_upd (o := .lst [.str "calling", .str "ringing"]) hl2)
          refine ⟨_, _, rfl, .inl (SqL.of upd_same), rfl, rfl, _, rfl, ?_⟩
          have eb : inV (V.str kd.s) [.str "calling", .str "ringing"] = kd.bef := by cases kd <;> rfl
          show (if inV (V.str kd.s) [.str "calling", .str "ringing"] = true then _ else _)
          rw [eb]
          cases ebf : kd.bef with
          | true =>
            rw [ec, ebf, if_pos rfl] at k
            exact iteT (k _ s2)
          | false =>
            rw [ec, ebf, if_neg Bool.false_ne_true] at k
            exact iteF (k _ s2)
      · rw [decide_eq_false e1, e]
        exact iteF ⟨rfl, Same.refl _, e1⟩
    rintro σ' H2 ⟨rfl, s2, n1⟩
    refine ⟨fun σ' H' => σ' = [some (.str kd.s), some (.str vb.s), some xo, some xg, some (.bl kd.talk)] ∧ Same H2 H' ∧ vb ≠ .stop, ?_, ?_⟩
    · refine ⟨_, rfl, rfl, _, rfl, ?_⟩
      rw [show decide (V.str vb.s = V.str "STOP") = decide (vb = .stop) from vb_is vb .stop]
      by_cases e1 : vb = .stop
      · rw [decide_eq_true e1]
        have ec : codeL kd vb o xg = if (decide (kd = .offered) || decide (kd = .called)) = true then 20 else 41 := by unfold codeL; rw [if_neg n1, if_pos e1]
        refine iteT ⟨_, rfl, by show 2 ≤ sizeLine; decide, fun l2 hl2 => ?_⟩
        have s3 := (s1.trans s2).trans (same_upd (o := .lst [.str "offered", .str "called"]) hl2)
        refine ⟨_, _, rfl, .inl (SqL.of upd_same), rfl, rfl, _, rfl, ?_⟩
        have eb : inV (V.str kd.s) [.str "offered", .str "called"] = (decide (kd = .offered) || decide (kd = .called)) := by cases kd <;> rfl
        show (if inV (V.str kd.s) [.str "offered", .str "called"] = true then _ else _)
        rw [eb]
        cases ebf : (decide (kd = .offered) || decide (kd = .called)) with
        | true =>
          rw [ec, ebf, if_pos rfl] at k
          exact iteT (k _ s3)
        | false =>
          rw [ec, ebf, if_neg Bool.false_ne_true] at k
          exact iteF (k _ s3)
      · rw [decide_eq_false e1]
        exact iteF ⟨rfl, Same.refl _, e1⟩
    rintro σ' H3 ⟨rfl, s3, n2⟩
    refine ⟨fun σ' H' => σ' = [some (.str kd.s), some (.str vb.s), some xo, some xg, some (.bl kd.talk)] ∧ Same H3 H' ∧ (decide (vb = .call) || decide (vb = .sign)) = false, ?_, ?_⟩
    · refine ⟨_, rfl, by show 2 ≤ sizeLine; decide, fun l2 hl2 => ?_⟩
      have s4 := same_upd (o := .lst [.str "CALL", .str "SIGN"]) hl2
      refine ⟨_, _, rfl, .inl (SqL.of upd_same), rfl, rfl, _, rfl, ?_⟩
      have eb : inV (V.str vb.s) [.str "CALL", .str "SIGN"] = (decide (vb = .call) || decide (vb = .sign)) := by cases vb <;> rfl
      show (if inV (V.str vb.s) [.str "CALL", .str "SIGN"] = true then _ else _)
      rw [eb]
      cases ebf : (decide (vb = .call) || decide (vb = .sign)) with
      | true =>
        have ec : codeL kd vb o xg = 50 := by unfold codeL; rw [if_neg n1, if_neg n2, if_pos ebf]
        rw [ec] at k
        exact iteT (k _ (((s1.trans s2).trans s3).trans s4))
      | false => exact iteF ⟨rfl, s4, rfl⟩
    rintro σ' H4 ⟨rfl, s4, n3⟩
    have n3' : ¬ (decide (vb = .call) || decide (vb = .sign)) = true := by rw [n3]; exact Bool.false_ne_true
    refine ⟨fun σ' H' => σ' = [some (.str kd.s), some (.str vb.s), some xo, some xg, some (.bl kd.talk)] ∧ Same H4 H' ∧ kd.bef = false, ?_, ?_⟩
    · refine ⟨_, rfl, by show 2 ≤ sizeLine; decide, fun l2 hl2 => ?_⟩
      have s5 := same_upd (o := .lst [.str "calling", .str "ringing"]) hl2
      refine ⟨_, _, rfl, .inl (SqL.of upd_same), rfl, rfl, _, rfl, ?_⟩
      have eb : inV (V.str kd.s) [.str "calling", .str "ringing"] = kd.bef := by cases kd <;> rfl
      show (if inV (V.str kd.s) [.str "calling", .str "ringing"] = true then _ else _)
      rw [eb]
      cases ebf : kd.bef with
      | true =>
        have ec : codeL kd vb o xg = 50 := by unfold codeL; rw [if_neg n1, if_neg n2, if_neg n3', if_pos ebf]
        rw [ec] at k
        exact iteT (k _ ((((s1.trans s2).trans s3).trans s4).trans s5))
      | false => exact iteF ⟨rfl, s5, rfl⟩
    rintro σ' H5 ⟨rfl, s5, n4⟩
    have n4' : ¬ kd.bef = true := by rw [n4]; exact Bool.false_ne_true
    have s15 := (((s1.trans s2).trans s3).trans s4).trans s5
    refine ⟨fun σ' H' => σ' = [some (.str kd.s), some (.str vb.s), some xo, some xg, some (.bl kd.talk)] ∧ H' = H5 ∧ kd.talk = true, ?_, ?_⟩
    · refine ⟨_, rfl, _, rfl, ?_⟩
      cases et : kd.talk with
      | true => exact iteF ⟨rfl, rfl, rfl⟩
      | false =>
        have ec : codeL kd vb o xg = 41 := by unfold codeL; rw [if_neg n1, if_neg n2, if_neg n3', if_neg n4', if_pos et]
        rw [ec] at k
        exact iteT (k _ s15)
    rintro σ' H6 ⟨rfl, e9, n5⟩
    obtain rfl : H5 = H6 := e9.symm
    have n5' : ¬ kd.talk = false := by rw [n5]; exact fun z => nomatch z
    refine ⟨fun σ' H' => σ' = [some (.str kd.s), some (.str vb.s), some xo, some xg, some (.bl kd.talk)] ∧ H' = H5 ∧ vb ≠ .turn, ?_, ?_⟩
    · refine ⟨_, rfl, rfl, _, rfl, ?_⟩
      rw [show decide (V.str vb.s = V.str "TURN") = decide (vb = .turn) from vb_is vb .turn]
      by_cases e1 : vb = .turn
      · rw [decide_eq_true e1]
        have ec : codeL kd vb o xg = turnC o := by unfold codeL; rw [if_neg n1, if_neg n2, if_neg n3', if_neg n4', if_neg n5', if_pos e1]
        rw [ec] at k
        exact iteT ⟨_, rfl, _, rfl, kd.s, xo, o, rfl, ho.same s15, k _ s15⟩
      · rw [decide_eq_false e1]
        exact iteF ⟨rfl, rfl, e1⟩
    rintro σ' H6 ⟨rfl, e9, n6⟩
    obtain rfl : H5 = H6 := e9.symm
    have ec : codeL kd vb o xg = if vb = .move ∧ xg = .non then 50 else 20 := by unfold codeL; rw [if_neg n1, if_neg n2, if_neg n3', if_neg n4', if_neg n5', if_neg n6]
    refine ⟨fun σ' H' => H' = H5 ∧ ¬ (vb = .move ∧ xg = .non), ?_, ?_⟩
    · refine ⟨_, rfl, rfl, _, rfl, ?_⟩
      rw [show decide (V.str vb.s = V.str "MOVE") = decide (vb = .move) from vb_is vb .move]
      by_cases e1 : vb = .move
      · rw [decide_eq_true e1]
        refine iteT ⟨_, rfl, rfl, _, rfl, ?_⟩
        rcases hg with rfl | rfl
        · rw [ec, if_pos ⟨e1, rfl⟩] at k
          exact iteT (k _ s15)
        · exact iteF ⟨rfl, fun z => by cases z.2⟩
      · rw [decide_eq_false e1]
        exact iteF (iteF ⟨rfl, fun z => e1 z.1⟩)
    rintro σ' H6 ⟨e9, n7⟩
    obtain rfl : H5 = H6 := e9.symm
    rw [ec, if_neg n7] at k
    exact k _ s15
def dueSt (z : Str) (kd : Kd) (vb : Vb) (n : Int) : Str := if n = 20 ∧ (vb = .end_ ∨ vb = .stop ∧ kd = .offered) then "over" else z
def spLState : Sp := fun vs H Q _ => ∃ (z : Str) (kd : Kd) (vb : Vb) (n : Int), vs = [.str z, .str kd.s, .str vb.s, .int n] ∧ Q (.str (dueSt z kd vb n)) H
theorem ok_law_due_state {P : Program} {w : World} {K : PySem.W.Frag} {mg : Str → Option Value} {base : Heap} {f : Addr} {fd : FuncData} (T : Tx K mg) 
    (F : FunD K "_law_due_state" "_law_due_state" (defArgs s_law_due_state) (defBody s_law_due_state) (defScope s_law_due_state) [] [] f fd) : FnOk P w K mg base CX0 1 f fd ["leg_state", "kind", "verb", "code"] spLState := by
  refine F.ok sc_law_due_state (fun vs H Q E h => ?_) (fun cdv A outer s0 H vs Q E hr h => ?_)
  · obtain ⟨z, kd, vb, n, rfl, _⟩ := h
    rfl
  · obtain ⟨z, kd, vb, n, rfl, k⟩ := h
    refine ⟨_, PSs.nox (C8.pss_cut (ps_if (PW.pt (pw_and (pt_cmpR op_eq (pv 3) pe_int (nomark _)) (pw_and1 (PW.pt (pw_or (pt_cmpR op_eq (pv 2) pe_str (nomark _)) (pw_or1 (PW.pt (pw_and (pt_cmpR op_eq (pv 2) pe_str (nomark _)) (pw_and1 (pt_cmpR op_eq (pv 1) pe_str (nomark _))))))))))) (pss_one (ps_ret pe_str)) pss_nil) (pss_one (ps_ret (pv 0)))), ?_⟩
    refine ⟨fun σ' H' => σ' = [some (.str z), some (.str kd.s), some (.str vb.s), some (.int n)] ∧ H' = H ∧ ¬ (n = 20 ∧ (vb = .end_ ∨ vb = .stop ∧ kd = .offered)), ?_, ?_⟩
    · refine ⟨_, rfl, rfl, _, rfl, ?_⟩
      rw [dcode]
      by_cases e : n = 20
      · rw [decide_eq_true e]
        refine iteT ⟨_, rfl, rfl, _, rfl, ?_⟩
        rw [show decide (V.str vb.s = V.str "END") = decide (vb = .end_) from vb_is vb .end_]
        by_cases e1 : vb = .end_
        · rw [decide_eq_true e1]
          rw [show dueSt z kd vb n = "over" from if_pos ⟨e, .inl e1⟩] at k
          exact iteT (iteT k)
        · rw [decide_eq_false e1]
          refine iteF ⟨_, rfl, rfl, _, rfl, ?_⟩
          rw [show decide (V.str vb.s = V.str "STOP") = decide (vb = .stop) from vb_is vb .stop]
          by_cases e2 : vb = .stop
          · rw [decide_eq_true e2]
            refine iteT ⟨_, rfl, rfl, _, rfl, ?_⟩
            rw [show decide (V.str kd.s = V.str "offered") = decide (kd = .offered) from kd_is kd .offered]
            by_cases e3 : kd = .offered
            · rw [decide_eq_true e3]
              rw [show dueSt z kd vb n = "over" from if_pos ⟨e, .inr ⟨e2, e3⟩⟩] at k
              exact iteT k
            · rw [decide_eq_false e3]
              exact iteF ⟨rfl, rfl, fun q => by rcases q.2 with q | q; exact e1 q; exact e3 q.2⟩
          · rw [decide_eq_false e2]
            exact iteF (iteF ⟨rfl, rfl, fun q => by rcases q.2 with q | q; exact e1 q; exact e2 q.1⟩)
      · rw [decide_eq_false e]
        exact iteF (iteF ⟨rfl, rfl, fun q => e q.1⟩)
    rintro σ' H' ⟨rfl, e9, n1⟩
    obtain rfl : H = H' := e9.symm
    rw [show dueSt z kd vb n = z from if_neg n1] at k
    exact ⟨_, rfl, k⟩

end K7
set_option maxHeartbeats 4000000
set_option pp.maxSteps 400
namespace K7
open PySem PySem.Spec PyProof.Rows L2 SX TK TKS TKC
open C8 (pe_c)
/-! data -/
def dataF (o : Off) : PyData := .tuple [.int o.port, .str o.mode, .tuple (o.fs.map PyData.str)]
def dataO : Option Off → PyData
  | none => .none
  | some o => dataF o
theorem dp_strs {K : PySem.W.Frag} {H : Hp} : ∀ l : List Str, DpAll K H (l.map V.str) (l.map PyData.str)
  | [] => .nil
  | z :: l => .cons (.str z) (dp_strs l)
theorem OffO.dp {K : PySem.W.Frag} {H : Hp} {x : V} {o : Option Off} (h : OffO H x o) : Dp K H x (dataO o) := by
  cases o with
  | none =>
    cases (show x = .non from h)
    exact .non
  | some o =>
    obtain ⟨p, f, rfl, e1, e2⟩ := h
    exact .tup (SqT.of e1) (.cons (.int _) (.cons (.str _) (.cons (.tup (SqT.of e2) (dp_strs _)) .nil)))
theorem lay_strs : ∀ l : List Str, (∀ z ∈ l, PyData.strOk z = true) → PyData.canLayAll0 (l.map PyData.str) = true
  | [], _ => by simp [PyData.canLayAll0]
  | z :: l, h => by simp [PyData.canLayAll0, PyData.canLay0, h z (by simp), lay_strs l fun y hy => h y (List.mem_cons_of_mem _ hy)]
theorem depth_strs : ∀ l : List Str, PyData.depthAll (l.map PyData.str) ≤ 1
  | [] => by simp [PyData.depthAll]
  | z :: l => by
    have := depth_strs l
    simp [PyData.depthAll, PyData.depth]
    omega
theorem dataO_ok {o : Option Off} (h : ∀ u, o = some u → GoodO u) : (dataO o).canLay0 = true ∧ (dataO o).depth ≤ 3 := by
  cases o with
  | none => exact ⟨by simp [dataO, PyData.canLay0], by simp [dataO, PyData.depth]⟩
  | some o =>
    have g := h o rfl
    have d := depth_strs o.fs
    refine ⟨by simp [dataO, dataF, PyData.canLay0, PyData.canLayAll0, (modes_lenS _ g.m).2.2, lay_strs _ fun z hz => name_ok (g.f z hz)], ?_⟩
    simp [dataO, dataF, PyData.depth, PyData.depthAll]
    omega
theorem shaped_of {d : PyData} (h : d.canLay0 = true) (l : d.depth ≤ 9) : SeqAt.shaped d = true := by
  unfold SeqAt.shaped
  rw [h, Bool.true_and, decide_eq_true_eq]
  omega
/-! events that are due -/
def evs (kd : Kd) (vb : Vb) (n : Int) (xo xg : V) : Option (List V) :=
  if n ≠ 20 then none else if vb = .end_ then some [.str "over", .str "ended", .int 20] else if vb = .stop ∧ kd = .offered then some [.str "over", .str "stopped", .int 45]
  else if vb = .turn then some [.str "turned", xo] else if vb = .move then some [.str "moved", xg] else none
def EvsAt (H : Hp) (D : Addr) : Option (List V) → Prop
  | none => H D = some (.lst [])
  | some xs => ∃ t, H D = some (.lst [.ref t]) ∧ H t = some (.tup xs)
def spLEvents : Sp := fun vs H Q _ => ∃ (kd : Kd) (vb : Vb) (n : Int) (xo xg : V), vs = [.str kd.s, .str vb.s, .int n, xo, xg] ∧ ∀ D H', Same H H' → EvsAt H' D (evs kd vb n xo xg) → Q (.ref D) H'
theorem ev_one {H : Hp} {xs : List V} {Q : VK} (hn : xs.length ≤ sizeLine) (k : ∀ D H', Same H H' → EvsAt H' D (some xs) → Q (.ref D) H') : xs.length ≤ sizeLine ∧ ∀ t, H t = none → 1 ≤ sizeLine ∧ ∀ D, upd H t (.tup xs) D = none → Q (.ref D) (upd (upd H t (.tup xs)) D (.lst [.ref t])) := ⟨hn, fun t ht => ⟨by decide, fun D hD => by
  obtain ⟨n1, n2, s, q1, q2⟩ := new2 (u := .lst [.ref t]) ht hD
  exact k D _ s ⟨t, q2, q1⟩⟩⟩
theorem ok_law_due_events {P : Program} {w : World} {K : PySem.W.Frag} {mg : Str → Option Value} {base : Heap} {f : Addr} {fd : FuncData} (T : Tx K mg) 
    (F : FunD K "_law_due_events" "_law_due_events" (defArgs s_law_due_events) (defBody s_law_due_events) (defScope s_law_due_events) [] [] f fd) : FnOk P w K mg base CX0 1 f fd ["kind", "verb", "code", "offer", "goal"] spLEvents := by
  refine F.ok sc_law_due_events (fun vs H Q E h => ?_) (fun cdv A outer s0 H vs Q E hr h => ?_)
  · obtain ⟨kd, vb, n, xo, xg, rfl, _⟩ := h
    rfl
  · obtain ⟨kd, vb, n, xo, xg, rfl, k⟩ := h
    refine ⟨_, PSs.nox (C8.pss_cut (ps_if (pt_cmpR op_ne (pv 2) pe_int (nomark _)) (pss_one (ps_ret (pe_lst pa_nil))) pss_nil) (C8.pss_cut (ps_if (pt_cmpR op_eq (pv 1) pe_str (nomark _)) (pss_one (ps_ret (pe_lst (pa_cons (pe_tup (pa_cons pe_str (pa_cons pe_str (pa_cons pe_int pa_nil)))) pa_nil)))) pss_nil) (C8.pss_cut (ps_if (PW.pt (pw_and (pt_cmpR op_eq (pv 1) pe_str (nomark _)) (pw_and1 (pt_cmpR op_eq (pv 0) pe_str (nomark _))))) (pss_one (ps_ret (pe_lst (pa_cons (pe_tup (pa_cons pe_str (pa_cons pe_str (pa_cons pe_int pa_nil)))) pa_nil)))) pss_nil) (C8.pss_cut (ps_if (pt_cmpR op_eq (pv 1) pe_str (nomark _)) (pss_one (ps_ret (pe_lst (pa_cons (pe_tup (pa_cons pe_str (pa_cons (pv 3) pa_nil))) pa_nil)))) pss_nil) (C8.pss_cut (ps_if (pt_cmpR op_eq (pv 1) pe_str (nomark _)) (pss_one (ps_ret (pe_lst (pa_cons (pe_tup (pa_cons pe_str (pa_cons (pv 4) pa_nil))) pa_nil)))) pss_nil) (pss_one (ps_ret (pe_lst pa_nil)))))))), ?_⟩
    refine ⟨fun σ' H' => σ' = [some (.str kd.s), some (.str vb.s), some (.int n), some xo, some xg] ∧ H' = H ∧ n = 20, ?_, ?_⟩
    · refine ⟨_, rfl, rfl, _, rfl, ?_⟩
      rw [dcode]
      by_cases e : n = 20
      · rw [decide_eq_true e]
        exact iteF ⟨rfl, rfl, e⟩
      · rw [decide_eq_false e]
        rw [show evs kd vb n xo xg = none from if_pos e] at k
        exact iteT ⟨by show 0 ≤ sizeLine; decide, fun D hD => k D _ (same_upd hD) upd_same⟩
    rintro σ' H' ⟨rfl, e9, e⟩
    obtain rfl : H = H' := e9.symm
    have ne : ¬ n ≠ 20 := fun q => q e
    refine ⟨fun σ' H' => σ' = [some (.str kd.s), some (.str vb.s), some (.int n), some xo, some xg] ∧ H' = H ∧ vb ≠ .end_, ?_, ?_⟩
    · refine ⟨_, rfl, rfl, _, rfl, ?_⟩
      rw [show decide (V.str vb.s = V.str "END") = decide (vb = .end_) from vb_is vb .end_]
      by_cases e1 : vb = .end_
      · rw [decide_eq_true e1]
        rw [show evs kd vb n xo xg = some [.str "over", .str "ended", .int 20] by unfold evs; rw [if_neg ne, if_pos e1]] at k
        exact iteT (ev_one (by decide) k)
      · rw [decide_eq_false e1]
        exact iteF ⟨rfl, rfl, e1⟩
    rintro σ' H' ⟨rfl, e9, n1⟩
    obtain rfl : H = H' := e9.symm
    refine ⟨fun σ' H' => σ' = [some (.str kd.s), some (.str vb.s), some (.int n), some xo, some xg] ∧ H' = H ∧ ¬ (vb = .stop ∧ kd = .offered), ?_, ?_⟩
    · refine ⟨_, rfl, rfl, _, rfl, ?_⟩
      rw [show decide (V.str vb.s = V.str "STOP") = decide (vb = .stop) from vb_is vb .stop]
      by_cases e1 : vb = .stop
      · rw [decide_eq_true e1]
        refine iteT ⟨_, rfl, rfl, _, rfl, ?_⟩
        rw [show decide (V.str kd.s = V.str "offered") = decide (kd = .offered) from kd_is kd .offered]
        by_cases e2 : kd = .offered
        · rw [decide_eq_true e2]
          rw [show evs kd vb n xo xg = some [.str "over", .str "stopped", .int 45] by unfold evs; rw [if_neg ne, if_neg n1, if_pos ⟨e1, e2⟩]] at k
          exact iteT (ev_one (by decide) k)
        · rw [decide_eq_false e2]
          exact iteF ⟨rfl, rfl, fun q => e2 q.2⟩
      · rw [decide_eq_false e1]
        exact iteF (iteF ⟨rfl, rfl, fun q => e1 q.1⟩)
    rintro σ' H' ⟨rfl, e9, n2⟩
    obtain rfl : H = H' := e9.symm
    refine ⟨fun σ' H' => σ' = [some (.str kd.s), some (.str vb.s), some (.int n), some xo, some xg] ∧ H' = H ∧ vb ≠ .turn, ?_, ?_⟩
    · refine ⟨_, rfl, rfl, _, rfl, ?_⟩
      rw [show decide (V.str vb.s = V.str "TURN") = decide (vb = .turn) from vb_is vb .turn]
      by_cases e1 : vb = .turn
      · rw [decide_eq_true e1]
        rw [show evs kd vb n xo xg = some [.str "turned", xo] by unfold evs; rw [if_neg ne, if_neg n1, if_neg n2, if_pos e1]] at k
        exact iteT ⟨_, rfl, ev_one (by show 2 ≤ sizeLine; decide) k⟩
      · rw [decide_eq_false e1]
        exact iteF ⟨rfl, rfl, e1⟩
    rintro σ' H' ⟨rfl, e9, n3⟩
    obtain rfl : H = H' := e9.symm
    refine ⟨fun σ' H' => σ' = [some (.str kd.s), some (.str vb.s), some (.int n), some xo, some xg] ∧ H' = H ∧ vb ≠ .move, ?_, ?_⟩
    · refine ⟨_, rfl, rfl, _, rfl, ?_⟩
      rw [show decide (V.str vb.s = V.str "MOVE") = decide (vb = .move) from vb_is vb .move]
      by_cases e1 : vb = .move
      · rw [decide_eq_true e1]
        rw [show evs kd vb n xo xg = some [.str "moved", xg] by unfold evs; rw [if_neg ne, if_neg n1, if_neg n2, if_neg n3, if_pos e1]] at k
        exact iteT ⟨_, rfl, ev_one (by show 2 ≤ sizeLine; decide) k⟩
      · rw [decide_eq_false e1]
        exact iteF ⟨rfl, rfl, e1⟩
    rintro σ' H' ⟨rfl, e9, n4⟩
    obtain rfl : H = H' := e9.symm
    rw [show evs kd vb n xo xg = none by unfold evs; rw [if_neg ne, if_neg n1, if_neg n2, if_neg n3, if_neg n4]] at k
    exact ⟨by show 0 ≤ sizeLine; decide, fun D hD => k D _ (same_upd hD) upd_same⟩

end K7
set_option maxHeartbeats 4000000
set_option pp.maxSteps 400
namespace K7
open PySem PySem.Spec PyProof.Rows L2 SX TK TKS TKC
open C8 (pe_c)
/-! the answer that is due -/
def flipM (m : Str) : Str := if m = "send" then "take" else if m = "take" then "send" else m
def comL (u : Off) : List Str := u.fs.filter fun z => decide (z ∈ (["a", "b"] : List Str))
def ansL (u : Off) : Off := ⟨40, flipM u.mode, comL u⟩
def modesD : List (Key × V) := dkOf ["both", "send", "take", "none"] [.str "both", .str "take", .str "send", .str "none"]
theorem modes_get : ∀ m ∈ modesL, valV modesD (Sum.inr m) = some (.str (flipM m)) := by
  intro m hm
  simp only [modesL, List.mem_cons, List.not_mem_nil, or_false] at hm
  rcases hm with rfl | rfl | rfl | rfl <;> decide +kernel
def spLAnswer (K : PySem.W.Frag) : Sp := fun vs H Q _ => ∃ (xo : V) (u : Off), vs = [xo] ∧ OffAt H xo u ∧ u.mode ∈ modesL ∧ u.fs.length ≤ 100 ∧ ∀ z H', Same H H' → OffAt H' z (ansL u) → Q z H'
theorem ok_law_answer {P : Program} {w : World} {K : PySem.W.Frag} {mg : Str → Option Value} {base : Heap} {f : Addr} {fd : FuncData} (T : Tx K mg) 
    (F : FunD K "_law_answer" "_law_answer" (defArgs s_law_answer) (defBody s_law_answer) (defScope s_law_answer) [] [] f fd) : FnOk P w K mg base CX0 1 f fd ["offer"] (spLAnswer K) := by
  refine F.ok sc_law_answer (fun vs H Q E h => ?_) (fun cdv A outer s0 H vs Q E hr h => ?_)
  · obtain ⟨xo, u, rfl, _⟩ := h
    rfl
  · obtain ⟨xo, u, rfl, ⟨p, f, rfl, e1, e2⟩, hm, hn, k⟩ := h
    refine ⟨_, PSs.nox (pss_cons (ps_set (i := 1) sc_law_answer.nd rfl (Or.inl rfl) (pe_callTy call_tuple_of rfl T.f_tuple (by decide +kernel) (pa_cons (pe_lc (own := [("name", 2)]) (g := gName 2) rfl sc_law_answer.nd (pi_tup (pe_ix ix_tup (pv 0) pe_int (fun _ _ => rfl))) (blkOk_by (own := [("name", 2)]) (N := ["offer", "formats", "name"]) (sc := defScope s_law_answer) (by decide +kernel)) (fun _ _ _ _ _ => pg_name (i := 2) sc_law_answer.nd rfl (Or.inl rfl)) (fun _ _ _ _ _ => pts_one (pt_cmpR (inSeqK K rfl) (pv 2) (pe_lst (pa_cons pe_str (pa_cons pe_str pa_nil))) (by with_unfolding_all rfl))) (fun _ _ _ _ _ => (pv 2))) pa_nil))) (pss_one (ps_ret (pe_tup (pa_cons pe_int (pa_cons (pe_dget (hu_of hr) (pe_disp (pps_cons pe_str pe_str (pps_cons pe_str pe_str (pps_cons pe_str pe_str (pps_cons pe_str pe_str pps_nil)))) rfl rfl (by simp) (by decide)) (pe_ix ix_tup (pv 0) pe_int (fun _ _ => rfl)) (fun _ _ => rfl)) (pa_cons (pv 1) pa_nil))))))), ?_⟩
    refine ⟨_, rfl, p, _, 2, .ref f, rfl, rfl, SqT.of e1, rfl, f, rfl, ⟨_, SqT.of e2⟩, fun D hD => ?_⟩
    refine lc_it walk_tup (fun i H' => Same H H' ∧ H' D = some (.lst (((u.fs.take i).filter fun z => decide (z ∈ (["a", "b"] : List Str))).map V.str))) ⟨same_upd hD, upd_same⟩ (fun i H' _ q => SqT.of (q.1 _ _ e2)) (fun i x H1 H2 hi q y => ?_) (fun H1 q => ?_)
    · obtain ⟨s1, d1⟩ := q
      obtain ⟨rfl, hx⟩ := y
      rw [List.getElem?_map] at hx
      obtain ⟨z, hz, rfl⟩ := Option.map_eq_some_iff.mp hx
      obtain ⟨hlt, ez⟩ := List.getElem?_eq_some_iff.mp hz
      have et : u.fs.take (i + 1) = u.fs.take i ++ [z] := by rw [List.take_succ_eq_append_getElem hlt, ez]
      refine ⟨rfl, _, rfl, by show 2 ≤ sizeLine; decide, fun l hl => ?_⟩
      have sl := same_upd (o := .lst [.str "a", .str "b"]) hl
      refine ⟨_, _, rfl, .inl (SqL.of upd_same), rfl, rfl, _, rfl, ?_⟩
      have ei : inV (V.str z) [.str "a", .str "b"] = decide (z ∈ (["a", "b"] : List Str)) := inV_strs z ["a", "b"]
      rw [ei, et, List.filter_append, List.map_append]
      cases eb : decide (z ∈ (["a", "b"] : List Str)) with
      | false =>
        refine iteF ⟨s1.trans sl, ?_⟩
        rw [List.filter_cons_of_neg (by rw [eb]; exact Bool.false_ne_true)]
        rw [List.filter_nil, List.map_nil, List.append_nil]
        exact sl _ _ d1
      | true =>
        refine iteT ⟨_, rfl, _, sl _ _ d1, ?_, TK.Same.upd_of (s1.trans sl) hD, ?_⟩
        · rw [List.length_map]
          have h1 := List.length_filter_le (fun z => decide (z ∈ (["a", "b"] : List Str))) (u.fs.take i)
          have h2 := List.length_take_le i u.fs
          have : i < u.fs.length := hlt
          exact Nat.lt_of_le_of_lt (by omega : _ ≤ 100) (by decide)
        · rw [upd_same, List.filter_cons_of_pos (by rw [eb])]
          rfl
    · obtain ⟨s1, d1⟩ := q
      rw [List.length_map, List.take_length] at d1
      refine ⟨D, _, rfl, .inl ⟨SqL.of d1, fun g hg => ?_⟩⟩
      have sg := same_upd (o := .tup ((u.fs.filter fun z => decide (z ∈ (["a", "b"] : List Str))).map V.str)) hg
      have eg : (upd H1 g (.tup ((u.fs.filter fun z => decide (z ∈ (["a", "b"] : List Str))).map V.str))) g = some (.tup ((comL u).map V.str)) := upd_same
      have s2 := s1.trans sg
      generalize (upd H1 g (.tup ((u.fs.filter fun z => decide (z ∈ (["a", "b"] : List Str))).map V.str))) = H2 at sg eg s2 ⊢
      intro d hd
      refine ⟨upd_same, modesD, rfl, by show 4 ≤ 15; decide, ?_⟩
      rw [upd_upd, show mergeK [] modesD = modesD from merge_dk0 rfl (by decide +kernel)]
      have sd := same_upd (o := .dK modesD) hd
      refine ⟨_, rfl, p, _, 1, .str u.mode, rfl, rfl, SqT.of ((s2.trans sd) _ _ e1), rfl, d, .str (flipM u.mode), rfl, .inl ⟨modesD, Sum.inr u.mode, .inl upd_same, rfl, (modes_get _ hm).symm⟩, ?_⟩
      refine ⟨_, rfl, by show 3 ≤ sizeLine; decide, fun t ht => ?_⟩
      have st := same_upd (o := .tup [.int 40, .str (flipM u.mode), .ref g]) ht
      exact k _ _ ((s2.trans sd).trans st) ⟨t, g, rfl, upd_same, st _ _ (sd _ _ eg)⟩
/-! replies, held against what is due -/
structure RepAt (K : PySem.W.Frag) (H : Hp) (b : Addr) (verb : Str) (n : Int) (L : Ltr) : Prop where
  at_ : LetAt K H b L
  v : L.verb = verb
  c : L.code = .int n
def dueO (vb : Vb) (n : Int) (o : Option Off) : Option Off := if vb = .turn ∧ n = 20 then o.map ansL else none
theorem eqv_strs : ∀ l : List Str, PyData.eqvAll (l.map PyData.str) (l.map PyData.str) = true
  | [] => by simp [PyData.eqvAll]
  | z :: l => by simp [PyData.eqvAll, PyData.eqv, eqv_strs l]
def spLRight (K : PySem.W.Frag) : Sp := fun vs H Q _ => ∃ (D : Addr) (kd : Kd) (vb : Vb) (n seq : Int) (xo : V) (o : Option Off) (b : Addr) (L : Ltr), vs = [.ref D, .str kd.s, .str vb.s, .int n, xo, .int seq] ∧ OffO H xo o ∧ (∀ u, o = some u → GoodO u) ∧ (vb = .turn → n = 20 → ∃ u, o = some u ∧ GoodO (ansL u)) ∧
  RepAt K H b vb.s n L ∧ L.seq = seq ∧ L.ttag = "x1" ∧ L.otag = "y1" ∧ OffO H L.offer (dueO vb n o) ∧
  ((¬ (kd = .offered ∧ vb = .stop) ∧ H D = some (.lst [.ref b])) ∨ (kd = .offered ∧ vb = .stop ∧ ∃ b0 L0, RepAt K H b0 "CALL" 45 L0 ∧ H D = some (.lst [.ref b0, .ref b]))) ∧ ∀ H', Same H H' → Q (.bl true) H'
theorem ok_law_replies_right {P : Program} {w : World} {K : PySem.W.Frag} {mg : Str → Option Value} {base : Heap} {f : Addr} {fd : FuncData} (T : Tx K mg) (c_law_answer : C8.Cal P w K mg base 1 "_law_answer" (spLAnswer K) [])
    (F : FunD K "_law_replies_right" "_law_replies_right" (defArgs s_law_replies_right) (defBody s_law_replies_right) (defScope s_law_replies_right) [] [] f fd) : FnOk P w K mg base CX0 2 f fd ["replies", "kind", "verb", "code", "offer", "seq"] (spLRight K) := by
  refine F.ok sc_law_replies_right (fun vs H Q E h => ?_) (fun cdv A outer s0 H vs Q E hr h => ?_)
  · obtain ⟨D, kd, vb, n, seq, xo, o, b, L, rfl, _⟩ := h
    rfl
  · obtain ⟨D, kd, vb, n, seq, xo, o, b, L, rfl, ho, hg, hta, hr_, es, et, eo, hof, hD, k⟩ := h
    refine ⟨_, PSs.nox (C8.pss_cut (ps_if (PW.pt (pw_and (pt_cmpR op_eq (pv 1) pe_str (nomark _)) (pw_and1 (pt_cmpR op_eq (pv 2) pe_str (nomark _))))) (C8.pss_cut (ps_if (PW.pt (pw_or (pt_cmpR op_ne (pe_callB call_len_seq rfl T.f_len PySem.boot_len (pa_cons (pv 0) pa_nil)) pe_int (nomark _)) (pw_or (pt_cmpR op_ne (pe_fldC rfl T.cl_Letter T.na_Letter_verb (pe_ix ix_list (pv 0) pe_int (fun _ _ => rfl)) rfl) pe_str (nomark _)) (pw_or1 (pt_cmpR op_ne (pe_fldC rfl T.cl_Letter T.na_Letter_code (pe_ix ix_list (pv 0) pe_int (fun _ _ => rfl)) rfl) pe_int (nomark _)))))) (pss_one (ps_ret pe_bl)) pss_nil) (pss_one (ps_set (i := 0) sc_law_replies_right.nd rfl (Or.inl rfl) (pe_slice sl_list (pv 0) (po_some pe_int) po_none)))) pss_nil) (C8.pss_cut (ps_if (PW.pt (pw_or (pt_cmpR op_ne (pe_callB call_len_seq rfl T.f_len PySem.boot_len (pa_cons (pv 0) pa_nil)) pe_int (nomark _)) (pw_or (pt_cmpR op_ne (pe_fldC rfl T.cl_Letter T.na_Letter_code (pe_ix ix_list (pv 0) pe_int (fun _ _ => rfl)) rfl) (pv 3) (nomark _)) (pw_or (pt_cmpR op_ne (pe_fldC rfl T.cl_Letter T.na_Letter_verb (pe_ix ix_list (pv 0) pe_int (fun _ _ => rfl)) rfl) (pv 2) (nomark _)) (pw_or1 (pt_cmpR op_ne (pe_fldC rfl T.cl_Letter T.na_Letter_seq (pe_ix ix_list (pv 0) pe_int (fun _ _ => rfl)) rfl) (pv 5) (nomark _))))))) (pss_one (ps_ret pe_bl)) pss_nil) (pss_cons (ps_set (i := 6) sc_law_replies_right.nd rfl (Or.inl rfl) pe_non) (C8.pss_cut (ps_if (PW.pt (pw_and (pt_cmpR op_eq (pv 2) pe_str (nomark _)) (pw_and1 (pt_cmpR op_eq (pv 3) pe_int (nomark _))))) (pss_one (ps_set (i := 6) sc_law_replies_right.nd rfl (Or.inl rfl) (pe_c c_law_answer hr (by decide) rfl (pa_cons (pv 4) pa_nil)))) pss_nil) (pss_one (ps_ret (pe_and (pe_cmpR (op_eqD hr.units) (pe_fldC rfl T.cl_Letter T.na_Letter_offer (pe_ix ix_list (pv 0) pe_int (fun _ _ => rfl)) rfl) (pv 6) (nomark _)) (pe_and (pe_cmpR op_eq (pe_fldC rfl T.cl_Letter T.na_Letter_target_tag (pe_ix ix_list (pv 0) pe_int (fun _ _ => rfl)) rfl) pe_str (nomark _)) (pe_one (pe_cmpR op_eq (pe_fldC rfl T.cl_Letter T.na_Letter_origin_tag (pe_ix ix_list (pv 0) pe_int (fun _ _ => rfl)) rfl) pe_str (nomark _))))))))))), ?_⟩
    refine ⟨fun σ' H' => ∃ D', σ' = [some (.ref D'), some (.str kd.s), some (.str vb.s), some (.int n), some xo, some (.int seq), none] ∧ Same H H' ∧ H' D' = some (.lst [.ref b]), ?_, ?_⟩
    · refine ⟨_, rfl, rfl, _, rfl, ?_⟩
      rw [show decide (V.str kd.s = V.str "offered") = decide (kd = .offered) from kd_is kd .offered]
      rcases hD with ⟨nn, hD⟩ | ⟨e1, e2, b0, L0, ⟨⟨d0, h0⟩, v0, c0⟩, hD⟩
      · by_cases e1 : kd = .offered
        · rw [decide_eq_true e1]
          refine iteT ⟨_, rfl, rfl, _, rfl, ?_⟩
          rw [show decide (V.str vb.s = V.str "STOP") = decide (vb = .stop) from vb_is vb .stop, decide_eq_false fun q => nn ⟨e1, q⟩]
          exact iteF ⟨D, rfl, Same.refl H, hD⟩
        · rw [decide_eq_false e1]
          exact iteF (iteF ⟨D, rfl, Same.refl H, hD⟩)
      · rw [decide_eq_true e1]
        refine iteT ⟨_, rfl, rfl, _, rfl, ?_⟩
        rw [show decide (V.str vb.s = V.str "STOP") = decide (vb = .stop) from vb_is vb .stop, decide_eq_true e2]
        refine iteT ?_
        refine ⟨fun σ' H' => σ' = [some (.ref D), some (.str kd.s), some (.str vb.s), some (.int n), some xo, some (.int seq), none] ∧ H' = H, ?_, ?_⟩
        · refine ⟨_, rfl, D, _, rfl, .inl (SqL.of hD), rfl, _, rfl, ?_⟩
          refine iteF ⟨_, rfl, D, _, 0, .ref b0, rfl, rfl, SqL.of hD, rfl, b0, d0, _, _, rfl, h0, rfl, rfl, _, rfl, ?_⟩
          rw [vstr, decide_eq_true v0]
          refine iteF ⟨_, rfl, D, _, 0, .ref b0, rfl, rfl, SqL.of hD, rfl, b0, d0, _, _, rfl, h0, rfl, (by rw [c0]; rfl), _, rfl, ?_⟩
          rw [c0]
          exact iteF ⟨rfl, rfl⟩
        · rintro σ' H1 ⟨rfl, e9⟩
          obtain rfl : H = H1 := e9.symm
          refine ⟨_, rfl, 1, rfl, D, _, rfl, SqL.of hD, fun q hq => ⟨q, rfl, same_upd hq, ?_⟩⟩
          rw [upd_same]
          rfl
    rintro σ' H1 ⟨D', rfl, s1, hD1⟩
    obtain ⟨⟨db, hb⟩, ev, ec⟩ := hr_
    have hb1 := s1 _ _ hb
    refine ⟨fun σ' H' => σ' = [some (.ref D'), some (.str kd.s), some (.str vb.s), some (.int n), some xo, some (.int seq), none] ∧ H' = H1, ?_, ?_⟩
    · refine ⟨_, rfl, D', _, rfl, .inl (SqL.of hD1), rfl, _, rfl, ?_⟩
      refine iteF ⟨_, rfl, D', _, 0, .ref b, rfl, rfl, SqL.of hD1, rfl, b, db, _, _, rfl, hb1, rfl, _, rfl, (by rw [ec]; rfl), _, rfl, ?_⟩
      rw [ec, dcode, decide_eq_true rfl]
      refine iteF ⟨_, rfl, D', _, 0, .ref b, rfl, rfl, SqL.of hD1, rfl, b, db, _, _, rfl, hb1, rfl, _, rfl, rfl, _, rfl, ?_⟩
      rw [vstr, decide_eq_true ev]
      refine iteF ⟨_, rfl, D', _, 0, .ref b, rfl, rfl, SqL.of hD1, rfl, b, db, _, _, rfl, hb1, rfl, _, rfl, rfl, _, rfl, ?_⟩
      rw [dcode, decide_eq_true es]
      exact iteF ⟨rfl, rfl⟩
    rintro σ' H2 ⟨rfl, e9⟩
    obtain rfl : H1 = H2 := e9.symm
    -- the offer that is due
    refine ⟨fun σ' H' => ∃ z, σ' = [some (.ref D'), some (.str kd.s), some (.str vb.s), some (.int n), some xo, some (.int seq), some z] ∧ Same H1 H' ∧ OffO H' z (dueO vb n o), ?_, ?_⟩
    · refine ⟨_, rfl, rfl, _, rfl, ?_⟩
      rw [show decide (V.str vb.s = V.str "TURN") = decide (vb = .turn) from vb_is vb .turn]
      by_cases e1 : vb = .turn
      · rw [decide_eq_true e1]
        refine iteT ⟨_, rfl, rfl, _, rfl, ?_⟩
        rw [dcode]
        by_cases e2 : n = 20
        · rw [decide_eq_true e2]
          obtain ⟨u, eu, ga⟩ := hta e1 e2
          rw [eu] at ho
          have gu := hg u eu
          refine iteT ⟨_, rfl, xo, u, rfl, OffAt.same ho s1, gu.m, Nat.le_trans gu.n (by decide), fun z H3 s3 hz => ⟨z, rfl, s3, ?_⟩⟩
          rw [show dueO vb n o = some (ansL u) by unfold dueO; rw [if_pos ⟨e1, e2⟩, eu]; rfl]
          exact hz
        · rw [decide_eq_false e2]
          refine iteF ⟨.non, rfl, Same.refl _, ?_⟩
          rw [show dueO vb n o = none from if_neg fun q => e2 q.2]
          rfl
      · rw [decide_eq_false e1]
        refine iteF (iteF ⟨.non, rfl, Same.refl _, ?_⟩)
        rw [show dueO vb n o = none from if_neg fun q => e1 q.1]
        rfl
    rintro σ' H3 ⟨z, rfl, s3, hz⟩
    have hD3 := s3 _ _ hD1
    have hb3 := s3 _ _ hb1
    have gd : ∀ u, dueO vb n o = some u → GoodO u := fun u eu => by
      unfold dueO at eu
      by_cases q : vb = .turn ∧ n = 20
      · rw [if_pos q] at eu
        obtain ⟨u0, e0, g0⟩ := hta q.1 q.2
        rw [e0] at eu
        cases eu
        exact g0
      · rw [if_neg q] at eu
        cases eu
    obtain ⟨d1, d2⟩ := dataO_ok gd
    have sh := shaped_of d1 (Nat.le_trans d2 (by decide))
    refine ⟨_, rfl, D', _, 0, .ref b, rfl, rfl, SqL.of hD3, rfl, b, db, _, _, rfl, hb3, rfl, _, rfl, dataO (dueO vb n o), dataO (dueO vb n o), OffO.dp ((hof.same s1).same s3), OffO.dp hz, sh, sh, ?_⟩
    rw [SeqAt.eqv_refl _ d1]
    refine ⟨_, rfl, iteT ⟨_, rfl, D', _, 0, .ref b, rfl, rfl, SqL.of hD3, rfl, b, db, _, _, rfl, hb3, rfl, rfl, ?_⟩⟩
    rw [vstr, decide_eq_true et]
    refine ⟨_, rfl, iteT ⟨_, rfl, D', _, 0, .ref b, rfl, rfl, SqL.of hD3, rfl, b, db, _, _, rfl, hb3, rfl, rfl, ?_⟩⟩
    rw [vstr, decide_eq_true eo]
    exact k _ (s1.trans s3)

end K7
set_option maxHeartbeats 4000000
set_option pp.maxSteps 400
namespace K7
open PySem PySem.Spec PyProof.Rows L2 SX TK TKS TKC
open C8 (pe_c)
/-! ### the law: what a new request makes -/
instance offDec : DecidableEq Off := fun a b => if h : a.port = b.port ∧ a.mode = b.mode ∧ a.fs = b.fs then isTrue (by
    obtain ⟨p, m, f⟩ := a
    obtain ⟨p', m', f'⟩ := b
    obtain ⟨h1, h2, h3⟩ := h
    cases h1
    cases h2
    cases h3
    rfl) else isFalse fun e => h (by subst e; exact ⟨rfl, rfl, rfl⟩)
def plK (kd : Kd) (vb : Vb) (took : Bool) (o : Option Off) (xg : V) : Option Int :=
  if vb = .end_ then (if (kd.talk || kd.bef) = true then none else some 41)
  else if vb = .stop then (if kd = .offered then none else some (if (kd.talk && took) = true then 20 else 41))
  else if (decide (vb = .call) || decide (vb = .sign)) = true ∨ kd.bef = true then some 50
  else if kd.talk = false then some 41
  else if vb = .turn then (match o with
    | none => some 50
    | some u => if answerO ableO u = none then some 46 else none)
  else if vb = .move then (if xg = .non then some 50 else none)
  else some 20
theorem vb_eq (v : Vb) : (v.s = "END" ↔ v = .end_) ∧ (v.s = "STOP" ↔ v = .stop) ∧ (v.s = "TURN" ↔ v = .turn) ∧ (v.s = "MOVE" ↔ v = .move) ∧ asking v.s = !(decide (v = .end_) || decide (v = .stop) || (decide (v = .call) || decide (v = .sign))) := by cases v <;> decide +kernel
theorem kd_eq (k : Kd) : endB k.st = (k.talk || k.bef) ∧ before k.st = k.bef ∧ (k.st = "offered" ↔ k = .offered) ∧ (k.st = "talking" ↔ k.talk = true) ∧ decide (k.st = "talking") = k.talk := by cases k <;> decide +kernel
theorem plain_eq {R : LegR} {s : SvR} {kd : Kd} {vb : Vb} {took : Bool} {o : Option Off} {xg : V} (h1 : R.st = kd.st) (h2 : s.L.verb = vb.s) (h3 : R.took = took) (h4 : s.o = o) (h5 : s.L.goal = xg) (h6 : R.able = ableO) : plainC R s = plK kd vb took o xg := by
  obtain ⟨v1, v2, v3, v4, v5⟩ := vb_eq vb
  obtain ⟨k1, k2, k3, k4, k5⟩ := kd_eq kd
  unfold plainC plK
  rw [h1, h2, h3, h4, h5, h6, k1, k2, k5]
  by_cases e1 : vb = .end_
  · rw [if_pos (v1.mpr e1), if_pos e1]
  rw [if_neg (fun q => e1 (v1.mp q)), if_neg e1]
  by_cases e2 : vb = .stop
  · rw [if_pos (v2.mpr e2), if_pos e2]
    by_cases e3 : kd = .offered
    · rw [if_pos (k3.mpr e3), if_pos e3]
    · rw [if_neg (fun q => e3 (k3.mp q)), if_neg e3]
  rw [if_neg (fun q => e2 (v2.mp q)), if_neg e2]
  have ea : asking vb.s = !(decide (vb = .call) || decide (vb = .sign)) := by
    rw [v5, decide_eq_false e1, decide_eq_false e2]
    rfl
  by_cases e3 : (decide (vb = .call) || decide (vb = .sign)) = true ∨ kd.bef = true
  · rw [if_pos e3, if_pos (by rw [ea]; rcases e3 with e3 | e3; exact .inl (by rw [e3]; rfl); exact .inr e3)]
  have e3' : (decide (vb = .call) || decide (vb = .sign)) = false := by
    cases q : (decide (vb = .call) || decide (vb = .sign)) with
    | false => rfl
    | true => exact absurd (.inl q) e3
  rw [if_neg e3, if_neg (by rw [ea, e3']; rintro (q | q); cases q; exact e3 (.inr q))]
  by_cases e4 : kd.talk = false
  · rw [if_pos e4, if_pos (fun q => by have := k4.mp q; rw [e4] at this; cases this)]
  rw [if_neg e4, if_neg (fun q => q (k4.mpr (by cases z : kd.talk with | true => rfl | false => exact absurd z e4)))]
  by_cases e5 : vb = .turn
  · rw [if_pos (v3.mpr e5), if_pos e5]
    all_goals rfl
  rw [if_neg (fun q => e5 (v3.mp q)), if_neg e5]
  by_cases e6 : vb = .move
  · rw [if_pos (v4.mpr e6), if_pos e6]
  · rw [if_neg (fun q => e6 (v4.mp q)), if_neg e6]
/-- the offers of the law -/
def LawO (u : Off) : Prop := u.port = 9 ∧ u.mode ∈ modesL ∧ (u.fs = ([("a" : Str)] : List Str) ∨ u.fs = ([("z" : Str)] : List Str) ∨ u.fs = ([("z" : Str), "b"] : List Str))
theorem LawO.good {u : Off} (h : LawO u) : GoodO u := by
  obtain ⟨h1, h2, h3⟩ := h
  refine ⟨by rw [h1]; decide, by rw [h1]; decide, h2, ?_, ?_, ?_, ?_⟩ <;> rcases h3 with e | e | e <;> rw [e] <;> first | decide +kernel | simp
theorem LawO.ans {u : Off} (h : LawO u) : answerO ableO u = (if comL u = [] then none else some (ansL u)) ∧ (comL u = [] ↔ ¬ (decide (("a" : Str) ∈ u.fs) || decide (("b" : Str) ∈ u.fs)) = true) ∧ (comL u ≠ [] → GoodO (ansL u)) := by
  obtain ⟨p, m, f⟩ := u
  obtain ⟨h1, h2, h3⟩ := h
  have h1 : p = 9 := h1
  have h3 : f = ([("a" : Str)] : List Str) ∨ f = ([("z" : Str)] : List Str) ∨ f = ([("z" : Str), "b"] : List Str) := h3
  subst h1
  have h2 : m ∈ modesL := h2
  simp only [modesL, List.mem_cons, List.not_mem_nil, or_false] at h2
  have g : ∀ m' ∈ modesL, ∀ f' : List Str, f' ≠ [] → f'.length ≤ 6 → f'.Nodup → (∀ z ∈ f', nameB z = true) → GoodO ⟨40, m', f'⟩ := fun m' hm f' a b c d => ⟨by show (0 : Int) ≤ 40; decide, by show (40 : Int) ≤ 65535; decide, hm, a, b, c, d⟩
  rcases h2 with rfl | rfl | rfl | rfl <;> rcases h3 with rfl | rfl | rfl <;>
    exact ⟨by decide +kernel, by decide +kernel, fun q => by first | exact absurd (by decide +kernel) q | exact g _ (by decide +kernel) _ (by decide +kernel) (by decide +kernel) (by decide +kernel) (by decide +kernel)⟩
/-- the reply to the law's letter -/
def lrep (M : Ltr) (n : Int) (xr : V) : Ltr := M.reply (.int n) "x1" xr .non
theorem pl_code {kd : Kd} {vb : Vb} {took : Bool} {o : Option Off} {xg : V} {n : Int} (h : plK kd vb took o xg = some n) (ht : (kd = .called → took = true) ∧ (kd = .cout → took = false)) (ho : ∀ u, o = some u → LawO u) :
    codeL kd vb o xg = n ∧ 20 ≤ n ∧ n ≤ 99 ∧ n ∈ codesL ∧ (∀ z, dueSt z kd vb n = z) ∧ (∀ x, evs kd vb n x xg = none) ∧ dueO vb n o = none := by
  have fin : ∀ m : Int, n = m → codeL kd vb o xg = m → (m = 41 ∨ m = 50 ∨ m = 46 ∨ (m = 20 ∧ vb ≠ .end_ ∧ ¬ (vb = .stop ∧ kd = .offered) ∧ vb ≠ .turn ∧ vb ≠ .move)) → codeL kd vb o xg = n ∧ 20 ≤ n ∧ n ≤ 99 ∧ n ∈ codesL ∧ (∀ z, dueSt z kd vb n = z) ∧ (∀ x, evs kd vb n x xg = none) ∧ dueO vb n o = none := by
    rintro m rfl hc hm
    refine ⟨hc, by omega, by omega, ?_, fun z => ?_, fun x => ?_, ?_⟩
    · rcases hm with rfl | rfl | rfl | ⟨rfl, _⟩ <;> decide
    · unfold dueSt
      rcases hm with rfl | rfl | rfl | ⟨rfl, a, b, _⟩
      · exact if_neg fun q => absurd q.1 (by decide)
      · exact if_neg fun q => absurd q.1 (by decide)
      · exact if_neg fun q => absurd q.1 (by decide)
      · exact if_neg fun q => q.2.elim a b
    · unfold evs
      rcases hm with rfl | rfl | rfl | ⟨rfl, a, b, c, d⟩
      · exact if_pos (by decide)
      · exact if_pos (by decide)
      · exact if_pos (by decide)
      · rw [if_neg (by decide), if_neg a, if_neg b, if_neg c, if_neg d]
    · unfold dueO
      rcases hm with rfl | rfl | rfl | ⟨rfl, a, b, c, d⟩
      · exact if_neg fun q => absurd q.2 (by decide)
      · exact if_neg fun q => absurd q.2 (by decide)
      · exact if_neg fun q => absurd q.2 (by decide)
      · exact if_neg fun q => c q.1
  unfold plK at h
  by_cases e1 : vb = .end_
  · rw [if_pos e1] at h
    by_cases e2 : (kd.talk || kd.bef) = true
    · rw [if_pos e2] at h; cases h
    · rw [if_neg e2] at h
      exact fin 41 (Option.some.inj h).symm (by unfold codeL; rw [if_pos e1, if_neg e2]) (.inl rfl)
  rw [if_neg e1] at h
  by_cases e2 : vb = .stop
  · rw [if_pos e2] at h
    by_cases e3 : kd = .offered
    · rw [if_pos e3] at h; cases h
    · rw [if_neg e3] at h
      have h := Option.some.inj h
      have ec : codeL kd vb o xg = if (decide (kd = .offered) || decide (kd = .called)) = true then 20 else 41 := by unfold codeL; rw [if_neg e1, if_pos e2]
      rw [decide_eq_false e3, Bool.false_or] at ec
      by_cases e4 : kd = .called
      · rw [ht.1 e4, e4] at h
        rw [decide_eq_true e4] at ec
        exact fin 20 h.symm ec (.inr (.inr (.inr ⟨rfl, e1, fun q => e3 q.2, by rw [e2]; decide, by rw [e2]; decide⟩)))
      · rw [decide_eq_false e4] at ec
        have e5 : (kd.talk && took) = false := by
          cases kd with
          | cout => rw [ht.2 rfl]; rfl
          | called => exact absurd rfl e4
          | _ => rfl
        rw [e5] at h
        exact fin 41 h.symm ec (.inl rfl)
  rw [if_neg e2] at h
  have ec0 : codeL kd vb o xg = (if (decide (vb = .call) || decide (vb = .sign)) = true then 50
    else if kd.bef = true then 50
    else if kd.talk = false then 41
    else if vb = .turn then turnC o
    else if vb = .move ∧ xg = .non then 50
    else 20) := by unfold codeL; rw [if_neg e1, if_neg e2]
  by_cases e3 : (decide (vb = .call) || decide (vb = .sign)) = true
  · rw [if_pos (.inl e3)] at h
    rw [if_pos e3] at ec0
    exact fin 50 (Option.some.inj h).symm ec0 (.inr (.inl rfl))
  rw [if_neg e3] at ec0
  by_cases e4 : kd.bef = true
  · rw [if_pos (.inr e4)] at h
    rw [if_pos e4] at ec0
    exact fin 50 (Option.some.inj h).symm ec0 (.inr (.inl rfl))
  rw [if_neg e4] at ec0
  rw [if_neg (by rintro (q | q); exact e3 q; exact e4 q)] at h
  by_cases e5 : kd.talk = false
  · rw [if_pos e5] at h ec0
    exact fin 41 (Option.some.inj h).symm ec0 (.inl rfl)
  rw [if_neg e5] at h ec0
  by_cases e6 : vb = .turn
  · rw [if_pos e6] at h ec0
    cases o with
    | none => exact fin 50 (Option.some.inj h).symm ec0 (.inr (.inl rfl))
    | some u =>
      obtain ⟨a1, a2, _⟩ := (ho u rfl).ans
      have h : (if answerO ableO u = none then some (46 : Int) else none) = some n := h
      rw [a1] at h
      by_cases e7 : comL u = []
      · rw [if_pos e7, if_pos rfl] at h
        rw [show turnC (some u) = 46 from if_neg (a2.mp e7)] at ec0
        exact fin 46 (Option.some.inj h).symm ec0 (.inr (.inr (.inl rfl)))
      · rw [if_neg e7, if_neg (by intro q; cases q)] at h
        cases h
  rw [if_neg e6] at h ec0
  by_cases e7 : vb = .move
  · rw [if_pos e7] at h
    by_cases e8 : xg = .non
    · rw [if_pos e8] at h
      rw [if_pos ⟨e7, e8⟩] at ec0
      exact fin 50 (Option.some.inj h).symm ec0 (.inr (.inl rfl))
    · rw [if_neg e8] at h
      cases h
  · rw [if_neg e7] at h
    rw [if_neg fun q => e7 q.1] at ec0
    exact fin 20 (Option.some.inj h).symm ec0 (.inr (.inr (.inr ⟨rfl, e1, fun q => e2 q.1, e6, e7⟩)))

end K7
set_option maxHeartbeats 4000000
set_option pp.maxSteps 400
namespace K7
open PySem PySem.Spec PyProof.Rows L2 SX TK TKS TKC
open C8 (pe_c)
/-- the law's leg, its events taken -/
structure MR (kd : Kd) (R : LegR) : Prop where
  tag : R.tag = "x1"
  place : R.place = "q"
  able : R.able = ableO
  w : LegW R
  st : R.st = kd.st
  gt : R.gt = kd.low
  es : R.es = []
  took : (kd = .called → R.took = true) ∧ (kd = .cout → R.took = false)
  sn : R.ss.length ≤ 1
  ss : ∀ s ∈ R.ss, s.L.way = "first" ∧ s.pl = "q"
  fst : kd = .offered → ∃ s x0, R.ss = [s] ∧ s.st = .opn ∧ s.L = firstL x0
theorem repS_opn {R : LegR} {s : SvR} {n now : Int} {xo : V} {o : Option Off} {al t wa wx : Addr} (h : s.st = .opn) (hn : 20 ≤ n) : (repS R s n now xo o al t wa wx).L = s.L ∧ (repS R s n now xo o al t wa wx).pl = s.pl ∧ againO (repS R s n now xo o al t wa wx) = [(s.pl, textOf (linesX (repL R s n xo) o))] := by
  have e : repS R s n now xo o al t wa wx = { s with st := .snt, code := .int n, al := al, tl := [t], tz := textOf (linesX (repL R s n xo) o), w := some ⟨wa, wx, now, s.f, now + s.f⟩ } := by
    unfold repS replyS
    rw [if_pos h, if_pos hn]
  rw [e]
  exact ⟨rfl, rfl, rfl⟩
theorem repO_opn {R : LegR} {s : SvR} {n : Int} {xo : V} {o : Option Off} (h : s.st = .opn) : repO R s n xo o = [(s.pl, textOf (linesX (repL R s n xo) o))] := if_pos h
def rowQ (L : Ltr) (o : Option Off) : Str × Str := (("q" : Str), textOf (linesX L o))
structure NewOut (kd : Kd) (vb : Vb) (o : Option Off) (M : Ltr) (xg : V) (R R' : LegR) (n : Int) (xr : V) (rows : List (Str × Str)) : Prop where
  p : R'.p = R.p
  dx : R'.dx = R.dx
  st : R'.st = dueSt kd.st kd vb n
  es : (evs kd vb n M.offer xg = none ∧ R'.es = []) ∨ ∃ t xs, evs kd vb n M.offer xg = some xs ∧ R'.es = [(t, xs)]
  sn : R'.ss.length ≤ 2
  ss : ∃ (pre : List SvR) (s' : SvR), R'.ss = pre ++ [s'] ∧ (∀ x ∈ pre, x.L.way = "first") ∧ s'.L = M ∧ s'.pl = "q" ∧ againO s' = [rowQ (lrep M n xr) (dueO vb n o)]
  rw_ : (¬ (kd = .offered ∧ vb = .stop) ∧ rows = [rowQ (lrep M n xr) (dueO vb n o)]) ∨ (kd = .offered ∧ vb = .stop ∧ ∃ x0, rows = [rowQ (lrep (firstL x0) 45 .non) none, rowQ (lrep M n xr) (dueO vb n o)])
  w : LegW R'
  n0 : n ∈ codesL
theorem rep_out {R1 R' : LegR} {pre : List SvR} {s : SvR} {n now : Int} {xr : V} {od : Option Off} {rows : List (Str × Str)} (h : RepR R1 pre [] s now n xr od R' rows) (tag : R1.tag = "x1") (so : s.st = .opn) (pl : s.pl = "q") (hn : 20 ≤ n) :
    R'.p = R1.p ∧ R'.dx = R1.dx ∧ R'.st = R1.st ∧ R'.es = R1.es ∧ rows = [rowQ (lrep s.L n xr) od] ∧ ∃ s' : SvR, R'.ss = pre ++ [s'] ∧ s'.L = s.L ∧ s'.pl = "q" ∧ againO s' = [rowQ (lrep s.L n xr) od] := by
  obtain ⟨al, t, wa, wx, rfl, rfl⟩ := h
  obtain ⟨a1, a2, a3⟩ := repS_opn (R := R1) (s := s) (n := n) (now := now) (xo := xr) (o := od) (al := al) (t := t) (wa := wa) (wx := wx) so hn
  have el : repL R1 s n xr = lrep s.L n xr := by unfold repL lrep; rw [tag]
  refine ⟨rfl, rfl, rfl, rfl, ?_, _, rfl, a1, ?_, ?_⟩
  · rw [repO_opn so, el, pl]
    rfl
  · rw [a2, pl]
  · rw [a3, el, pl]
    rfl
theorem kd_low (kd : Kd) : kd.low = 3 ∨ kd.low = -1 := by cases kd <;> decide
theorem new_out {kd : Kd} {vb : Vb} {o : Option Off} {M : Ltr} {xg : V} {R R' : LegR} {s : SvR} {rows : List (Str × Str)} (m : MR kd R) (hv : M.verb = vb.s) (hg : M.goal = xg) (hL : s.L = M) (hs : s.st = .opn) (hp : s.pl = "q") (ho : s.o = o) (lo : ∀ u, o = some u → LawO u) (h : NewRel (servedR R s) R.ss s 0 R' rows) :
    ∃ xr : V, NewOut kd vb o M xg R R' (codeL kd vb o xg) xr rows := by
  have hst : (servedR R s).st = kd.st := m.st
  have hvs : s.L.verb = vb.s := by rw [hL]; exact hv
  obtain ⟨v1, v2, v3, v4, v5⟩ := vb_eq vb
  obtain ⟨k1, k2, k3, k4, k5⟩ := kd_eq kd
  have hpre : ∀ x ∈ R.ss, x.L.way = "first" := fun x mx => (m.ss x mx).1
  have esR : (servedR R s).es = [] := m.es
  have wR : LegW (servedR R s) := ⟨m.w.tag, m.w.call, m.w.own, m.w.other, m.w.ot, m.w.seq, m.w.req⟩
  cases h with
  | @plain n R' rows h r =>
    have hpl := plain_eq (R := servedR R s) (s := s) (kd := kd) (vb := vb) (took := R.took) (o := o) (xg := xg) hst hvs rfl ho (by rw [hL]; exact hg) m.able
    rw [h] at hpl
    obtain ⟨c1, c2, c3, c4, c5, c6, c7⟩ := pl_code hpl.symm m.took lo
    obtain ⟨q1, q2, q3, q4, q5, s', q6, q7, q8, q9⟩ := rep_out r m.tag hs hp c2
    rw [hL] at q5 q7 q9
    rw [c1]
    refine ⟨.non, ⟨q1, q2, by rw [q3, hst, c5], .inl ⟨c6 _, by rw [q4, esR]⟩, by rw [q6, List.length_append]; exact Nat.add_le_add_right m.sn 1, ⟨R.ss, s', q6, hpre, q7, q8, by rw [c7]; exact q9⟩, .inl ⟨?_, by rw [c7]; exact q5⟩, r.w wR, c4⟩⟩
    rintro ⟨rfl, rfl⟩
    have : plK .offered .stop R.took o xg = none := rfl
    rw [this] at hpl
    cases hpl
  | @ended cs wt t R' rows v st a r =>
    have e1 : vb = .end_ := v1.mp (hvs ▸ v)
    have ec : codeL kd vb o xg = 20 := by
      unfold codeL
      rw [if_pos e1]
      have : (kd.talk || kd.bef) = true := by rw [← k1, ← hst]; exact st
      rw [if_pos this]
    rw [ec]
    obtain ⟨q1, q2, q3, q4, q5, s', q6, q7, q8, q9⟩ := rep_out r m.tag hs hp (by decide)
    rw [hL] at q5 q7 q9
    have ed : dueO vb 20 o = none := if_neg fun q => absurd (e1.symm.trans q.1) (by decide)
    refine ⟨.non, ⟨q1, q2, by rw [q3]; exact (if_pos ⟨rfl, .inl e1⟩).symm, .inr ⟨t, _, by unfold evs; rw [if_neg (by decide), if_pos e1], by rw [q4]; show (servedR R s).es ++ _ = _; rw [esR]; rfl⟩, by rw [q6, List.length_append]; exact Nat.add_le_add_right m.sn 1, ⟨R.ss, s', q6, hpre, q7, q8, by rw [ed]; exact q9⟩, .inl ⟨fun q => absurd (e1.symm.trans q.2) (by decide), by rw [ed]; exact q5⟩, r.w ⟨m.w.tag, m.w.call, m.w.own, m.w.other, m.w.ot, m.w.seq, m.w.req⟩, by decide⟩⟩
  | @stopped wt t s0 s1 p2 R1 R' rows1 rows2 v st e r1 e1 r2 =>
    have e2 : vb = .stop := v2.mp (hvs ▸ v)
    have e3 : kd = .offered := k3.mp (hst ▸ st)
    have ec : codeL kd vb o xg = 20 := by
      unfold codeL
      rw [if_neg (by rw [e2]; decide), if_pos e2, if_pos (by rw [e3]; decide)]
    rw [ec]
    obtain ⟨sf, x0, f1, f2, f3⟩ := m.fst e3
    rw [f1] at e
    obtain ⟨rfl, rfl⟩ : sf = s0 ∧ p2 = [] := by
      injection e with a b
      exact ⟨a, b.symm⟩
    have pf := (m.ss sf (by rw [f1]; simp)).2
    obtain ⟨al, t1, wa, wx, eR1, er1⟩ := r1
    have b1 : R1.tag = "x1" ∧ R1.p = R.p ∧ R1.dx = R.dx ∧ R1.st = "over" ∧ R1.es = [(t, [.str "over", .str "stopped", .int 45])] := by
      rw [eR1]
      exact ⟨m.tag, rfl, rfl, rfl, by show (servedR R s).es ++ _ = _; rw [esR]; rfl⟩
    obtain ⟨b1, b2, b3, b4, b5⟩ := b1
    have w1 : LegW R1 := by
      rw [eR1]
      exact ⟨m.w.tag, m.w.call, m.w.own, m.w.other, m.w.ot, m.w.seq, m.w.req⟩
    obtain ⟨q1, q2, q3, q4, q5, s', q6, q7, q8, q9⟩ := rep_out r2 b1 hs hp (by decide)
    rw [hL] at q5 q7 q9
    have ed : dueO vb 20 o = none := if_neg fun q => absurd (e2.symm.trans q.1) (by decide)
    have hs1 : s1.L.way = "first" := by
      have : R1.ss = [] ++ repS (overR (servedR R s) wt t "stopped" 45) sf 45 0 .non none al t1 wa wx :: ([] ++ [s]) := by rw [eR1]
      rw [this] at e1
      have e5 : repS (overR (servedR R s) wt t "stopped" 45) sf 45 0 .non none al t1 wa wx = s1 := by
        injection e1 with a b
      rw [← e5, (repS_opn f2 (by decide)).1, f3]
      rfl
    have er : rows1 = [rowQ (lrep (firstL x0) 45 .non) none] := by
      rw [er1, repO_opn f2, pf]
      unfold repL lrep
      rw [f3]
      show [(_, textOf (linesX ((firstL x0).reply (.int 45) R.tag .non .non) none))] = _
      rw [m.tag]
      rfl
    refine ⟨.non, ⟨q1.trans b2, q2.trans b3, by rw [q3, b4]; exact (if_pos ⟨rfl, .inr ⟨e2, e3⟩⟩).symm, .inr ⟨t, _, by unfold evs; rw [if_neg (by decide), if_neg (by rw [e2]; decide), if_pos ⟨e2, e3⟩], by rw [q4, b5]⟩, by rw [q6]; show 2 ≤ 2; decide, ⟨[s1], s', q6, fun x mx => by rw [List.mem_singleton.mp mx]; exact hs1, q7, q8, by rw [ed]; exact q9⟩, .inr ⟨e3, e2, x0, by rw [er, q5, ed]; rfl⟩, r2.w w1, by decide⟩⟩
  | @turned t z u a R' rows v st eo an r =>
    have e2 : vb = .turn := v3.mp (hvs ▸ v)
    have e3 : kd.talk = true := k4.mp (hst ▸ st)
    have ho2 : o = some u := ho ▸ eo
    obtain ⟨a1, a2, a3⟩ := (lo u ho2).ans
    have an : answerO ableO u = some a := by rw [← m.able]; exact an
    rw [a1] at an
    have hne : comL u ≠ [] := fun q => by rw [if_pos q] at an; cases an
    rw [if_neg hne] at an
    obtain rfl := Option.some.inj an
    have ec : codeL kd vb o xg = 20 := by
      have eb : kd.bef = false := by cases kd <;> first | rfl | cases e3
      have et : turnC (some u) = 20 := if_pos (by
        cases q : (decide (("a" : Str) ∈ u.fs) || decide (("b" : Str) ∈ u.fs)) with
        | true => rfl
        | false => exact absurd (a2.mpr (by rw [q]; exact Bool.false_ne_true)) hne)
      unfold codeL
      rw [if_neg (by rw [e2]; decide), if_neg (by rw [e2]; decide), if_neg (by rw [e2]; decide), if_neg (by rw [eb]; exact Bool.false_ne_true), if_neg (by rw [e3]; exact fun q => nomatch q), if_pos e2, ho2, et]
    rw [ec]
    obtain ⟨q1, q2, q3, q4, q5, s', q6, q7, q8, q9⟩ := rep_out r m.tag hs hp (by decide)
    rw [hL] at q5 q7 q9 q4
    have ed : dueO vb 20 o = some (ansL u) := by unfold dueO; rw [if_pos ⟨e2, rfl⟩, ho2]; rfl
    refine ⟨z, ⟨q1, q2, by rw [q3]; exact hst.trans (if_neg fun q => q.2.elim (fun x => absurd (e2.symm.trans x) (by decide)) fun x => absurd (e2.symm.trans x.1) (by decide)).symm, .inr ⟨t, _, by unfold evs; rw [if_neg (by decide), if_neg (by rw [e2]; decide), if_neg (by rw [e2]; exact fun q => absurd q.1 (by decide)), if_pos e2], by rw [q4]; show (servedR R s).es ++ _ = _; rw [esR]; rfl⟩, by rw [q6, List.length_append]; exact Nat.add_le_add_right m.sn 1, ⟨R.ss, s', q6, hpre, q7, q8, by rw [ed]; exact q9⟩, .inl ⟨fun q => absurd (e2.symm.trans q.2) (by decide), by rw [ed]; exact q5⟩, r.w ⟨m.w.tag, m.w.call, m.w.own, m.w.other, m.w.ot, m.w.seq, m.w.req⟩, by decide⟩⟩
  | @moved t R' rows v st g r =>
    have e2 : vb = .move := v4.mp (hvs ▸ v)
    have e3 : kd.talk = true := k4.mp (hst ▸ st)
    have g2 : xg ≠ .non := by rw [← hg, ← hL]; exact g
    have ec : codeL kd vb o xg = 20 := by
      have eb : kd.bef = false := by cases kd <;> first | rfl | cases e3
      unfold codeL
      rw [if_neg (by rw [e2]; decide), if_neg (by rw [e2]; decide), if_neg (by rw [e2]; decide), if_neg (by rw [eb]; exact Bool.false_ne_true), if_neg (by rw [e3]; exact fun q => nomatch q), if_neg (by rw [e2]; decide), if_neg fun q => g2 q.2]
    rw [ec]
    obtain ⟨q1, q2, q3, q4, q5, s', q6, q7, q8, q9⟩ := rep_out r m.tag hs hp (by decide)
    rw [hL] at q5 q7 q9 q4
    rw [hg] at q4
    have ed : dueO vb 20 o = none := if_neg fun q => absurd (e2.symm.trans q.1) (by decide)
    refine ⟨.non, ⟨q1, q2, by rw [q3]; exact hst.trans (if_neg fun q => q.2.elim (fun x => absurd (e2.symm.trans x) (by decide)) fun x => absurd (e2.symm.trans x.1) (by decide)).symm, .inr ⟨t, _, by unfold evs; rw [if_neg (by decide), if_neg (by rw [e2]; decide), if_neg (by rw [e2]; exact fun q => absurd q.1 (by decide)), if_neg (by rw [e2]; decide), if_pos e2], by rw [q4]; show (servedR R s).es ++ _ = _; rw [esR]; rfl⟩, by rw [q6, List.length_append]; exact Nat.add_le_add_right m.sn 1, ⟨R.ss, s', q6, hpre, q7, q8, by rw [ed]; exact q9⟩, .inl ⟨fun q => absurd (e2.symm.trans q.2) (by decide), by rw [ed]; exact q5⟩, r.w ⟨m.w.tag, m.w.call, m.w.own, m.w.other, m.w.ot, m.w.seq, m.w.req⟩, by decide⟩⟩

end K7
set_option maxHeartbeats 4000000
set_option pp.maxSteps 400
namespace K7
open PySem PySem.Spec PyProof.Rows L2 SX TK TKS TKC
open C8 (pe_c)
/-! ### the law -/
def seqsL : List Int := [0, 3, 4, 8, 12]
theorem seqs_ok : ∀ q ∈ seqsL, tagB (wayL q) = true ∧ 0 ≤ q ∧ q < 100 := by decide +kernel
theorem way_first : ∀ q ∈ seqsL, wayL q ≠ "first" := by decide +kernel
theorem vb_verb (v : Vb) : v.s ∈ verbsL ∧ v.s ≠ "KEEP" := by cases v <;> decide +kernel
theorem lawL_g {vb : Vb} {seq : Int} {xo xg : V} {o : Option Off} (hq : seq ∈ seqsL) (hg : xg = .non ∨ xg = .str "eve@x") (ho : ∀ u, o = some u → GoodO u) : GLet (lawL vb.s seq xo xg) o none := by
  obtain ⟨t, q0, q1⟩ := seqs_ok seq hq
  exact ⟨(vb_verb vb).1, rfl, (fun _ e => nomatch e), by show tagB "c1" = true; decide +kernel, by show (splitB "bob@x").isSome = true; decide +kernel, by show tagB "y1" = true; decide +kernel, by show (splitB "ann@x").isSome = true; decide +kernel, .inr ⟨by show ("x1" : Str).length ≠ 0; decide +kernel, by show tagB "x1" = true; decide +kernel⟩, q0, by show seq ≤ 999999; omega, t, fun u e => (ho u e).off, .inl rfl, hg.imp id fun e => ⟨_, e, by decide +kernel⟩⟩
theorem lrep_g {vb : Vb} {seq n : Int} {xo xg x xr : V} {od : Option Off} (hq : seq ∈ seqsL) (hn : n ∈ codesL) (ho : ∀ u, od = some u → GoodO u) : GLet (lrep { lawL vb.s seq xo xg with offer := x } n xr) od (some n) := by
  obtain ⟨t, q0, q1⟩ := seqs_ok seq hq
  exact ⟨(vb_verb vb).1, rfl, (fun m e => by cases e; exact hn), by show tagB "c1" = true; decide +kernel, by show (splitB "bob@x").isSome = true; decide +kernel, by show tagB "y1" = true; decide +kernel, by show (splitB "ann@x").isSome = true; decide +kernel, .inr ⟨by show ("x1" : Str).length ≠ 0; decide +kernel, by show tagB "x1" = true; decide +kernel⟩, q0, by show seq ≤ 999999; omega, t, fun u e => (ho u e).off, .inl rfl, .inl rfl⟩
theorem frep_g {x0 : V} : GLet (lrep (firstL x0) 45 .non) none (some 45) :=
  ⟨by show ("CALL" : Str) ∈ verbsL; decide +kernel, rfl, (fun m e => by cases e; decide), by show tagB "c1" = true; decide +kernel, by show (splitB "bob@x").isSome = true; decide +kernel, by show tagB "y1" = true; decide +kernel, by show (splitB "ann@x").isSome = true; decide +kernel, .inr ⟨by show ("x1" : Str).length ≠ 0; decide +kernel, by show tagB "x1" = true; decide +kernel⟩, by show (0 : Int) ≤ 3; decide, by show (3 : Int) ≤ 999999; decide, by show tagB "first" = true; decide +kernel, (fun _ e => nomatch e), .inl rfl, .inl rfl⟩
theorem mr_of {kd : Kd} {R : LegR} {ev : Addr} (h : if kd.inn = true then InR R.p R.dx kd.st 5 R else OutR R.p R.dx kd.st 5 R) : MR kd { R with ev := ev, es := [] } := by
  cases e : kd.inn with
  | true =>
    rw [e, if_pos rfl] at h
    obtain ⟨s, xo, e1, e2, e3, e4⟩ := h.ss
    have w := h.com.w
    refine ⟨h.com.tag, h.com.place, h.com.able, ⟨w.tag, w.call, w.own, w.other, w.ot, w.seq, w.req⟩, h.com.st, h.gt.trans (by unfold Kd.low; rw [e]; rfl), rfl, ⟨fun _ => h.took, fun q => by rw [q] at e; cases e⟩, by show R.ss.length ≤ 1; rw [e1]; exact Nat.le_refl 1, fun x mx => ?_, fun q => ⟨s, xo, e1, e4 (by rw [q]; rfl), e2⟩⟩
    have mx : x ∈ R.ss := mx
    rw [e1] at mx
    rw [List.mem_singleton.mp mx, e2]
    exact ⟨rfl, e3⟩
  | false =>
    rw [e, if_neg Bool.false_ne_true] at h
    have w := h.com.w
    refine ⟨h.com.tag, h.com.place, h.com.able, ⟨w.tag, w.call, w.own, w.other, w.ot, w.seq, w.req⟩, h.com.st, h.gt.trans (by unfold Kd.low; rw [e]; rfl), rfl, ⟨fun q => (by rw [q] at e; cases e), fun _ => h.took⟩, by show R.ss.length ≤ 1; rw [h.ss]; exact Nat.zero_le 1, fun x mx => ?_, fun q => (by rw [q] at e; cases e)⟩
    have mx : x ∈ R.ss := mx
    rw [h.ss] at mx
    cases mx
theorem match_first {s : SvR} {M : Ltr} {pl : Str} (h : s.L.way = "first") (hw : M.way ≠ "first") : matchB s.L M s.pl pl = false := by
  have e : sameB s.L M = false := by
    unfold sameB
    rw [h, decide_eq_false hw, Bool.and_false, Bool.and_false, Bool.and_false]
  unfold matchB
  rw [e]
  split
  · rfl
  · split
    · rfl
    · split <;> rfl
theorem match_self {s : SvR} {M : Ltr} (h : s.L = M) (hc : M.code = .non) (hp : s.pl = "q") : matchB s.L M s.pl "q" = true := by
  unfold matchB sameB
  rw [h, hc, hp]
  simp
/-- the leg, the draws and the list of the law's rounds -/
structure LS (K : PySem.W.Frag) (H0 H : Hp) (s c q : Addr) (qxs : List V) (R : LegR) : Prop where
  k : StK H0 H s c (legM K R)
  d : Cells H (legM K R)
  i : LegI K H R
  q_ : H q = some (.lst qxs)
theorem LS.same {K : PySem.W.Frag} {H0 H H' : Hp} {s c q : Addr} {qxs : List V} {R : LegR} (l : LS K H0 H s c q qxs R) (e : Same H H') : LS K H0 H' s c q qxs R := ⟨l.k.same e, l.d.same e, l.i.im (Im.of_same e), e _ _ l.q_⟩
theorem LS.keep {K : PySem.W.Frag} {H0 H H' : Hp} {s c q : Addr} {qxs : List V} {R : LegR} (l : LS K H0 H s c q qxs R) (st : StAt H' s c) (e : Keep H H' s c) (qs : q ≠ s) (qc : q ≠ c) : LS K H0 H' s c q qxs R := ⟨l.k.keep st e, l.k.cells e l.d, l.i.im (Keep.im l.k.st e), e q _ l.q_ qs qc⟩
theorem LS.run {K : PySem.W.Frag} {H0 H H' : Hp} {s c q : Addr} {qxs : List V} {R R' : LegR} {z : Cell} (l : LS K H0 H s c q qxs R) (h0 : H0 q = some (.lst qxs)) (qs : q ≠ s) (qc : q ≠ c) (r : Run H (legM K R) H' (z :: legM K R')) (i : LegI K H' R') : LS K H0 H' s c q qxs R' := by
  have k := (l.k.run r).tail
  exact ⟨k, Cells.tail r.c, i, k.kp q _ h0 qs qc⟩
theorem eqv_nil : PyData.eqv (.list []) (.list []) = true := by simp [PyData.eqv, PyData.eqvAll]
theorem shaped_nil : SeqAt.shaped (.list []) = true := shaped_of (by simp [PyData.canLay0, PyData.canLayAll0]) (by simp [PyData.depth, PyData.depthAll])
theorem run_out {H H' : Hp} {M M' : List Cell} {r : Addr} {o : HO} (t : Run H M H' M') (e : H r = some o) (n : r ∉ keys M) : H' r = some o ∧ r ∉ keys M' := ⟨t.u.fr _ _ e fun m => absurd m n, fun m => (t.u.nw _ m).elim n fun z => by rw [e] at z; cases z⟩
theorem not_tail {a : Addr} {o : HO} {M : List Cell} {H : Hp} (c : Cells H ((a, o) :: M)) : a ∉ keys M := (List.nodup_cons.mp c.nd).1
theorem turn20 {kd : Kd} {vb : Vb} {o : Option Off} {xg : V} (lo : ∀ u, o = some u → LawO u) (e1 : vb = .turn) (e2 : codeL kd vb o xg = 20) : ∃ u, o = some u ∧ GoodO (ansL u) := by
  unfold codeL at e2
  rw [if_neg (by rw [e1]; decide), if_neg (by rw [e1]; decide), if_neg (by rw [e1]; decide)] at e2
  by_cases a : kd.bef = true
  · rw [if_pos a] at e2
    exact absurd e2 (by decide)
  rw [if_neg a] at e2
  by_cases b : kd.talk = false
  · rw [if_pos b] at e2
    exact absurd e2 (by decide)
  rw [if_neg b, if_pos e1] at e2
  cases o with
  | none => exact absurd e2 (by decide)
  | some u =>
    obtain ⟨a1, a2, a3⟩ := (lo u rfl).ans
    refine ⟨u, rfl, a3 fun q => ?_⟩
    rw [show turnC (some u) = 46 from if_neg (a2.mp q)] at e2
    exact absurd e2 (by decide)
def goalD : V → PyData
  | .str z => .str z
  | _ => .none
def evD (kd : Kd) (vb : Vb) (n : Int) (o : Option Off) (xg : V) : PyData :=
  if n ≠ 20 then .list [] else if vb = .end_ then .list [.tuple [.str "over", .str "ended", .int 20]] else if vb = .stop ∧ kd = .offered then .list [.tuple [.str "over", .str "stopped", .int 45]]
  else if vb = .turn then .list [.tuple [.str "turned", dataO o]] else if vb = .move then .list [.tuple [.str "moved", goalD xg]] else .list []
theorem EvsAt.same {H H' : Hp} (s : Same H H') {D : Addr} : ∀ {x : Option (List V)}, EvsAt H D x → EvsAt H' D x
  | none, h => s _ _ h
  | some _, ⟨t, h1, h2⟩ => ⟨t, s _ _ h1, s _ _ h2⟩
theorem evs_dp {K : PySem.W.Frag} {H : Hp} {D : Addr} {kd : Kd} {vb : Vb} {n : Int} {o : Option Off} {xo xg : V} (h : EvsAt H D (evs kd vb n xo xg)) (ho : OffO H xo o) (hg : xg = .non ∨ xg = .str "eve@x") : Dp K H (.ref D) (evD kd vb n o xg) := by
  unfold evs at h
  unfold evD
  by_cases e : n ≠ 20
  · rw [if_pos e] at h ⊢
    exact .lst (SqL.of h) .nil
  rw [if_neg e] at h ⊢
  by_cases e1 : vb = .end_
  · rw [if_pos e1] at h ⊢
    obtain ⟨t, h1, h2⟩ := h
    exact .lst (SqL.of h1) (.cons (.tup (SqT.of h2) (.cons (.str _) (.cons (.str _) (.cons (.int _) .nil)))) .nil)
  rw [if_neg e1] at h ⊢
  by_cases e2 : vb = .stop ∧ kd = .offered
  · rw [if_pos e2] at h ⊢
    obtain ⟨t, h1, h2⟩ := h
    exact .lst (SqL.of h1) (.cons (.tup (SqT.of h2) (.cons (.str _) (.cons (.str _) (.cons (.int _) .nil)))) .nil)
  rw [if_neg e2] at h ⊢
  by_cases e3 : vb = .turn
  · rw [if_pos e3] at h ⊢
    obtain ⟨t, h1, h2⟩ := h
    exact .lst (SqL.of h1) (.cons (.tup (SqT.of h2) (.cons (.str _) (.cons (OffO.dp ho) .nil))) .nil)
  rw [if_neg e3] at h ⊢
  by_cases e4 : vb = .move
  · rw [if_pos e4] at h ⊢
    obtain ⟨t, h1, h2⟩ := h
    have hgd : Dp K H xg (goalD xg) := by
      rcases hg with rfl | rfl
      · exact .non
      · exact .str _
    exact .lst (SqL.of h1) (.cons (.tup (SqT.of h2) (.cons (.str _) (.cons hgd .nil))) .nil)
  rw [if_neg e4] at h ⊢
  exact .lst (SqL.of h) .nil
theorem evD_ok {kd : Kd} {vb : Vb} {n : Int} {o : Option Off} {xg : V} (lo : ∀ u, o = some u → GoodO u) (hg : xg = .non ∨ xg = .str "eve@x") : SeqAt.shaped (evD kd vb n o xg) = true ∧ PyData.eqv (evD kd vb n o xg) (evD kd vb n o xg) = true := by
  obtain ⟨d1, d2⟩ := dataO_ok lo
  have so : PyData.strOk "over" = true ∧ PyData.strOk "ended" = true ∧ PyData.strOk "stopped" = true ∧ PyData.strOk "turned" = true ∧ PyData.strOk "moved" = true ∧ PyData.strOk "eve@x" = true := by decide +kernel
  obtain ⟨s1, s2, s3, s4, s5, s6⟩ := so
  have hgd : (goalD xg).canLay0 = true ∧ (goalD xg).depth = 0 := by
    rcases hg with rfl | rfl
    · simp [goalD, PyData.canLay0, PyData.depth]
    · simp [goalD, PyData.canLay0, PyData.depth, s6]
  have q : (evD kd vb n o xg).canLay0 = true ∧ (evD kd vb n o xg).depth ≤ 9 := by
    unfold evD
    split
    · simp [PyData.canLay0, PyData.canLayAll0, PyData.depth, PyData.depthAll]
    · split
      · simp [PyData.canLay0, PyData.canLayAll0, PyData.depth, PyData.depthAll, s1, s2]
      · split
        · simp [PyData.canLay0, PyData.canLayAll0, PyData.depth, PyData.depthAll, s1, s3]
        · split
          · simp [PyData.canLay0, PyData.canLayAll0, PyData.depth, PyData.depthAll, s4, d1]
            omega
          · split
            · simp [PyData.canLay0, PyData.canLayAll0, PyData.depth, PyData.depthAll, s5, hgd.1, hgd.2]
            · simp [PyData.canLay0, PyData.canLayAll0, PyData.depth, PyData.depthAll]
  exact ⟨shaped_of q.1 q.2, SeqAt.eqv_refl _ q.1⟩
theorem match_again {s : SvR} {L0 : Ltr} {x x2 : V} (h : s.L = { L0 with offer := x }) (hc : L0.code = .non) (hp : s.pl = "q") : matchB s.L { L0 with offer := x2 } s.pl "q" = true := by
  unfold matchB sameB
  rw [h, hp]
  dsimp only
  rw [hc]
  simp

end K7
set_option maxHeartbeats 4000000
set_option pp.maxSteps 400
namespace K7
open PySem PySem.Spec PyProof.Rows L2 SX TK TKS TKC
open C8 (pe_c)
def spLaw (K : PySem.W.Frag) : Sp := fun vs H Q _ => ∃ (a : Addr) (ns : List Int), vs = [.ref a] ∧ SqL K H a (ns.map V.int) ∧ ns.length ≤ 63 ∧ ∀ H', Q (.bl true) H'
theorem ok_law {P : Program} {w : World} {K : PySem.W.Frag} {mg : Str → Option Value} {base : Heap} {f : Addr} {fd : FuncData} (T : Tx K mg) (c_law_state : C8.Cal P w K mg base 1 "_law_state" (spState K) []) (c_law_pick : C8.Cal P w K mg base 2 "_law_pick" spPick []) (c_law_made : C8.Cal P w K mg base 10 "_law_made" (spMade K) []) (c_Leg_take_events : C8.Met P w K mg base 1 (He.ga K "Leg") "take_events" (spTakeEv K) []) (c_law_letter : C8.Cal P w K mg base 3 "_law_letter" (spLLet K) []) (c_write : C8.Cal P w K mg base 2 "write" (spWrite1 K) []) (c_read : C8.Cal P w K mg base 7 "read" (spReadL K) []) (c_Leg_receive : C8.Met P w K mg base 9 (He.ga K "Leg") "receive" (spRecv K) []) (c_law_code : C8.Cal P w K mg base 2 "_law_code" spLCode []) (c_law_sent : C8.Cal P w K mg base 8 "_law_sent" (spSent K) []) (c_law_replies_right : C8.Cal P w K mg base 2 "_law_replies_right" (spLRight K) []) (c_law_due_state : C8.Cal P w K mg base 1 "_law_due_state" spLState []) (c_law_due_events : C8.Cal P w K mg base 1 "_law_due_events" spLEvents [])
    (F : FunD K "law" "law" (defArgs s_law) (defBody s_law) (defScope s_law) [] [] f fd) : FnOk P w K mg base CX0 11 f fd ["script"] (spLaw K) := by
  refine F.ok sc_law (fun vs H Q E h => ?_) (fun cdv A outer s0 H vs Q E hr h => ?_)
  · obtain ⟨a, ns, rfl, _⟩ := h
    rfl
  · obtain ⟨a, ns, rfl, hS, hn, k⟩ := h
    refine ⟨_, PSs.nox (pss_cons (ps_set (i := 1) sc_law.nd rfl (Or.inl rfl) (pe_c c_law_state hr (by decide) rfl (pa_cons (pv 0) pa_nil))) (pss_cons (ps_for PassesOwn.never rfl (pi_list (pe_op op_cat (pe_lst (pa_cons pe_int pa_nil)) (pe_slice sl_list (pv 0) po_none (po_some pe_int)))) (pg_name (i := 2) sc_law.nd rfl (Or.inl rfl)) (pss_cons (ps_set (i := 3) sc_law.nd rfl (Or.inl rfl) (pe_c c_law_pick hr (by decide) rfl (pa_cons (pv 1) (pa_cons (pe_lst (pa_cons pe_str (pa_cons pe_str (pa_cons pe_str (pa_cons pe_str (pa_cons pe_str (pa_cons pe_str (pa_cons pe_str pa_nil)))))))) pa_nil)))) (pss_cons (ps_set (i := 4) sc_law.nd rfl (Or.inl rfl) (pe_c c_law_made hr (by decide) rfl (pa_cons (pv 1) (pa_cons (pv 3) pa_nil)))) (pss_cons (ps_expr (C8.pe_mt0 c_Leg_take_events hr (by decide) (pv 4))) (pss_cons (ps_set (i := 5) sc_law.nd rfl (Or.inl rfl) (pe_fldC rfl T.cl_Leg T.na_Leg_state (pv 4) rfl)) (pss_cons (ps_set (i := 6) sc_law.nd rfl (Or.inl rfl) (pe_c c_law_pick hr (by decide) rfl (pa_cons (pv 1) (pa_cons (pe_lst (pa_cons pe_str (pa_cons pe_str (pa_cons pe_str (pa_cons pe_str (pa_cons pe_str (pa_cons pe_str (pa_cons pe_str (pa_cons pe_str pa_nil))))))))) pa_nil)))) (pss_cons (ps_set (i := 7) sc_law.nd rfl (Or.inl rfl) (pe_lst (pa_cons pe_str (pa_cons pe_str (pa_cons pe_str (pa_cons pe_str pa_nil)))))) (pss_cons (ps_set (i := 8) sc_law.nd rfl (Or.inl rfl) (pe_c c_law_pick hr (by decide) rfl (pa_cons (pv 1) (pa_cons (pe_lst (pa_cons pe_non (pa_cons (pe_tup (pa_cons pe_int (pa_cons (pe_c c_law_pick hr (by decide) rfl (pa_cons (pv 1) (pa_cons (pv 7) pa_nil))) (pa_cons (pe_c c_law_pick hr (by decide) rfl (pa_cons (pv 1) (pa_cons (pe_lst (pa_cons (pe_tup (pa_cons pe_str pa_nil)) (pa_cons (pe_tup (pa_cons pe_str pa_nil)) (pa_cons (pe_tup (pa_cons pe_str (pa_cons pe_str pa_nil))) pa_nil)))) pa_nil))) pa_nil)))) pa_nil))) pa_nil)))) (pss_cons (ps_set (i := 9) sc_law.nd rfl (Or.inl rfl) (pe_c c_law_pick hr (by decide) rfl (pa_cons (pv 1) (pa_cons (pe_lst (pa_cons pe_non (pa_cons pe_str pa_nil))) pa_nil)))) (pss_cons (ps_set (i := 10) sc_law.nd rfl (Or.inl rfl) (pe_op op_sub (pe_op op_mul pe_int (pe_callTy call_int1 rfl T.f_int (by decide +kernel) (pa_cons (pe_cmpR op_in_seq (pv 3) (pe_lst (pa_cons pe_str (pa_cons pe_str (pa_cons pe_str pa_nil)))) (by with_unfolding_all rfl)) pa_nil))) pe_int)) (pss_cons (ps_set (i := 11) sc_law.nd rfl (Or.inl rfl) (pe_c c_law_pick hr (by decide) rfl (pa_cons (pv 1) (pa_cons (pe_lst (pa_cons pe_int (pa_cons (pe_callB (call_max2 rfl) rfl T.f_max (by decide +kernel) (pa_cons pe_int (pa_cons (pv 10) pa_nil))) (pa_cons (pe_op op_add (pv 10) pe_int) (pa_cons (pe_op op_add (pv 10) pe_int) pa_nil))))) pa_nil)))) (pss_cons (ps_set (i := 12) sc_law.nd rfl (Or.inl rfl) (pe_c c_law_letter hr (by decide) rfl (pa_cons (pv 6) (pa_cons (pv 11) (pa_cons (pv 8) (pa_cons (pv 9) pa_nil)))))) (pss_cons (ps_set (i := 13) sc_law.nd rfl (Or.inl rfl) (C8.pe_mt c_Leg_receive hr (by decide) (pv 4) (pa_cons (pe_c c_read hr (by decide) rfl (pa_cons (pe_c c_write hr (by decide) rfl (pa_cons (pv 12) pa_nil)) pa_nil)) (pa_cons pe_str (pa_cons pe_int pa_nil))))) (C8.pss_cut (ps_if (pt_cmpR op_le (pv 11) (pv 10) (nomark _)) (C8.pss_cut (ps_if (PW.pt (pw_or (pt_cmpR (op_neD hr.units) (pv 13) (pe_lst pa_nil) (nomark _)) (pw_or (pt_cmpR op_ne (pe_fldC rfl T.cl_Leg T.na_Leg_state (pv 4) rfl) (pv 5) (nomark _)) (pw_or1 (pt_cmpR (op_neD hr.units) (C8.pe_mt0 c_Leg_take_events hr (by decide) (pv 4)) (pe_lst pa_nil) (nomark _)))))) (pss_one (ps_ret pe_bl)) pss_nil) (pss_one ps_continue)) pss_nil) (pss_cons (ps_set (i := 14) sc_law.nd rfl (Or.inl rfl) (pe_c c_law_code hr (by decide) rfl (pa_cons (pv 3) (pa_cons (pv 6) (pa_cons (pv 8) (pa_cons (pv 9) pa_nil)))))) (C8.pss_cut (ps_if (pt_not (pt_val (pe_c c_law_replies_right hr (by decide) rfl (pa_cons (pe_c c_law_sent hr (by decide) rfl (pa_cons (pv 13) pa_nil)) (pa_cons (pv 3) (pa_cons (pv 6) (pa_cons (pv 14) (pa_cons (pv 8) (pa_cons (pv 11) pa_nil))))))))) (pss_one (ps_ret pe_bl)) pss_nil) (C8.pss_cut (ps_if (pt_cmpR op_ne (pe_fldC rfl T.cl_Leg T.na_Leg_state (pv 4) rfl) (pe_c c_law_due_state hr (by decide) rfl (pa_cons (pv 5) (pa_cons (pv 3) (pa_cons (pv 6) (pa_cons (pv 14) pa_nil))))) (nomark _)) (pss_one (ps_ret pe_bl)) pss_nil) (C8.pss_cut (ps_if (pt_cmpR (op_neD hr.units) (C8.pe_mt0 c_Leg_take_events hr (by decide) (pv 4)) (pe_c c_law_due_events hr (by decide) rfl (pa_cons (pv 3) (pa_cons (pv 6) (pa_cons (pv 14) (pa_cons (pv 8) (pa_cons (pv 9) pa_nil)))))) (nomark _)) (pss_one (ps_ret pe_bl)) pss_nil) (pss_cons (ps_set (i := 15) sc_law.nd rfl (Or.inl rfl) (C8.pe_mt c_Leg_receive hr (by decide) (pv 4) (pa_cons (pe_c c_read hr (by decide) rfl (pa_cons (pe_c c_write hr (by decide) rfl (pa_cons (pv 12) pa_nil)) pa_nil)) (pa_cons pe_str (pa_cons pe_int pa_nil))))) (pss_one (ps_if (PW.pt (pw_or (pt_cmpR (op_neD hr.units) (pv 15) (pe_slice sl_list (pv 13) (po_some (pe_op op_sub (pe_callB call_len_seq rfl T.f_len PySem.boot_len (pa_cons (pv 13) pa_nil)) pe_int)) po_none) (nomark _)) (pw_or1 (pt_cmpR (op_neD hr.units) (C8.pe_mt0 c_Leg_take_events hr (by decide) (pv 4)) (pe_lst pa_nil) (nomark _))))) (pss_one (ps_ret pe_bl)) pss_nil))))))))))))))))))))) (pss_one (ps_ret pe_bl)))), ?_⟩
    refine ⟨_, rfl, a, ns, rfl, hS, hn, fun s c H1 s1 hs hc st1 => ?_⟩
    refine ⟨by show 1 ≤ sizeLine; decide, fun l0 hl0 => ?_⟩
    have t0 := same_upd (o := .lst [.int 0]) hl0
    refine ⟨_, rfl, 40, rfl, a, _, rfl, t0.seq (s1.seq hS), fun p hp => ?_⟩
    have t1 := same_upd (o := .lst (cutV (ns.map V.int) none (some 40))) hp
    have lcu : (cutV (ns.map V.int) none (some 40)).length ≤ 63 := Nat.le_trans (cutV_length _ _ _) (by rw [List.length_map]; exact hn)
    refine ⟨l0, p, _, _, rfl, rfl, t1 _ _ upd_same, upd_same, by show 1 + _ ≤ sizeLine; exact Nat.le_trans (by omega : _ ≤ 64) (by decide), fun q hq => ?_⟩
    have st2 := (st1.same t0).same t1
    obtain ⟨qs, qc⟩ := st2.tracked hq
    refine ⟨q, rfl, ⟨_, SqL.of upd_same⟩, for_list (K := K) (a := q) (xs := [V.int 0] ++ cutV (ns.map V.int) none (some 40)) (fun i σ H' => StAt H' s c ∧ H' q = some (.lst ([V.int 0] ++ cutV (ns.map V.int) none (some 40))) ∧ ∃ v2 v3 v4 v5 v6 v7 v8 v9 va vb vc vd ve vf : Option V, σ = [some (.ref a), some (.ref s), v2, v3, v4, v5, v6, v7, v8, v9, va, vb, vc, vd, ve, vf]) ⟨st2.same (same_upd hq), upd_same, _, _, _, _, _, _, _, _, _, _, _, _, _, _, rfl⟩ (fun i σ H' _ z => SqL.of z.2.1) ?_ ?_⟩
    · rintro i xi σ H2 hi ⟨st, hq2, v2, v3, v4, v5, v6, v7, v8, v9, va, vb0, vc, vd, ve, vf, rfl⟩
      clear hS hn s1 hs hc st1 t0 t1 lcu st2 hq hl0 hp hi
      generalize [V.int 0] ++ cutV (ns.map V.int) none (some 40) = qxs at *
      -- the leg
      refine ⟨_, rfl, by show 7 ≤ sizeLine; decide, fun u hu => ?_⟩
      obtain ⟨us, uc⟩ := st.tracked hu
      refine ⟨s, c, _, rfl, st.upd us uc, .inr ⟨u, _, rfl, upd_same, us, uc, by simp, by simp, fun v hv H3 st3 kp3 => ?_⟩⟩
      have hq3 := kp3 q _ ((same_upd hu) _ _ hq2) qs qc
      obtain ⟨kd, rfl⟩ : ∃ kd : Kd, v = .str kd.s := by
        simp only [List.mem_cons, List.not_mem_nil, or_false] at hv
        rcases hv with rfl | rfl | rfl | rfl | rfl | rfl | rfl
        · exact ⟨.calling, rfl⟩
        · exact ⟨.ringing, rfl⟩
        · exact ⟨.offered, rfl⟩
        · exact ⟨.called, rfl⟩
        · exact ⟨.cout, rfl⟩
        · exact ⟨.refused, rfl⟩
        · exact ⟨.ended, rfl⟩
      clear hv kp3 hu us uc st hq2
      refine ⟨_, rfl, _, rfl, s, c, kd, rfl, st3, fun R H4 hR c4 i4 k4 => ?_⟩
      have hp4 := leg_p c4
      refine ⟨_, rfl, R.p, R.dx, _, rfl, hp4, rfl, R, rfl, c4, i4, fun ev H5 r5 i5 => ?_⟩
      have m5 := mr_of (ev := ev) hR
      have k5 := (k4.run r5).tail
      have c5 := Cells.tail r5.c
      have pR : R.p = ({ R with ev := ev, es := [] } : LegR).p ∧ R.dx = ({ R with ev := ev, es := [] } : LegR).dx := ⟨rfl, rfl⟩
      clear r5 c4 i4 k4 hR hp4
      generalize { R with ev := ev, es := [] } = R5 at *
      obtain ⟨pR, dR⟩ := pR
      have hp5 := leg_p c5
      rw [pR]
      refine ⟨_, rfl, R5.p, R5.dx, _, _, rfl, hp5, rfl, ?_⟩
      have estR : (V.str R5.st) = .str kd.st := by rw [m5.st]
      have hq5 : H5 q = some (.lst qxs) := k5.kp q _ hq3 qs qc
      clear hp5
      have L5 : LS K H3 H5 s c q qxs R5 := ⟨k5, c5, i5, hq5⟩
      clear k5 c5 i5 hq5
      -- the verb
      refine ⟨_, rfl, by show 8 ≤ sizeLine; decide, fun u hu => ?_⟩
      obtain ⟨us, uc⟩ := L5.k.st.tracked hu
      refine ⟨s, c, _, rfl, L5.k.st.upd us uc, .inr ⟨u, _, rfl, upd_same, us, uc, by simp, by simp, fun v hv H6 st6 kp6 => ?_⟩⟩
      have L6 := (L5.same (same_upd hu)).keep st6 kp6 qs qc
      obtain ⟨vb, rfl⟩ : ∃ vb : Vb, v = .str vb.s := by
        simp only [List.mem_cons, List.not_mem_nil, or_false] at hv
        rcases hv with rfl | rfl | rfl | rfl | rfl | rfl | rfl | rfl
        · exact ⟨.end_, rfl⟩
        · exact ⟨.stop, rfl⟩
        · exact ⟨.turn, rfl⟩
        · exact ⟨.turn, rfl⟩
        · exact ⟨.move, rfl⟩
        · exact ⟨.live, rfl⟩
        · exact ⟨.call, rfl⟩
        · exact ⟨.sign, rfl⟩
      clear hv st6 kp6 L5 hu us uc
      -- the offer
      refine ⟨by show 4 ≤ sizeLine; decide, fun m hm => ?_⟩
      obtain ⟨ms, mc⟩ := L6.k.st.tracked hm
      have L7 := L6.same (same_upd (o := .lst [.str "both", .str "send", .str "take", .str "none"]) hm)
      have em : (upd H6 m (.lst [.str "both", .str "send", .str "take", .str "none"])) m = some (.lst (modesL.map V.str)) := upd_same
      generalize upd H6 m (.lst [.str "both", .str "send", .str "take", .str "none"]) = H7 at L7 em ⊢
      clear L6 hm
      refine ⟨_, rfl, _, rfl, _, rfl, s, c, _, rfl, L7.k.st, .inr ⟨m, modesL.map V.str, rfl, em, ms, mc, by decide, by decide, fun v hv H8 st8 kp8 => ?_⟩⟩
      obtain ⟨mo, hmo, rfl⟩ := List.mem_map.mp hv
      have L8 := L7.keep st8 kp8 qs qc
      clear hv st8 kp8 L7 em
      refine ⟨_, rfl, by show 1 ≤ sizeLine; decide, fun t1 h1 => ⟨by show 1 ≤ sizeLine; decide, fun t2 h2 => ⟨by show 2 ≤ sizeLine; decide, fun t3 h3 => ⟨by show 3 ≤ sizeLine; decide, fun l hl => ?_⟩⟩⟩⟩
      have u1 := same_upd (o := .tup [.str "a"]) h1
      have u2 := same_upd (o := .tup [.str "z"]) h2
      have u3 := same_upd (o := .tup [.str "z", .str "b"]) h3
      have u4 := same_upd (o := .lst [.ref t1, .ref t2, .ref t3]) hl
      have f1 := (u2.trans (u3.trans u4)) _ _ (upd_same (H := H8) (a := t1) (o := .tup [.str "a"]))
      have f2 := (u3.trans u4) _ _ (upd_same (H := upd H8 t1 (.tup [.str "a"])) (a := t2) (o := .tup [.str "z"]))
      have f3 := u4 _ _ (upd_same (H := upd (upd H8 t1 (.tup [.str "a"])) t2 (.tup [.str "z"])) (a := t3) (o := .tup [.str "z", .str "b"]))
      have f4 : (upd (upd (upd (upd H8 t1 (.tup [.str "a"])) t2 (.tup [.str "z"])) t3 (.tup [.str "z", .str "b"])) l (.lst [.ref t1, .ref t2, .ref t3])) l = some (.lst [.ref t1, .ref t2, .ref t3]) := upd_same
      have L9 := L8.same (u1.trans (u2.trans (u3.trans u4)))
      obtain ⟨ls, lc⟩ := (L8.same (u1.trans (u2.trans u3))).k.st.tracked hl
      generalize (upd (upd (upd (upd H8 t1 (.tup [.str "a"])) t2 (.tup [.str "z"])) t3 (.tup [.str "z", .str "b"])) l (.lst [.ref t1, .ref t2, .ref t3])) = H9 at L9 f1 f2 f3 f4 ⊢
      clear u1 u2 u3 u4 h1 h2 h3 hl L8
      refine ⟨s, c, _, rfl, L9.k.st, .inr ⟨l, _, rfl, f4, ls, lc, by simp, by simp, fun v hv Ha sta kpa => ?_⟩⟩
      have ima := Keep.im L9.k.st kpa
      obtain ⟨f, fs, rfl, hf, hfs⟩ : ∃ f fs, v = .ref f ∧ Ha f = some (.tup (fs.map V.str)) ∧ (fs = ([("a" : Str)] : List Str) ∨ fs = ([("z" : Str)] : List Str) ∨ fs = ([("z" : Str), "b"] : List Str)) := by
        simp only [List.mem_cons, List.not_mem_nil, or_false] at hv
        rcases hv with rfl | rfl | rfl
        · exact ⟨t1, [("a" : Str)], rfl, ima _ _ f1 rfl, .inl rfl⟩
        · exact ⟨t2, [("z" : Str)], rfl, ima _ _ f2 rfl, .inr (.inl rfl)⟩
        · exact ⟨t3, [("z" : Str), "b"], rfl, ima _ _ f3 rfl, .inr (.inr rfl)⟩
      have La := L9.keep sta kpa qs qc
      clear hv sta kpa ima L9 f1 f2 f3 f4 ls lc
      refine ⟨by show 3 ≤ sizeLine; decide, fun o0 ho0 => ⟨by show 2 ≤ sizeLine; decide, fun l hl => ?_⟩⟩
      have u1 := same_upd (o := .tup [.int 9, .str mo, .ref f]) ho0
      have u2 := same_upd (o := .lst [.non, .ref o0]) hl
      have hof : OffAt (upd (upd Ha o0 (.tup [.int 9, .str mo, .ref f])) l (.lst [.non, .ref o0])) (.ref o0) ⟨9, mo, fs⟩ := ⟨o0, f, rfl, u2 _ _ upd_same, (u1.trans u2) _ _ hf⟩
      have f4 : (upd (upd Ha o0 (.tup [.int 9, .str mo, .ref f])) l (.lst [.non, .ref o0])) l = some (.lst [.non, .ref o0]) := upd_same
      have Lb := La.same (u1.trans u2)
      obtain ⟨ls, lc⟩ := (La.same u1).k.st.tracked hl
      generalize (upd (upd Ha o0 (.tup [.int 9, .str mo, .ref f])) l (.lst [.non, .ref o0])) = Hb at Lb hof f4 ⊢
      clear u1 u2 La hl ho0 hf
      refine ⟨s, c, _, rfl, Lb.k.st, .inr ⟨l, _, rfl, f4, ls, lc, by simp, by simp, fun v hv Hc stc kpc => ?_⟩⟩
      have imc := Keep.im Lb.k.st kpc
      obtain ⟨o, hov, hlo⟩ : ∃ o : Option Off, OffO Hc v o ∧ ∀ u, o = some u → LawO u := by
        simp only [List.mem_cons, List.not_mem_nil, or_false] at hv
        rcases hv with rfl | rfl
        · exact ⟨none, rfl, fun _ e => nomatch e⟩
        · exact ⟨some ⟨9, mo, fs⟩, OffAt.im hof imc, fun u e => by cases e; exact ⟨rfl, hmo, hfs⟩⟩
      have Lc := Lb.keep stc kpc qs qc
      clear hv stc kpc imc Lb hof f4 ls lc hmo hfs
      -- the goal
      refine ⟨_, rfl, by show 2 ≤ sizeLine; decide, fun l hl => ?_⟩
      have u1 := same_upd (o := .lst [.non, .str "eve@x"]) hl
      obtain ⟨ls, lc⟩ := Lc.k.st.tracked hl
      refine ⟨s, c, _, rfl, (Lc.same u1).k.st, .inr ⟨l, _, rfl, upd_same, ls, lc, by simp, by simp, fun xg hv Hd std kpd => ?_⟩⟩
      have hg : xg = .non ∨ xg = .str "eve@x" := by
        simp only [List.mem_cons, List.not_mem_nil, or_false] at hv
        exact hv
      have Ld := (Lc.same u1).keep std kpd qs qc
      have hod := OffO.im hov ((Im.of_same u1).trans (Keep.im (Lc.same u1).k.st kpd))
      clear hv std kpd u1 ls lc hl Lc hov
      -- low
      refine ⟨_, rfl, by show 3 ≤ sizeLine; decide, fun l hl => ?_⟩
      have u1 := same_upd (o := .lst [.str "offered", .str "called", .str "refused"]) hl
      have Le := Ld.same u1
      have hoe := hod.same u1
      have elow : ((4 : Int) * (if inV (V.str kd.s) [.str "offered", .str "called", .str "refused"] = true then 1 else 0) - 1) = kd.low := by cases kd <;> rfl
      refine ⟨_, _, rfl, .inl (SqL.of upd_same), rfl, rfl, .inr ⟨_, rfl, _, _, rfl, rfl, .inl ⟨by decide, by decide⟩, _, _, rfl, rfl, ?_⟩⟩
      generalize upd Hd l (.lst [.str "offered", .str "called", .str "refused"]) = He at Le hoe ⊢
      show gName 10 (.int ((4 : Int) * (if inV (V.str kd.s) [.str "offered", .str "called", .str "refused"] = true then 1 else 0) - 1)) _ _ _
      rw [elow]
      clear u1 hl Ld hod elow
      -- the sequence number
      refine ⟨_, rfl, _, rfl, _, _, rfl, _, rfl, _, _, rfl, rfl, _, rfl, _, _, rfl, rfl, by show 4 ≤ sizeLine; decide, fun l hl => ?_⟩
      have u1 := same_upd (o := .lst [.int 0, .int (if kd.low > 0 then kd.low else 0), .int (kd.low + 1), .int (kd.low + 9)]) hl
      obtain ⟨ls, lc⟩ := Le.k.st.tracked hl
      refine ⟨s, c, _, rfl, (Le.same u1).k.st, .inr ⟨l, _, rfl, upd_same, ls, lc, by simp, by simp, fun vq hv Hf stf kpf => ?_⟩⟩
      obtain ⟨seq, rfl, hsq⟩ : ∃ seq : Int, vq = .int seq ∧ seq ∈ seqsL := by
        simp only [List.mem_cons, List.not_mem_nil, or_false] at hv
        rcases kd_low kd with e | e <;> rw [e] at hv <;> rcases hv with rfl | rfl | rfl | rfl <;> exact ⟨_, rfl, by decide⟩
      have Lf := (Le.same u1).keep stf kpf qs qc
      have hof := OffO.im hoe ((Im.of_same u1).trans (Keep.im (Le.same u1).k.st kpf))
      clear hv stf kpf u1 ls lc hl Le hoe
      obtain ⟨_, sq0, sq1⟩ := seqs_ok seq hsq
      have hgo : ∀ u, o = some u → GoodO u := fun u e => (hlo u e).good
      have gl := lawL_g (vb := vb) (xo := v) hsq hg hgo
      -- the letter, written and read
      refine ⟨_, rfl, _, rfl, _, rfl, _, rfl, vb.s, seq, v, xg, rfl, sq0, by omega, fun a2 Hg sg ha2 hla => ?_⟩
      have Lg := Lf.same sg
      have hog := hof.same sg
      clear Lf hof sg ha2
      have hpg := leg_p Lg.d
      refine ⟨_, rfl, R5.p, R5.dx, _, rfl, hpg, rfl, _, rfl, a2, lawL vb.s seq v xg, rfl, hla, gl.lok, o, hog, gl.xok, fun Hh sh => ⟨lawL vb.s seq v xg, o, none, rfl, gl, fun b xf Hi si hb hox hle => ?_⟩⟩
      have Li := (Lg.same sh).same si
      have hoi := (hog.same sh).same si
      have hla := (hla.same sh).same si
      clear hpg Lg hog sh si hb
      obtain ⟨M, hM⟩ : ∃ M, M = ({ lawL vb.s seq v xg with offer := xf } : Ltr) := ⟨_, rfl⟩
      rw [← hM] at hle
      have hoM : OffO Hi M.offer o := by rw [hM]; exact hox
      have lokM : LOk M := by rw [hM]; exact offer_ok gl.lok
      have hno : ∀ y ∈ R5.ss, matchB y.L M y.pl "q" = false := fun y my => match_first (m5.ss y my).1 (by rw [hM]; exact way_first seq hsq)
      have hMc : M.code = .non := by rw [hM]; rfl
      have hMv : M.verb = vb.s := by rw [hM]; rfl
      have hMg : M.goal = xg := by rw [hM]; rfl
      have hMs : M.seq = seq := by rw [hM]; rfl
      refine ⟨R5, b, M, o, "q", 0, rfl, Li.d, Li.i, m5.w, hle, hoM, lokM, by rw [m5.es]; show 0 < 99999; decide, Nat.lt_of_le_of_lt m5.sn (by decide), ?_⟩
      by_cases hlow : seq ≤ kd.low
      · -- an old sequence number
        refine .inr (.inr (.inl ⟨hMc, hno, .inr (.inl (by rw [hMs, m5.gt]; exact hlow)), fun r Hj rj ij => ?_⟩))
        have Lj := Li.run hq3 qs qc rj ij
        have er : Hj r = some (.lst []) := rj.c.get (by simp)
        refine ⟨fun _ _ => False, ⟨_, rfl, _, rfl, _, _, rfl, rfl, _, rfl, ?_⟩, fun _ _ z => z.elim⟩
        rw [decide_eq_true hlow]
        refine iteT ⟨fun σ' H' => StAt H' s c ∧ H' q = some (.lst qxs) ∧ ∃ v2 v3 v4 v5 v6 v7 v8 v9 va vb vc vd ve vf : Option V, σ' = [some (.ref a), some (.ref s), v2, v3, v4, v5, v6, v7, v8, v9, va, vb, vc, vd, ve, vf], ?_, ?_⟩
        · refine ⟨_, rfl, by show 0 ≤ sizeLine; decide, fun l2 hl2 => ⟨.list [], .list [], .lst (SqL.of ((same_upd hl2) _ _ er)) .nil, .lst (SqL.of upd_same) .nil, shaped_nil, shaped_nil, _, rfl, ?_⟩⟩
          rw [eqv_nil]
          have Lk := Lj.same (same_upd (o := .lst []) hl2)
          have hpk := leg_p Lk.d
          refine iteF ⟨_, rfl, R5.p, R5.dx, _, _, rfl, hpk, rfl, _, rfl, rfl, _, rfl, ?_⟩
          rw [decide_eq_true rfl]
          refine iteF ⟨_, rfl, R5.p, R5.dx, _, rfl, hpk, rfl, R5, rfl, Lk.d, Lk.i, fun ev2 Hl rl il => ⟨by show 0 ≤ sizeLine; decide, fun l3 hl3 => ?_⟩⟩
          have eev : Hl R5.ev = some (.lst []) := by
            have z := rl.c.get (a := R5.ev) (o := evL R5) (by simp)
            rw [z]
            unfold evL
            rw [m5.es]
            rfl
          have Lm := (Lk.run hq3 qs qc rl il).same (same_upd (o := .lst []) hl3)
          refine ⟨.list [], .list [], .lst (SqL.of ((same_upd hl3) _ _ eev)) .nil, .lst (SqL.of upd_same) .nil, shaped_nil, shaped_nil, _, rfl, ?_⟩
          rw [eqv_nil]
          exact iteF ⟨Lm.k.st, Lm.q_, _, _, _, _, _, _, _, _, _, _, _, _, _, _, rfl⟩
        · rintro σ' H' ⟨g1, g2, w2, w3, w4, w5, w6, w7, w8, w9, wa, wb, wc, wd, we, wf, rfl⟩
          exact ⟨g1, g2, _, _, _, _, _, _, _, _, _, _, _, _, _, _, rfl⟩
      · refine .inr (.inr (.inr ⟨hMc, hno, by rw [hMv]; exact (vb_verb vb).2, by rw [hMs, m5.gt]; omega, Nat.lt_of_le_of_lt (openN_le R5) (Nat.lt_of_le_of_lt m5.sn (by decide)), fun e z => ?_, fun u e => ?_, by rw [hMg]; exact hg.imp id fun e => ⟨_, e⟩, fun sp sdx al R' rows r ts Hj nr rj ij wj => ?_⟩))
        · have e2 : kd = .offered := (kd_eq kd).2.2.1.mp (m5.st ▸ e)
          obtain ⟨s0, x0, e3, _⟩ := m5.fst e2
          rw [e3] at z
          cases z
        · obtain ⟨a1, a2', a3⟩ := (hlo u e).ans
          refine ⟨Nat.le_trans (hgo u e).n (by decide), fun w ew => ?_⟩
          rw [m5.able, a1] at ew
          by_cases q : comL u = []
          · rw [if_pos q] at ew; cases ew
          · rw [if_neg q] at ew
            cases ew
            exact ⟨(a3 q).ok, (a3 q).off.2.2.2.1⟩
        · obtain ⟨xr, no⟩ := new_out (o := o) m5 hMv hMg rfl rfl rfl rfl hlo nr
          have Lj := Li.run hq3 qs qc rj ij
          have er : Hj r = some (.lst (ts.map V.ref)) := rj.c.get (by simp)
          have nr_ := not_tail rj.c
          have imj := rj.im
          have hoj := hoi.im imj
          have hlaj := hla.im imj
          have hoMj := hoM.im imj
          clear rj ij nr Li hle hox hoi hla hoM
          have pR' := no.p
          have dR' := no.dx
          generalize hn : codeL kd vb o xg = n at no
          have e20 : vb = .turn → n = 20 → ∃ u, o = some u ∧ GoodO (ansL u) := fun e1 e2 => turn20 hlo e1 (hn.trans e2)
          refine ⟨fun σ' H' => σ' = [some (.ref a), some (.ref s), some xi, some (.str kd.s), some (.ref R5.p), some (.str R5.st), some (.str vb.s), some (.ref m), some v, some xg, some (.int kd.low), some (.int seq), some (.ref a2), some (.ref r), ve, vf] ∧ H' = Hj, ⟨_, rfl, _, rfl, _, _, rfl, rfl, _, rfl, ?_⟩, ?_⟩
          · rw [decide_eq_false hlow]
            exact iteF ⟨rfl, rfl⟩
          rintro σ' H' ⟨rfl, e9⟩
          obtain rfl : Hj = H' := e9.symm
          refine ⟨_, rfl, _, rfl, _, rfl, _, rfl, kd, vb, v, xg, o, rfl, hoj, hg, fun Hk sk => ?_⟩
          rw [hn]
          have Lk := Lj.same sk
          have erk := sk _ _ er
          have wk := wj.im (Im.of_same sk)
          have hok := hoj.same sk
          have hlak := hlaj.same sk
          have hoMk := hoMj.same sk
          clear Lj er wj hoj hlaj hoMj sk imj
          have hn0 := no.n0
          have gdu : ∀ u, dueO vb n o = some u → GoodO u := fun u eu => by
            unfold dueO at eu
            by_cases z : vb = .turn ∧ n = 20
            · rw [if_pos z] at eu
              obtain ⟨u0, e0, g0⟩ := e20 z.1 z.2
              rw [e0] at eu
              cases eu
              exact g0
            · rw [if_neg z] at eu
              cases eu
          have gr : GLet (lrep M n xr) (dueO vb n o) (some n) := by rw [hM]; exact lrep_g hsq hn0 gdu
          obtain ⟨gs, hgs, hgg, hgl⟩ : ∃ gs : List GL, rows = gs.map rowG ∧ (∀ g ∈ gs, GLet g.1 g.2.1 g.2.2) ∧ ((¬ (kd = .offered ∧ vb = .stop) ∧ gs = [(lrep M n xr, dueO vb n o, some n)]) ∨ (kd = .offered ∧ vb = .stop ∧ ∃ x0, gs = [(lrep (firstL x0) 45 .non, none, some 45), (lrep M n xr, dueO vb n o, some n)])) := by
            rcases no.rw_ with ⟨h1, h2⟩ | ⟨h1, h2, x0, h3⟩
            · exact ⟨[(lrep M n xr, dueO vb n o, some n)], h2, (fun g mg => by rw [List.mem_singleton.mp mg]; exact gr), .inl ⟨h1, rfl⟩⟩
            · refine ⟨[(lrep (firstL x0) 45 .non, none, some 45), (lrep M n xr, dueO vb n o, some n)], h3, (fun g mg => ?_), .inr ⟨h1, h2, x0, rfl⟩⟩
              simp only [List.mem_cons, List.not_mem_nil, or_false] at mg
              rcases mg with rfl | rfl
              · exact frep_g
              · exact gr
          have hgn : gs.length ≤ 100 := by
            rcases hgl with ⟨_, e⟩ | ⟨_, _, x0, e⟩ <;> rw [e] <;> simp
          -- the replies
          refine ⟨fun σ' H' => σ' = [some (.ref a), some (.ref s), some xi, some (.str kd.s), some (.ref R5.p), some (.str R5.st), some (.str vb.s), some (.ref m), some v, some xg, some (.int kd.low), some (.int seq), some (.ref a2), some (.ref r), some (.int n), vf] ∧ Same Hk H', ?_, ?_⟩
          · refine ⟨_, rfl, r, ts, gs, rfl, erk, by rw [← hgs]; exact wk, hgg, hgn, fun D bs Hl sl hD eD lD => ?_⟩
            refine ⟨_, rfl, _, rfl, _, rfl, _, rfl, _, rfl, ?_⟩
            rcases hgl with ⟨h1, e⟩ | ⟨h1, h2, x0, e⟩
            · rw [e] at lD
              match bs, lD with
              | [b1], ⟨⟨x1, g1, g2⟩, _⟩ =>
                refine ⟨D, kd, vb, n, seq, v, o, b1, _, rfl, hok.same sl, hgo, e20, ⟨g1, hMv, rfl⟩, hMs, rfl, (by rw [hM]; rfl), g2, .inl ⟨h1, eD⟩, fun Hm sm => ?_⟩
                exact ⟨_, rfl, iteF ⟨rfl, sl.trans sm⟩⟩
            · rw [e] at lD
              match bs, lD with
              | [b0, b1], ⟨⟨y0, g0, _⟩, ⟨x1, g1, g2⟩, _⟩ =>
                refine ⟨D, kd, vb, n, seq, v, o, b1, _, rfl, hok.same sl, hgo, e20, ⟨g1, hMv, rfl⟩, hMs, rfl, (by rw [hM]; rfl), g2, .inr ⟨h1, h2, b0, _, ⟨g0, rfl, rfl⟩, eD⟩, fun Hm sm => ?_⟩
                exact ⟨_, rfl, iteF ⟨rfl, sl.trans sm⟩⟩
          rintro σ' H' ⟨rfl, sl⟩
          have Ll := Lk.same sl
          have hrl := sl _ _ erk
          have wl := wk.im (Im.of_same sl)
          have hol := hok.same sl
          have hlal := hlak.same sl
          have hoMl := hoMk.same sl
          clear Lk erk wk hok hlak hoMk sl
          -- the state
          refine ⟨fun σ' H'' => σ' = [some (.ref a), some (.ref s), some xi, some (.str kd.s), some (.ref R5.p), some (.str R5.st), some (.str vb.s), some (.ref m), some v, some xg, some (.int kd.low), some (.int seq), some (.ref a2), some (.ref r), some (.int n), vf] ∧ H'' = H', ?_, ?_⟩
          · have hp := leg_p Ll.d
            rw [pR'] at hp
            refine ⟨_, rfl, R5.p, R'.dx, _, _, rfl, hp, rfl, _, rfl, _, rfl, _, rfl, _, rfl, R5.st, kd, vb, n, rfl, rfl, _, rfl, ?_⟩
            rw [show decide (V.str R'.st = V.str (dueSt R5.st kd vb n)) = true by rw [no.st, m5.st]; exact decide_eq_true rfl]
            exact iteF ⟨rfl, rfl⟩
          rintro σ' H9 ⟨rfl, e9⟩
          obtain rfl : H' = H9 := e9.symm
          -- the events
          refine ⟨fun σ' H'' => σ' = [some (.ref a), some (.ref s), some xi, some (.str kd.s), some (.ref R5.p), some (.str R5.st), some (.str vb.s), some (.ref m), some v, some xg, some (.int kd.low), some (.int seq), some (.ref a2), some (.ref r), some (.int n), vf] ∧ ∃ ev2, LS K H3 H'' s c q qxs { R' with ev := ev2, es := [] } ∧ H'' r = some (.lst (ts.map V.ref)) ∧ r ∉ keys (legM K { R' with ev := ev2, es := [] }) ∧ RwI H'' ts rows ∧ OffO H'' v o ∧ LetAt K H'' a2 (lawL vb.s seq v xg), ?_, ?_⟩
          · have hp := leg_p Ll.d
            rw [pR'] at hp
            refine ⟨_, rfl, R5.p, R'.dx, _, rfl, hp, rfl, R', by rw [pR']; rfl, Ll.d, Ll.i, fun ev2 Hl rl il => ?_⟩
            have iml := rl.im
            have eev : Hl R'.ev = some (evL R') := rl.c.get (by simp)
            have hrm := run_out rl hrl nr_
            have Lm := Ll.run hq3 qs qc rl il
            have hev : EvsAt Hl R'.ev (evs kd vb n M.offer xg) := by
              rcases no.es with ⟨g1, g2⟩ | ⟨t, xs, g1, g2⟩
              · rw [g1]
                show Hl R'.ev = _
                rw [eev]
                unfold evL
                rw [g2]
                rfl
              · rw [g1]
                refine ⟨t, ?_, (Ll.i.im iml).ei (t, xs) (by rw [g2]; simp)⟩
                rw [eev]
                unfold evL
                rw [g2]
                rfl
            refine ⟨_, rfl, _, rfl, _, rfl, _, rfl, _, rfl, kd, vb, n, v, xg, rfl, fun D2 Hm sm eD2 => ?_⟩
            obtain ⟨d1, d2⟩ := evD_ok (kd := kd) (vb := vb) (n := n) hgo hg
            refine ⟨_, _, evs_dp (hev.same sm) ((hoMl.im iml).same sm) hg, evs_dp eD2 ((hol.im iml).same sm) hg, d1, d1, _, rfl, ?_⟩
            rw [d2]
            exact iteF ⟨rfl, ev2, Lm.same sm, sm _ _ hrm.1, fun z => hrm.2 (List.mem_cons_of_mem _ z), (wl.im iml).im (Im.of_same sm), (hol.im iml).same sm, (hlal.im iml).same sm⟩
          rintro σ' H9 ⟨rfl, ev2, Lm, hrm, nrm, wm, hom, hlam⟩
          clear Ll hrl wl hol hlal hoMl nr_
          -- the same request again
          obtain ⟨pre, s', es2, hpre, sL, sp2, sag⟩ := no.ss
          have wR := no.w
          have sn2 := no.sn
          obtain ⟨R6, hR6⟩ : ∃ R6 : LegR, R6 = { R' with ev := ev2, es := [] } := ⟨_, rfl⟩
          rw [← hR6] at Lm nrm
          have p6 : R6.p = R5.p := by rw [hR6]; exact pR'
          have s6 : R6.ss = pre ++ [s'] := by rw [hR6]; exact es2
          have n6 : R6.ss.length ≤ 2 := by rw [hR6]; exact sn2
          have w6 : LegW R6 := by rw [hR6]; exact ⟨wR.tag, wR.call, wR.own, wR.other, wR.ot, wR.seq, wR.req⟩
          have z6 : R6.es = [] := by rw [hR6]
          clear hR6 es2 wR sn2
          have hp6 := leg_p Lm.d
          rw [p6] at hp6
          refine ⟨_, rfl, R5.p, R6.dx, _, rfl, hp6, rfl, _, rfl, a2, lawL vb.s seq v xg, rfl, hlam, gl.lok, o, hom, gl.xok, fun Hn sn => ⟨lawL vb.s seq v xg, o, none, rfl, gl, fun b2 xf2 Ho so hb2 hox2 hle2 => ?_⟩⟩
          have smn := sn.trans so
          have Lo := Lm.same smn
          have hro := smn _ _ hrm
          have wo := wm.im (Im.of_same smn)
          clear Lm hrm wm hom hlam hp6 sn so hb2
          refine ⟨R6, b2, { lawL vb.s seq v xg with offer := xf2 }, o, "q", 0, by rw [p6]; rfl, Lo.d, Lo.i, w6, hle2, hox2, offer_ok gl.lok, by rw [z6]; show 0 < 99999; decide, Nat.lt_of_le_of_lt n6 (by decide), ?_⟩
          refine .inr (.inl ⟨rfl, pre, [], s', s6, fun x mx => match_first (hpre x mx) (way_first seq hsq), match_again (by rw [sL, hM]) rfl sp2, (vb_verb vb).2, fun r2 ts2 Hp rp ip wp => ?_⟩)
          have hrp := run_out rp hro nrm
          have Lp := Lo.run hq3 qs qc rp ip
          have wq := wo.im rp.im
          have er2 : Hp r2 = some (.lst (ts2.map V.ref)) := rp.c.get (by simp)
          rw [sag] at wp
          have hl1 : ts.length = gs.length := by rw [wq.len, hgs, List.length_map]
          obtain ⟨t1, hts, ht1, hn1⟩ : ∃ t1, cutV (ts.map V.ref) (some ((ts.map V.ref).length - 1)) none = [.ref t1] ∧ Hp t1 = some (.tup [.str "q", .str (textOf (linesX (lrep M n xr) (dueO vb n o)))]) ∧ ts.length ≤ 2 := by
            rcases hgl with ⟨_, e⟩ | ⟨_, _, x0, e⟩
            · rw [hgs, e] at wq
              match ts, wq with
              | [t1], ⟨h1, _⟩ => exact ⟨t1, rfl, h1, by simp⟩
            · rw [hgs, e] at wq
              match ts, wq with
              | [t0, t1], ⟨_, h1, _⟩ => exact ⟨t1, rfl, h1, by simp⟩
          obtain ⟨t2, rfl, ht2⟩ : ∃ t2, ts2 = [t2] ∧ Hp t2 = some (.tup [.str "q", .str (textOf (linesX (lrep M n xr) (dueO vb n o)))]) := by
            match ts2, wp with
            | [t2], ⟨h1, _⟩ => exact ⟨t2, rfl, h1⟩
          have okt : PyData.strOk "q" = true ∧ PyData.strOk (textOf (linesX (lrep M n xr) (dueO vb n o))) = true := ⟨by decide +kernel, textOf_ok (linesX_ok gr.lok gr.xok)⟩
          refine ⟨_, rfl, _, rfl, _, rfl, r, _, rfl, .inl (SqL.of hrp.1), ?_⟩
          refine ⟨_, _, rfl, rfl, _, rfl, r, _, rfl, SqL.of hrp.1, fun l4 hl4 => ?_⟩
          have s4 := same_upd (o := .lst (cutV (ts.map V.ref) (some ((ts.map V.ref).length - 1)) none)) hl4
          have e4 : (upd Hp l4 (.lst (cutV (ts.map V.ref) (some ((ts.map V.ref).length - 1)) none))) l4 = some (.lst [.ref t1]) := by rw [upd_same, hts]
          have Lq := Lp.same s4
          have er3 := s4 _ _ er2
          have ht1' := s4 _ _ ht1
          have ht2' := s4 _ _ ht2
          clear Lp er2 ht1 ht2 hrp wq
          generalize (upd Hp l4 (.lst (cutV (ts.map V.ref) (some ((ts.map V.ref).length - 1)) none))) = Hq at *
          have dd : SeqAt.shaped (.list [.tuple [.str "q", .str (textOf (linesX (lrep M n xr) (dueO vb n o)))]]) = true := shaped_of (by simp [PyData.canLay0, PyData.canLayAll0, okt.1, okt.2]) (by simp [PyData.depth, PyData.depthAll])
          refine ⟨_, _, .lst (SqL.of er3) (.cons (.tup (SqT.of ht2') (.cons (.str _) (.cons (.str _) .nil))) .nil), .lst (SqL.of e4) (.cons (.tup (SqT.of ht1') (.cons (.str _) (.cons (.str _) .nil))) .nil), dd, dd, _, rfl, ?_⟩
          rw [SeqAt.eqv_refl _ (by simp [PyData.canLay0, PyData.canLayAll0, okt.1, okt.2])]
          have hpq := leg_p Lq.d
          rw [p6] at hpq
          refine iteF ⟨_, rfl, R5.p, R6.dx, _, rfl, hpq, rfl, R6, by rw [p6]; rfl, Lq.d, Lq.i, fun ev3 Hr rl il => ⟨by show 0 ≤ sizeLine; decide, fun l5 hl5 => ?_⟩⟩
          have eev : Hr R6.ev = some (.lst []) := by
            have z := rl.c.get (a := R6.ev) (o := evL R6) (by simp)
            rw [z]
            unfold evL
            rw [z6]
            rfl
          have Lr := (Lq.run hq3 qs qc rl il).same (same_upd (o := .lst []) hl5)
          refine ⟨.list [], .list [], .lst (SqL.of ((same_upd hl5) _ _ eev)) .nil, .lst (SqL.of upd_same) .nil, shaped_nil, shaped_nil, _, rfl, ?_⟩
          rw [eqv_nil]
          exact iteF ⟨Lr.k.st, Lr.q_, _, _, _, _, _, _, _, _, _, _, _, _, _, _, rfl⟩
    · rintro σ H2 ⟨st, hq2, v2, v3, v4, v5, v6, v7, v8, v9, va, vb, vc, vd, ve, vf, rfl⟩
      exact k _

end K7
set_option maxHeartbeats 0
namespace K7
open PySem PySem.Spec PyProof.Rows L2 SX TK TKS TKC
/-! ### the head: facts by names, the run -/
def d_wall : He.DefD := ⟨("_wall", none), "_wall", "_wall", defArgs s_wall, defBody s_wall, defScope s_wall, [], []⟩
def d_is_name : He.DefD := ⟨("is_name", none), "is_name", "is_name", defArgs s_is_name, defBody s_is_name, defScope s_is_name, [], []⟩
def d_is_tag : He.DefD := ⟨("is_tag", none), "is_tag", "is_tag", defArgs s_is_tag, defBody s_is_tag, defScope s_is_tag, [], []⟩
def d_is_address : He.DefD := ⟨("is_address", none), "is_address", "is_address", defArgs s_is_address, defBody s_is_address, defScope s_is_address, [], []⟩
def d_read_number : He.DefD := ⟨("read_number", none), "read_number", "read_number", defArgs s_read_number, defBody s_read_number, defScope s_read_number, [], []⟩
def d_split_address : He.DefD := ⟨("split_address", none), "split_address", "split_address", defArgs s_split_address, defBody s_split_address, defScope s_split_address, [], []⟩
def d_consists_of : He.DefD := ⟨("_consists_of", none), "_consists_of", "_consists_of", defArgs s_consists_of, defBody s_consists_of, defScope s_consists_of, [], []⟩
def d_read_offer : He.DefD := ⟨("read_offer", none), "read_offer", "read_offer", defArgs s_read_offer, defBody s_read_offer, defScope s_read_offer, [], []⟩
def d_write_offer : He.DefD := ⟨("write_offer", none), "write_offer", "write_offer", defArgs s_write_offer, defBody s_write_offer, defScope s_write_offer, [], []⟩
def d_answer : He.DefD := ⟨("answer", none), "answer", "answer", defArgs s_answer, defBody s_answer, defScope s_answer, [], []⟩
def d_flows : He.DefD := ⟨("flows", none), "flows", "flows", defArgs s_flows, defBody s_flows, defScope s_flows, [], []⟩
def d_read_formats : He.DefD := ⟨("_read_formats", none), "_read_formats", "_read_formats", defArgs s_read_formats, defBody s_read_formats, defScope s_read_formats, [], []⟩
def d_sends : He.DefD := ⟨("_sends", none), "_sends", "_sends", defArgs s_sends, defBody s_sends, defScope s_sends, [], []⟩
def d_takes : He.DefD := ⟨("_takes", none), "_takes", "_takes", defArgs s_takes, defBody s_takes, defScope s_takes, [], []⟩
def d_mode : He.DefD := ⟨("_mode", none), "_mode", "_mode", defArgs s_mode, defBody s_mode, defScope s_mode, [], []⟩
def d_Letter___init : He.DefD := ⟨("Letter", some "__init__"), "__init__", "Letter.__init__", defArgs s_Letter___init, defBody s_Letter___init, defScope s_Letter___init, [], [("code", .non), ("offer", .non), ("stay", .non), ("goal", .non)]⟩
def d_Letter_parts : He.DefD := ⟨("Letter", some "parts"), "parts", "Letter.parts", defArgs s_Letter_parts, defBody s_Letter_parts, defScope s_Letter_parts, [], []⟩
def d_Letter_reply : He.DefD := ⟨("Letter", some "reply"), "reply", "Letter.reply", defArgs s_Letter_reply, defBody s_Letter_reply, defScope s_Letter_reply, [.non, .non], []⟩
def d_is_final : He.DefD := ⟨("is_final", none), "is_final", "is_final", defArgs s_is_final, defBody s_is_final, defScope s_is_final, [], []⟩
def d_write : He.DefD := ⟨("write", none), "write", "write", defArgs s_write, defBody s_write, defScope s_write, [], []⟩
def d_read : He.DefD := ⟨("read", none), "read", "read", defArgs s_read, defBody s_read, defScope s_read, [], []⟩
def d_write_head : He.DefD := ⟨("_write_head", none), "_write_head", "_write_head", defArgs s_write_head, defBody s_write_head, defScope s_write_head, [], []⟩
def d_read_head : He.DefD := ⟨("_read_head", none), "_read_head", "_read_head", defArgs s_read_head, defBody s_read_head, defScope s_read_head, [], []⟩
def d_read_line : He.DefD := ⟨("_read_line", none), "_read_line", "_read_line", defArgs s_read_line, defBody s_read_line, defScope s_read_line, [], []⟩
def d_read_origin : He.DefD := ⟨("_read_origin", none), "_read_origin", "_read_origin", defArgs s_read_origin, defBody s_read_origin, defScope s_read_origin, [], []⟩
def d_read_target : He.DefD := ⟨("_read_target", none), "_read_target", "_read_target", defArgs s_read_target, defBody s_read_target, defScope s_read_target, [], []⟩
def d_read_single : He.DefD := ⟨("_read_single", none), "_read_single", "_read_single", defArgs s_read_single, defBody s_read_single, defScope s_read_single, [], []⟩
def d_Wait___init : He.DefD := ⟨("Wait", some "__init__"), "__init__", "Wait.__init__", defArgs s_Wait___init, defBody s_Wait___init, defScope s_Wait___init, [], []⟩
def d_Wait_repeats : He.DefD := ⟨("Wait", some "repeats"), "repeats", "Wait.repeats", defArgs s_Wait_repeats, defBody s_Wait_repeats, defScope s_Wait_repeats, [], []⟩
def d_Wait_is_up : He.DefD := ⟨("Wait", some "is_up"), "is_up", "Wait.is_up", defArgs s_Wait_is_up, defBody s_Wait_is_up, defScope s_Wait_is_up, [], []⟩
def d_Client___init : He.DefD := ⟨("Client", some "__init__"), "__init__", "Client.__init__", defArgs s_Client___init, defBody s_Client___init, defScope s_Client___init, [], []⟩
def d_Client_sending : He.DefD := ⟨("Client", some "sending"), "sending", "Client.sending", defArgs s_Client_sending, defBody s_Client_sending, defScope s_Client_sending, [], []⟩
def d_Client_take : He.DefD := ⟨("Client", some "take"), "take", "Client.take", defArgs s_Client_take, defBody s_Client_take, defScope s_Client_take, [], []⟩
def d_Client_stop : He.DefD := ⟨("Client", some "stop"), "stop", "Client.stop", defArgs s_Client_stop, defBody s_Client_stop, defScope s_Client_stop, [], []⟩
def d_Client_tick : He.DefD := ⟨("Client", some "tick"), "tick", "Client.tick", defArgs s_Client_tick, defBody s_Client_tick, defScope s_Client_tick, [], []⟩
def d_Client_is_over : He.DefD := ⟨("Client", some "is_over"), "is_over", "Client.is_over", defArgs s_Client_is_over, defBody s_Client_is_over, defScope s_Client_is_over, [], []⟩
def d_Client__take_provisional : He.DefD := ⟨("Client", some "_take_provisional"), "_take_provisional", "Client._take_provisional", defArgs s_Client__take_provisional, defBody s_Client__take_provisional, defScope s_Client__take_provisional, [], []⟩
def d_Client__keep_for : He.DefD := ⟨("Client", some "_keep_for"), "_keep_for", "Client._keep_for", defArgs s_Client__keep_for, defBody s_Client__keep_for, defScope s_Client__keep_for, [], []⟩
def d_Server___init : He.DefD := ⟨("Server", some "__init__"), "__init__", "Server.__init__", defArgs s_Server___init, defBody s_Server___init, defScope s_Server___init, [], []⟩
def d_Server_matches : He.DefD := ⟨("Server", some "matches"), "matches", "Server.matches", defArgs s_Server_matches, defBody s_Server_matches, defScope s_Server_matches, [], []⟩
def d_Server_again : He.DefD := ⟨("Server", some "again"), "again", "Server.again", defArgs s_Server_again, defBody s_Server_again, defScope s_Server_again, [], []⟩
def d_Server_reply : He.DefD := ⟨("Server", some "reply"), "reply", "Server.reply", defArgs s_Server_reply, defBody s_Server_reply, defScope s_Server_reply, [], []⟩
def d_Server_keep : He.DefD := ⟨("Server", some "keep"), "keep", "Server.keep", defArgs s_Server_keep, defBody s_Server_keep, defScope s_Server_keep, [], []⟩
def d_Server_tick : He.DefD := ⟨("Server", some "tick"), "tick", "Server.tick", defArgs s_Server_tick, defBody s_Server_tick, defScope s_Server_tick, [], []⟩
def d_Server_is_over : He.DefD := ⟨("Server", some "is_over"), "is_over", "Server.is_over", defArgs s_Server_is_over, defBody s_Server_is_over, defScope s_Server_is_over, [], []⟩
def d_Leg___init : He.DefD := ⟨("Leg", some "__init__"), "__init__", "Leg.__init__", defArgs s_Leg___init, defBody s_Leg___init, defScope s_Leg___init, [], [("seq", .int 0)]⟩
def d_Leg_call_out : He.DefD := ⟨("Leg", some "call_out"), "call_out", "Leg.call_out", defArgs s_Leg_call_out, defBody s_Leg_call_out, defScope s_Leg_call_out, [], []⟩
def d_Leg_call_in : He.DefD := ⟨("Leg", some "call_in"), "call_in", "Leg.call_in", defArgs s_Leg_call_in, defBody s_Leg_call_in, defScope s_Leg_call_in, [], []⟩
def d_Leg_ring : He.DefD := ⟨("Leg", some "ring"), "ring", "Leg.ring", defArgs s_Leg_ring, defBody s_Leg_ring, defScope s_Leg_ring, [], []⟩
def d_Leg_accept : He.DefD := ⟨("Leg", some "accept"), "accept", "Leg.accept", defArgs s_Leg_accept, defBody s_Leg_accept, defScope s_Leg_accept, [], []⟩
def d_Leg_refuse : He.DefD := ⟨("Leg", some "refuse"), "refuse", "Leg.refuse", defArgs s_Leg_refuse, defBody s_Leg_refuse, defScope s_Leg_refuse, [], []⟩
def d_Leg_hang_up : He.DefD := ⟨("Leg", some "hang_up"), "hang_up", "Leg.hang_up", defArgs s_Leg_hang_up, defBody s_Leg_hang_up, defScope s_Leg_hang_up, [], []⟩
def d_Leg_turn : He.DefD := ⟨("Leg", some "turn"), "turn", "Leg.turn", defArgs s_Leg_turn, defBody s_Leg_turn, defScope s_Leg_turn, [], []⟩
def d_Leg_move : He.DefD := ⟨("Leg", some "move"), "move", "Leg.move", defArgs s_Leg_move, defBody s_Leg_move, defScope s_Leg_move, [], []⟩
def d_Leg_receive : He.DefD := ⟨("Leg", some "receive"), "receive", "Leg.receive", defArgs s_Leg_receive, defBody s_Leg_receive, defScope s_Leg_receive, [], []⟩
def d_Leg_tick : He.DefD := ⟨("Leg", some "tick"), "tick", "Leg.tick", defArgs s_Leg_tick, defBody s_Leg_tick, defScope s_Leg_tick, [], []⟩
def d_Leg_take_events : He.DefD := ⟨("Leg", some "take_events"), "take_events", "Leg.take_events", defArgs s_Leg_take_events, defBody s_Leg_take_events, defScope s_Leg_take_events, [], []⟩
def d_Leg_is_done : He.DefD := ⟨("Leg", some "is_done"), "is_done", "Leg.is_done", defArgs s_Leg_is_done, defBody s_Leg_is_done, defScope s_Leg_is_done, [], []⟩
def d_Leg__send : He.DefD := ⟨("Leg", some "_send"), "_send", "Leg._send", defArgs s_Leg__send, defBody s_Leg__send, defScope s_Leg__send, [.non, .non], []⟩
def d_Leg__serve : He.DefD := ⟨("Leg", some "_serve"), "_serve", "Leg._serve", defArgs s_Leg__serve, defBody s_Leg__serve, defScope s_Leg__serve, [], []⟩
def d_Leg__reply : He.DefD := ⟨("Leg", some "_reply"), "_reply", "Leg._reply", defArgs s_Leg__reply, defBody s_Leg__reply, defScope s_Leg__reply, [.non], []⟩
def d_Leg__reply_to_call : He.DefD := ⟨("Leg", some "_reply_to_call"), "_reply_to_call", "Leg._reply_to_call", defArgs s_Leg__reply_to_call, defBody s_Leg__reply_to_call, defScope s_Leg__reply_to_call, [.non], []⟩
def d_Leg__talk : He.DefD := ⟨("Leg", some "_talk"), "_talk", "Leg._talk", defArgs s_Leg__talk, defBody s_Leg__talk, defScope s_Leg__talk, [], []⟩
def d_Leg__end : He.DefD := ⟨("Leg", some "_end"), "_end", "Leg._end", defArgs s_Leg__end, defBody s_Leg__end, defScope s_Leg__end, [], []⟩
def d_Leg__stop_call : He.DefD := ⟨("Leg", some "_stop_call"), "_stop_call", "Leg._stop_call", defArgs s_Leg__stop_call, defBody s_Leg__stop_call, defScope s_Leg__stop_call, [], []⟩
def d_Leg__ask : He.DefD := ⟨("Leg", some "_ask"), "_ask", "Leg._ask", defArgs s_Leg__ask, defBody s_Leg__ask, defScope s_Leg__ask, [], []⟩
def d_Leg__is_asking : He.DefD := ⟨("Leg", some "_is_asking"), "_is_asking", "Leg._is_asking", defArgs s_Leg__is_asking, defBody s_Leg__is_asking, defScope s_Leg__is_asking, [], []⟩
def d_Leg__send_waiting : He.DefD := ⟨("Leg", some "_send_waiting"), "_send_waiting", "Leg._send_waiting", defArgs s_Leg__send_waiting, defBody s_Leg__send_waiting, defScope s_Leg__send_waiting, [], []⟩
def d_Leg__has_most_servers : He.DefD := ⟨("Leg", some "_has_most_servers"), "_has_most_servers", "Leg._has_most_servers", defArgs s_Leg__has_most_servers, defBody s_Leg__has_most_servers, defScope s_Leg__has_most_servers, [], []⟩
def d_Leg__take_known : He.DefD := ⟨("Leg", some "_take_known"), "_take_known", "Leg._take_known", defArgs s_Leg__take_known, defBody s_Leg__take_known, defScope s_Leg__take_known, [], []⟩
def d_Leg__take_new : He.DefD := ⟨("Leg", some "_take_new"), "_take_new", "Leg._take_new", defArgs s_Leg__take_new, defBody s_Leg__take_new, defScope s_Leg__take_new, [], []⟩
def d_Leg__take_end : He.DefD := ⟨("Leg", some "_take_end"), "_take_end", "Leg._take_end", defArgs s_Leg__take_end, defBody s_Leg__take_end, defScope s_Leg__take_end, [], []⟩
def d_Leg__take_stop : He.DefD := ⟨("Leg", some "_take_stop"), "_take_stop", "Leg._take_stop", defArgs s_Leg__take_stop, defBody s_Leg__take_stop, defScope s_Leg__take_stop, [], []⟩
def d_Leg__take_turn : He.DefD := ⟨("Leg", some "_take_turn"), "_take_turn", "Leg._take_turn", defArgs s_Leg__take_turn, defBody s_Leg__take_turn, defScope s_Leg__take_turn, [], []⟩
def d_Leg__take_move : He.DefD := ⟨("Leg", some "_take_move"), "_take_move", "Leg._take_move", defArgs s_Leg__take_move, defBody s_Leg__take_move, defScope s_Leg__take_move, [], []⟩
def d_Leg__take_reply : He.DefD := ⟨("Leg", some "_take_reply"), "_take_reply", "Leg._take_reply", defArgs s_Leg__take_reply, defBody s_Leg__take_reply, defScope s_Leg__take_reply, [], []⟩
def d_Leg__follow : He.DefD := ⟨("Leg", some "_follow"), "_follow", "Leg._follow", defArgs s_Leg__follow, defBody s_Leg__follow, defScope s_Leg__follow, [], []⟩
def d_Leg__follow_call : He.DefD := ⟨("Leg", some "_follow_call"), "_follow_call", "Leg._follow_call", defArgs s_Leg__follow_call, defBody s_Leg__follow_call, defScope s_Leg__follow_call, [], []⟩
def d_Leg__give_up_request : He.DefD := ⟨("Leg", some "_give_up_request"), "_give_up_request", "Leg._give_up_request", defArgs s_Leg__give_up_request, defBody s_Leg__give_up_request, defScope s_Leg__give_up_request, [], []⟩
def d_Leg__lose : He.DefD := ⟨("Leg", some "_lose"), "_lose", "Leg._lose", defArgs s_Leg__lose, defBody s_Leg__lose, defScope s_Leg__lose, [], []⟩
def d_Leg__send_live : He.DefD := ⟨("Leg", some "_send_live"), "_send_live", "Leg._send_live", defArgs s_Leg__send_live, defBody s_Leg__send_live, defScope s_Leg__send_live, [], []⟩
def d_Leg__forget_those_over : He.DefD := ⟨("Leg", some "_forget_those_over"), "_forget_those_over", "Leg._forget_those_over", defArgs s_Leg__forget_those_over, defBody s_Leg__forget_those_over, defScope s_Leg__forget_those_over, [], []⟩
def d_law_state : He.DefD := ⟨("_law_state", none), "_law_state", "_law_state", defArgs s_law_state, defBody s_law_state, defScope s_law_state, [], []⟩
def d_law_draw : He.DefD := ⟨("_law_draw", none), "_law_draw", "_law_draw", defArgs s_law_draw, defBody s_law_draw, defScope s_law_draw, [], []⟩
def d_law_pick : He.DefD := ⟨("_law_pick", none), "_law_pick", "_law_pick", defArgs s_law_pick, defBody s_law_pick, defScope s_law_pick, [], []⟩
def d_law_leg : He.DefD := ⟨("_law_leg", none), "_law_leg", "_law_leg", defArgs s_law_leg, defBody s_law_leg, defScope s_law_leg, [], []⟩
def d_law_letter : He.DefD := ⟨("_law_letter", none), "_law_letter", "_law_letter", defArgs s_law_letter, defBody s_law_letter, defScope s_law_letter, [], []⟩
def d_law_first : He.DefD := ⟨("_law_first", none), "_law_first", "_law_first", defArgs s_law_first, defBody s_law_first, defScope s_law_first, [], []⟩
def d_law_sent : He.DefD := ⟨("_law_sent", none), "_law_sent", "_law_sent", defArgs s_law_sent, defBody s_law_sent, defScope s_law_sent, [], []⟩
def d_law_made : He.DefD := ⟨("_law_made", none), "_law_made", "_law_made", defArgs s_law_made, defBody s_law_made, defScope s_law_made, [], []⟩
def d_law_turn : He.DefD := ⟨("_law_turn", none), "_law_turn", "_law_turn", defArgs s_law_turn, defBody s_law_turn, defScope s_law_turn, [], []⟩
def d_law_code : He.DefD := ⟨("_law_code", none), "_law_code", "_law_code", defArgs s_law_code, defBody s_law_code, defScope s_law_code, [], []⟩
def d_law_due_state : He.DefD := ⟨("_law_due_state", none), "_law_due_state", "_law_due_state", defArgs s_law_due_state, defBody s_law_due_state, defScope s_law_due_state, [], []⟩
def d_law_due_events : He.DefD := ⟨("_law_due_events", none), "_law_due_events", "_law_due_events", defArgs s_law_due_events, defBody s_law_due_events, defScope s_law_due_events, [], []⟩
def d_law_answer : He.DefD := ⟨("_law_answer", none), "_law_answer", "_law_answer", defArgs s_law_answer, defBody s_law_answer, defScope s_law_answer, [], []⟩
def d_law_replies_right : He.DefD := ⟨("_law_replies_right", none), "_law_replies_right", "_law_replies_right", defArgs s_law_replies_right, defBody s_law_replies_right, defScope s_law_replies_right, [], []⟩
def d_law : He.DefD := ⟨("law", none), "law", "law", defArgs s_law, defBody s_law, defScope s_law, [], []⟩
def fnL : List He.DefD := [d_wall, d_is_name, d_is_tag, d_is_address, d_read_number, d_split_address, d_consists_of, d_read_offer, d_write_offer, d_answer, d_flows, d_read_formats, d_sends, d_takes, d_mode, d_Letter___init, d_Letter_parts, d_Letter_reply, d_is_final, d_write, d_read, d_write_head, d_read_head, d_read_line, d_read_origin, d_read_target, d_read_single, d_Wait___init, d_Wait_repeats, d_Wait_is_up, d_Client___init, d_Client_sending, d_Client_take, d_Client_stop, d_Client_tick, d_Client_is_over, d_Client__take_provisional, d_Client__keep_for, d_Server___init, d_Server_matches, d_Server_again, d_Server_reply, d_Server_keep, d_Server_tick, d_Server_is_over, d_Leg___init, d_Leg_call_out, d_Leg_call_in, d_Leg_ring, d_Leg_accept, d_Leg_refuse, d_Leg_hang_up, d_Leg_turn, d_Leg_move, d_Leg_receive, d_Leg_tick, d_Leg_take_events, d_Leg_is_done, d_Leg__send, d_Leg__serve, d_Leg__reply, d_Leg__reply_to_call, d_Leg__talk, d_Leg__end, d_Leg__stop_call, d_Leg__ask, d_Leg__is_asking, d_Leg__send_waiting, d_Leg__has_most_servers, d_Leg__take_known, d_Leg__take_new, d_Leg__take_end, d_Leg__take_stop, d_Leg__take_turn, d_Leg__take_move, d_Leg__take_reply, d_Leg__follow, d_Leg__follow_call, d_Leg__give_up_request, d_Leg__lose, d_Leg__send_live, d_Leg__forget_those_over, d_law_state, d_law_draw, d_law_pick, d_law_leg, d_law_letter, d_law_first, d_law_sent, d_law_made, d_law_turn, d_law_code, d_law_due_state, d_law_due_events, d_law_answer, d_law_replies_right, d_law]
def faL : List He.Fa := [.glo "ASKING", .glo "BEFORE_TALKING", .int "BUSY" 44, .glo "CODES", .str "DIGITS" "0123456789", .int "GREATEST_CODE" 99, .int "GREATEST_GAP" 8, .int "GREATEST_PORT" 65535, .int "GREATEST_SEQ" 999999, .int "LEAST_FINAL_CODE" 20, .int "LIMIT" 32, .int "LONGEST_NUMBER" 9, .int "LONGEST_STAY" 9999, .int "LONGEST_WORD" 16, .glo "MODES", .int "MOST_FORMATS" 6, .int "MOST_SERVERS" 16, .int "MOST_WAITING" 8, .str "NAME_MARKS" "abcdefghijklmnopqrstuvwxyz0123456789", .glo "NEEDED", .int "NOT_NOW" 50, .int "NO_ANSWER" 48, .int "NO_CALL" 41, .int "NO_FORMAT" 46, .glo "POSSIBLE", .int "RINGS" 18, .str "SMALL_LETTERS" "abcdefghijklmnopqrstuvwxyz", .int "STOPPED" 45, .str "TAG_MARKS" "ABCDEFGHIJKLMNOPQRSTUVWXYZabcdefghijklmnopqrstuvwxyz0123456789", .glo "VERBS", .int "YES" 20, .free "abs", .free "all", .free "any", .free "int", .free "len", .free "list", .free "max", .free "min", .free "set", .free "str", .free "tuple", .cls "Letter", .noat "Letter" "verb", .noat "Letter" "code", .noat "Letter" "call", .noat "Letter" "origin", .noat "Letter" "origin_tag", .noat "Letter" "target", .noat "Letter" "target_tag", .noat "Letter" "seq", .noat "Letter" "way", .noat "Letter" "offer", .noat "Letter" "stay", .noat "Letter" "goal", .glo "Letter", .mkr "Letter", .cls "Wait", .noat "Wait" "_began", .noat "Wait" "_first", .noat "Wait" "_gap", .noat "Wait" "_due", .glo "Wait", .mkr "Wait", .cls "Client", .noat "Client" "letter", .noat "Client" "place", .noat "Client" "state", .noat "Client" "_first", .noat "Client" "_wait", .noat "Client" "_keep", .glo "Client", .mkr "Client", .cls "Server", .noat "Server" "letter", .noat "Server" "place", .noat "Server" "state", .noat "Server" "code", .noat "Server" "_first", .noat "Server" "_wait", .noat "Server" "_latest", .glo "Server", .mkr "Server", .cls "Leg", .noat "Leg" "tag", .noat "Leg" "call", .noat "Leg" "own", .noat "Leg" "other", .noat "Leg" "place", .noat "Leg" "able", .noat "Leg" "first", .noat "Leg" "check", .noat "Leg" "other_tag", .noat "Leg" "state", .noat "Leg" "_seq", .noat "Leg" "_requests", .noat "Leg" "took_call", .noat "Leg" "_greatest_taken", .noat "Leg" "_clients", .noat "Leg" "_servers", .noat "Leg" "_waiting", .noat "Leg" "_live_due", .noat "Leg" "_events", .glo "Leg", .mkr "Leg", .glo "_wall", .glo "is_name", .glo "is_tag", .glo "is_address", .glo "read_number", .glo "split_address", .glo "_consists_of", .glo "read_offer", .glo "write_offer", .glo "answer", .glo "flows", .glo "_read_formats", .glo "_sends", .glo "_takes", .glo "_mode", .meth "Letter" "parts", .meth "Letter" "reply", .glo "is_final", .glo "write", .glo "read", .glo "_write_head", .glo "_read_head", .glo "_read_line", .glo "_read_origin", .glo "_read_target", .glo "_read_single", .meth "Wait" "repeats", .meth "Wait" "is_up", .meth "Client" "sending", .meth "Client" "take", .meth "Client" "stop", .meth "Client" "tick", .meth "Client" "is_over", .meth "Client" "_take_provisional", .meth "Client" "_keep_for", .meth "Server" "matches", .meth "Server" "again", .meth "Server" "reply", .meth "Server" "keep", .meth "Server" "tick", .meth "Server" "is_over", .meth "Leg" "call_out", .meth "Leg" "call_in", .meth "Leg" "ring", .meth "Leg" "accept", .meth "Leg" "refuse", .meth "Leg" "hang_up", .meth "Leg" "turn", .meth "Leg" "move", .meth "Leg" "receive", .meth "Leg" "tick", .meth "Leg" "take_events", .meth "Leg" "is_done", .meth "Leg" "_send", .meth "Leg" "_serve", .meth "Leg" "_reply", .meth "Leg" "_reply_to_call", .meth "Leg" "_talk", .meth "Leg" "_end", .meth "Leg" "_stop_call", .meth "Leg" "_ask", .meth "Leg" "_is_asking", .meth "Leg" "_send_waiting", .meth "Leg" "_has_most_servers", .meth "Leg" "_take_known", .meth "Leg" "_take_new", .meth "Leg" "_take_end", .meth "Leg" "_take_stop", .meth "Leg" "_take_turn", .meth "Leg" "_take_move", .meth "Leg" "_take_reply", .meth "Leg" "_follow", .meth "Leg" "_follow_call", .meth "Leg" "_give_up_request", .meth "Leg" "_lose", .meth "Leg" "_send_live", .meth "Leg" "_forget_those_over", .glo "_law_state", .glo "_law_draw", .glo "_law_pick", .glo "_law_leg", .glo "_law_letter", .glo "_law_first", .glo "_law_sent", .glo "_law_made", .glo "_law_turn", .glo "_law_code", .glo "_law_due_state", .glo "_law_due_events", .glo "_law_answer", .glo "_law_replies_right", .glo "law"]
def loose0 : List Str := ["SMALL_LETTERS", "DIGITS", "NAME_MARKS", "TAG_MARKS", "LONGEST_WORD", "LONGEST_NUMBER", "MODES", "GREATEST_PORT", "MOST_FORMATS", "VERBS", "CODES", "LEAST_FINAL_CODE", "GREATEST_CODE", "GREATEST_SEQ", "LONGEST_STAY", "NEEDED", "POSSIBLE", "GREATEST_GAP", "LIMIT", "ASKING", "BEFORE_TALKING", "MOST_WAITING", "MOST_SERVERS", "RINGS", "YES", "NO_CALL", "BUSY", "STOPPED", "NO_FORMAT", "NO_ANSWER"]
def loose1 : List Str := ["NOT_NOW", "_wall", "is_name", "is_tag", "is_address", "read_number", "split_address", "_consists_of", "read_offer", "write_offer", "answer", "flows", "_read_formats", "_sends", "_takes", "_mode", "is_final", "write", "read", "_write_head", "_read_head", "_read_line", "_read_origin", "_read_target", "_read_single", "_law_state", "_law_draw", "_law_pick", "_law_leg", "_law_letter"]
def loose2 : List Str := ["_law_first", "_law_sent", "_law_made", "_law_turn", "_law_code", "_law_due_state", "_law_due_events", "_law_answer", "_law_replies_right", "TrunklandError", "LetterError", "Letter", "Wait", "Client", "Server", "Leg"]
abbrev Row0 : PySem.W.OpenRow := PySem.W.OpenLaw.row PySem.Challenge.rw_trunkland_k07_replies_of_legs
def exL (K : PySem.W.Frag) : List Bool := [He.tupB K "ASKING" [.str "TURN", .str "MOVE", .str "LIVE"], He.tupB K "BEFORE_TALKING" [.str "calling", .str "ringing"], He.tupB K "CODES" [.int 18, .int 20, .int 41, .int 43, .int 44, .int 45, .int 46, .int 48, .int 50], He.tupB K "MODES" [.str "both", .str "send", .str "take", .str "none"], He.tupB K "NEEDED" [.str "call", .str "from", .str "to", .str "seq", .str "way"], He.tupB K "POSSIBLE" [.str "offer", .str "stay", .str "goal"], He.tupB K "VERBS" [.str "CALL", .str "KEEP", .str "STOP", .str "END", .str "TURN", .str "MOVE", .str "LIVE", .str "SIGN"]]
abbrev hk : PySem.W.Hook := TKH.hookN 5 faL fnL exL
def ob (s : PySem.W.SharedT) : He.AlD := TKH.obsN 5 faL fnL exL (HandSHeadRun.getT s)
theorem ob_eq (s : PySem.W.SharedT) : ob s = hk.obs s.abs := TKH.obsN_eq (HandSHeadRun.getT_eq s)
theorem run (w : World) : HandSHeadRun.RunEq Row0 (PySem.W.view Row0.prog [85]) hk ob 6000 (loose0 ++ loose1 ++ loose2) w := by
  intro os
  kernel_rfl
theorem facts {P : Program} {w : World} {K : PySem.W.Frag} {h : Heap} {mg : Str → Option Value} {f : Addr} (X : K.In h) (G : h.Ns mainGlobals mg) (hfa : mg ("law" : Str) = some (.ref f)) (c : He.SaysD faL fnL K) (cx : (exL K).all id = true) :
    ∃ fd : FuncData, (∀ (s : Shared) (v : Value), BindsTo s fd ⟨[v], []⟩ [("script", v)]) ∧ ∀ base : Heap, K.In base → base.Ns mainGlobals mg → FnOk P w K mg base CX0 11 f fd ["script"] (spLaw K) := by
  have x_0 := He.tupB_ok (TK.exAt cx 0 rfl)
  have x_1 := He.tupB_ok (TK.exAt cx 1 rfl)
  have x_2 := He.tupB_ok (TK.exAt cx 2 rfl)
  have x_3 := He.tupB_ok (TK.exAt cx 3 rfl)
  have x_4 := He.tupB_ok (TK.exAt cx 4 rfl)
  have x_5 := He.tupB_ok (TK.exAt cx 5 rfl)
  have x_6 := He.tupB_ok (TK.exAt cx 6 rfl)
  have T : Tx K mg := ⟨He.glo_ok X G (c.fact 0 (f := .glo "ASKING") rfl), x_0, He.glo_ok X G (c.fact 1 (f := .glo "BEFORE_TALKING") rfl), x_1, He.int_ok X G (c.fact 2 (f := .int "BUSY" 44) rfl), He.glo_ok X G (c.fact 3 (f := .glo "CODES") rfl), x_2, He.str_ok X G (c.fact 4 (f := .str "DIGITS" "0123456789") rfl), He.int_ok X G (c.fact 5 (f := .int "GREATEST_CODE" 99) rfl), He.int_ok X G (c.fact 6 (f := .int "GREATEST_GAP" 8) rfl), He.int_ok X G (c.fact 7 (f := .int "GREATEST_PORT" 65535) rfl), He.int_ok X G (c.fact 8 (f := .int "GREATEST_SEQ" 999999) rfl), He.int_ok X G (c.fact 9 (f := .int "LEAST_FINAL_CODE" 20) rfl), He.int_ok X G (c.fact 10 (f := .int "LIMIT" 32) rfl), He.int_ok X G (c.fact 11 (f := .int "LONGEST_NUMBER" 9) rfl), He.int_ok X G (c.fact 12 (f := .int "LONGEST_STAY" 9999) rfl), He.int_ok X G (c.fact 13 (f := .int "LONGEST_WORD" 16) rfl), He.glo_ok X G (c.fact 14 (f := .glo "MODES") rfl), x_3, He.int_ok X G (c.fact 15 (f := .int "MOST_FORMATS" 6) rfl), He.int_ok X G (c.fact 16 (f := .int "MOST_SERVERS" 16) rfl), He.int_ok X G (c.fact 17 (f := .int "MOST_WAITING" 8) rfl), He.str_ok X G (c.fact 18 (f := .str "NAME_MARKS" "abcdefghijklmnopqrstuvwxyz0123456789") rfl), He.glo_ok X G (c.fact 19 (f := .glo "NEEDED") rfl), x_4, He.int_ok X G (c.fact 20 (f := .int "NOT_NOW" 50) rfl), He.int_ok X G (c.fact 21 (f := .int "NO_ANSWER" 48) rfl), He.int_ok X G (c.fact 22 (f := .int "NO_CALL" 41) rfl), He.int_ok X G (c.fact 23 (f := .int "NO_FORMAT" 46) rfl), He.glo_ok X G (c.fact 24 (f := .glo "POSSIBLE") rfl), x_5, He.int_ok X G (c.fact 25 (f := .int "RINGS" 18) rfl), He.str_ok X G (c.fact 26 (f := .str "SMALL_LETTERS" "abcdefghijklmnopqrstuvwxyz") rfl), He.int_ok X G (c.fact 27 (f := .int "STOPPED" 45) rfl), He.str_ok X G (c.fact 28 (f := .str "TAG_MARKS" "ABCDEFGHIJKLMNOPQRSTUVWXYZabcdefghijklmnopqrstuvwxyz0123456789") rfl), He.glo_ok X G (c.fact 29 (f := .glo "VERBS") rfl), x_6, He.int_ok X G (c.fact 30 (f := .int "YES" 20) rfl), He.free_ok X G (c.fact 31 (f := .free "abs") rfl), He.free_ok X G (c.fact 32 (f := .free "all") rfl), He.free_ok X G (c.fact 33 (f := .free "any") rfl), He.free_ok X G (c.fact 34 (f := .free "int") rfl), He.free_ok X G (c.fact 35 (f := .free "len") rfl), He.free_ok X G (c.fact 36 (f := .free "list") rfl), He.free_ok X G (c.fact 37 (f := .free "max") rfl), He.free_ok X G (c.fact 38 (f := .free "min") rfl), He.free_ok X G (c.fact 39 (f := .free "set") rfl), He.free_ok X G (c.fact 40 (f := .free "str") rfl), He.free_ok X G (c.fact 41 (f := .free "tuple") rfl), He.cls_ok (c.fact 42 (f := .cls "Letter") rfl), He.noat_ok (c.fact 43 (f := .noat "Letter" "verb") rfl), He.noat_ok (c.fact 44 (f := .noat "Letter" "code") rfl), He.noat_ok (c.fact 45 (f := .noat "Letter" "call") rfl), He.noat_ok (c.fact 46 (f := .noat "Letter" "origin") rfl), He.noat_ok (c.fact 47 (f := .noat "Letter" "origin_tag") rfl), He.noat_ok (c.fact 48 (f := .noat "Letter" "target") rfl), He.noat_ok (c.fact 49 (f := .noat "Letter" "target_tag") rfl), He.noat_ok (c.fact 50 (f := .noat "Letter" "seq") rfl), He.noat_ok (c.fact 51 (f := .noat "Letter" "way") rfl), He.noat_ok (c.fact 52 (f := .noat "Letter" "offer") rfl), He.noat_ok (c.fact 53 (f := .noat "Letter" "stay") rfl), He.noat_ok (c.fact 54 (f := .noat "Letter" "goal") rfl), He.cls_ok (c.fact 57 (f := .cls "Wait") rfl), He.noat_ok (c.fact 58 (f := .noat "Wait" "_began") rfl), He.noat_ok (c.fact 59 (f := .noat "Wait" "_first") rfl), He.noat_ok (c.fact 60 (f := .noat "Wait" "_gap") rfl), He.noat_ok (c.fact 61 (f := .noat "Wait" "_due") rfl), He.cls_ok (c.fact 64 (f := .cls "Client") rfl), He.noat_ok (c.fact 65 (f := .noat "Client" "letter") rfl), He.noat_ok (c.fact 66 (f := .noat "Client" "place") rfl), He.noat_ok (c.fact 67 (f := .noat "Client" "state") rfl), He.noat_ok (c.fact 68 (f := .noat "Client" "_first") rfl), He.noat_ok (c.fact 69 (f := .noat "Client" "_wait") rfl), He.noat_ok (c.fact 70 (f := .noat "Client" "_keep") rfl), He.cls_ok (c.fact 73 (f := .cls "Server") rfl), He.noat_ok (c.fact 74 (f := .noat "Server" "letter") rfl), He.noat_ok (c.fact 75 (f := .noat "Server" "place") rfl), He.noat_ok (c.fact 76 (f := .noat "Server" "state") rfl), He.noat_ok (c.fact 77 (f := .noat "Server" "code") rfl), He.noat_ok (c.fact 78 (f := .noat "Server" "_first") rfl), He.noat_ok (c.fact 79 (f := .noat "Server" "_wait") rfl), He.noat_ok (c.fact 80 (f := .noat "Server" "_latest") rfl), He.cls_ok (c.fact 83 (f := .cls "Leg") rfl), He.noat_ok (c.fact 84 (f := .noat "Leg" "tag") rfl), He.noat_ok (c.fact 85 (f := .noat "Leg" "call") rfl), He.noat_ok (c.fact 86 (f := .noat "Leg" "own") rfl), He.noat_ok (c.fact 87 (f := .noat "Leg" "other") rfl), He.noat_ok (c.fact 88 (f := .noat "Leg" "place") rfl), He.noat_ok (c.fact 89 (f := .noat "Leg" "able") rfl), He.noat_ok (c.fact 90 (f := .noat "Leg" "first") rfl), He.noat_ok (c.fact 91 (f := .noat "Leg" "check") rfl), He.noat_ok (c.fact 92 (f := .noat "Leg" "other_tag") rfl), He.noat_ok (c.fact 93 (f := .noat "Leg" "state") rfl), He.noat_ok (c.fact 94 (f := .noat "Leg" "_seq") rfl), He.noat_ok (c.fact 95 (f := .noat "Leg" "_requests") rfl), He.noat_ok (c.fact 96 (f := .noat "Leg" "took_call") rfl), He.noat_ok (c.fact 97 (f := .noat "Leg" "_greatest_taken") rfl), He.noat_ok (c.fact 98 (f := .noat "Leg" "_clients") rfl), He.noat_ok (c.fact 99 (f := .noat "Leg" "_servers") rfl), He.noat_ok (c.fact 100 (f := .noat "Leg" "_waiting") rfl), He.noat_ok (c.fact 101 (f := .noat "Leg" "_live_due") rfl), He.noat_ok (c.fact 102 (f := .noat "Leg" "_events") rfl)⟩
  obtain ⟨fd_wall, F_wall⟩ := c.def_ 0 (d := d_wall) rfl
  obtain ⟨fd_is_name, F_is_name⟩ := c.def_ 1 (d := d_is_name) rfl
  obtain ⟨fd_is_tag, F_is_tag⟩ := c.def_ 2 (d := d_is_tag) rfl
  obtain ⟨fd_is_address, F_is_address⟩ := c.def_ 3 (d := d_is_address) rfl
  obtain ⟨fd_read_number, F_read_number⟩ := c.def_ 4 (d := d_read_number) rfl
  obtain ⟨fd_split_address, F_split_address⟩ := c.def_ 5 (d := d_split_address) rfl
  obtain ⟨fd_consists_of, F_consists_of⟩ := c.def_ 6 (d := d_consists_of) rfl
  obtain ⟨fd_read_offer, F_read_offer⟩ := c.def_ 7 (d := d_read_offer) rfl
  obtain ⟨fd_write_offer, F_write_offer⟩ := c.def_ 8 (d := d_write_offer) rfl
  obtain ⟨fd_answer, F_answer⟩ := c.def_ 9 (d := d_answer) rfl
  obtain ⟨fd_flows, F_flows⟩ := c.def_ 10 (d := d_flows) rfl
  obtain ⟨fd_read_formats, F_read_formats⟩ := c.def_ 11 (d := d_read_formats) rfl
  obtain ⟨fd_sends, F_sends⟩ := c.def_ 12 (d := d_sends) rfl
  obtain ⟨fd_takes, F_takes⟩ := c.def_ 13 (d := d_takes) rfl
  obtain ⟨fd_mode, F_mode⟩ := c.def_ 14 (d := d_mode) rfl
  obtain ⟨fd_Letter___init, F_Letter___init⟩ := c.def_ 15 (d := d_Letter___init) rfl
  obtain ⟨fd_Letter_parts, F_Letter_parts⟩ := c.def_ 16 (d := d_Letter_parts) rfl
  obtain ⟨fd_Letter_reply, F_Letter_reply⟩ := c.def_ 17 (d := d_Letter_reply) rfl
  obtain ⟨fd_is_final, F_is_final⟩ := c.def_ 18 (d := d_is_final) rfl
  obtain ⟨fd_write, F_write⟩ := c.def_ 19 (d := d_write) rfl
  obtain ⟨fd_read, F_read⟩ := c.def_ 20 (d := d_read) rfl
  obtain ⟨fd_write_head, F_write_head⟩ := c.def_ 21 (d := d_write_head) rfl
  obtain ⟨fd_read_head, F_read_head⟩ := c.def_ 22 (d := d_read_head) rfl
  obtain ⟨fd_read_line, F_read_line⟩ := c.def_ 23 (d := d_read_line) rfl
  obtain ⟨fd_read_origin, F_read_origin⟩ := c.def_ 24 (d := d_read_origin) rfl
  obtain ⟨fd_read_target, F_read_target⟩ := c.def_ 25 (d := d_read_target) rfl
  obtain ⟨fd_read_single, F_read_single⟩ := c.def_ 26 (d := d_read_single) rfl
  obtain ⟨fd_Wait___init, F_Wait___init⟩ := c.def_ 27 (d := d_Wait___init) rfl
  obtain ⟨fd_Wait_repeats, F_Wait_repeats⟩ := c.def_ 28 (d := d_Wait_repeats) rfl
  obtain ⟨fd_Wait_is_up, F_Wait_is_up⟩ := c.def_ 29 (d := d_Wait_is_up) rfl
  obtain ⟨fd_Client___init, F_Client___init⟩ := c.def_ 30 (d := d_Client___init) rfl
  obtain ⟨fd_Client_sending, F_Client_sending⟩ := c.def_ 31 (d := d_Client_sending) rfl
  obtain ⟨fd_Client_take, F_Client_take⟩ := c.def_ 32 (d := d_Client_take) rfl
  obtain ⟨fd_Client_stop, F_Client_stop⟩ := c.def_ 33 (d := d_Client_stop) rfl
  obtain ⟨fd_Client_tick, F_Client_tick⟩ := c.def_ 34 (d := d_Client_tick) rfl
  obtain ⟨fd_Client_is_over, F_Client_is_over⟩ := c.def_ 35 (d := d_Client_is_over) rfl
  obtain ⟨fd_Client__take_provisional, F_Client__take_provisional⟩ := c.def_ 36 (d := d_Client__take_provisional) rfl
  obtain ⟨fd_Client__keep_for, F_Client__keep_for⟩ := c.def_ 37 (d := d_Client__keep_for) rfl
  obtain ⟨fd_Server___init, F_Server___init⟩ := c.def_ 38 (d := d_Server___init) rfl
  obtain ⟨fd_Server_matches, F_Server_matches⟩ := c.def_ 39 (d := d_Server_matches) rfl
  obtain ⟨fd_Server_again, F_Server_again⟩ := c.def_ 40 (d := d_Server_again) rfl
  obtain ⟨fd_Server_reply, F_Server_reply⟩ := c.def_ 41 (d := d_Server_reply) rfl
  obtain ⟨fd_Server_keep, F_Server_keep⟩ := c.def_ 42 (d := d_Server_keep) rfl
  obtain ⟨fd_Server_tick, F_Server_tick⟩ := c.def_ 43 (d := d_Server_tick) rfl
  obtain ⟨fd_Server_is_over, F_Server_is_over⟩ := c.def_ 44 (d := d_Server_is_over) rfl
  obtain ⟨fd_Leg___init, F_Leg___init⟩ := c.def_ 45 (d := d_Leg___init) rfl
  obtain ⟨fd_Leg_call_out, F_Leg_call_out⟩ := c.def_ 46 (d := d_Leg_call_out) rfl
  obtain ⟨fd_Leg_call_in, F_Leg_call_in⟩ := c.def_ 47 (d := d_Leg_call_in) rfl
  obtain ⟨fd_Leg_ring, F_Leg_ring⟩ := c.def_ 48 (d := d_Leg_ring) rfl
  obtain ⟨fd_Leg_accept, F_Leg_accept⟩ := c.def_ 49 (d := d_Leg_accept) rfl
  obtain ⟨fd_Leg_refuse, F_Leg_refuse⟩ := c.def_ 50 (d := d_Leg_refuse) rfl
  obtain ⟨fd_Leg_hang_up, F_Leg_hang_up⟩ := c.def_ 51 (d := d_Leg_hang_up) rfl
  obtain ⟨fd_Leg_turn, F_Leg_turn⟩ := c.def_ 52 (d := d_Leg_turn) rfl
  obtain ⟨fd_Leg_move, F_Leg_move⟩ := c.def_ 53 (d := d_Leg_move) rfl
  obtain ⟨fd_Leg_receive, F_Leg_receive⟩ := c.def_ 54 (d := d_Leg_receive) rfl
  obtain ⟨fd_Leg_tick, F_Leg_tick⟩ := c.def_ 55 (d := d_Leg_tick) rfl
  obtain ⟨fd_Leg_take_events, F_Leg_take_events⟩ := c.def_ 56 (d := d_Leg_take_events) rfl
  obtain ⟨fd_Leg_is_done, F_Leg_is_done⟩ := c.def_ 57 (d := d_Leg_is_done) rfl
  obtain ⟨fd_Leg__send, F_Leg__send⟩ := c.def_ 58 (d := d_Leg__send) rfl
  obtain ⟨fd_Leg__serve, F_Leg__serve⟩ := c.def_ 59 (d := d_Leg__serve) rfl
  obtain ⟨fd_Leg__reply, F_Leg__reply⟩ := c.def_ 60 (d := d_Leg__reply) rfl
  obtain ⟨fd_Leg__reply_to_call, F_Leg__reply_to_call⟩ := c.def_ 61 (d := d_Leg__reply_to_call) rfl
  obtain ⟨fd_Leg__talk, F_Leg__talk⟩ := c.def_ 62 (d := d_Leg__talk) rfl
  obtain ⟨fd_Leg__end, F_Leg__end⟩ := c.def_ 63 (d := d_Leg__end) rfl
  obtain ⟨fd_Leg__stop_call, F_Leg__stop_call⟩ := c.def_ 64 (d := d_Leg__stop_call) rfl
  obtain ⟨fd_Leg__ask, F_Leg__ask⟩ := c.def_ 65 (d := d_Leg__ask) rfl
  obtain ⟨fd_Leg__is_asking, F_Leg__is_asking⟩ := c.def_ 66 (d := d_Leg__is_asking) rfl
  obtain ⟨fd_Leg__send_waiting, F_Leg__send_waiting⟩ := c.def_ 67 (d := d_Leg__send_waiting) rfl
  obtain ⟨fd_Leg__has_most_servers, F_Leg__has_most_servers⟩ := c.def_ 68 (d := d_Leg__has_most_servers) rfl
  obtain ⟨fd_Leg__take_known, F_Leg__take_known⟩ := c.def_ 69 (d := d_Leg__take_known) rfl
  obtain ⟨fd_Leg__take_new, F_Leg__take_new⟩ := c.def_ 70 (d := d_Leg__take_new) rfl
  obtain ⟨fd_Leg__take_end, F_Leg__take_end⟩ := c.def_ 71 (d := d_Leg__take_end) rfl
  obtain ⟨fd_Leg__take_stop, F_Leg__take_stop⟩ := c.def_ 72 (d := d_Leg__take_stop) rfl
  obtain ⟨fd_Leg__take_turn, F_Leg__take_turn⟩ := c.def_ 73 (d := d_Leg__take_turn) rfl
  obtain ⟨fd_Leg__take_move, F_Leg__take_move⟩ := c.def_ 74 (d := d_Leg__take_move) rfl
  obtain ⟨fd_Leg__take_reply, F_Leg__take_reply⟩ := c.def_ 75 (d := d_Leg__take_reply) rfl
  obtain ⟨fd_Leg__follow, F_Leg__follow⟩ := c.def_ 76 (d := d_Leg__follow) rfl
  obtain ⟨fd_Leg__follow_call, F_Leg__follow_call⟩ := c.def_ 77 (d := d_Leg__follow_call) rfl
  obtain ⟨fd_Leg__give_up_request, F_Leg__give_up_request⟩ := c.def_ 78 (d := d_Leg__give_up_request) rfl
  obtain ⟨fd_Leg__lose, F_Leg__lose⟩ := c.def_ 79 (d := d_Leg__lose) rfl
  obtain ⟨fd_Leg__send_live, F_Leg__send_live⟩ := c.def_ 80 (d := d_Leg__send_live) rfl
  obtain ⟨fd_Leg__forget_those_over, F_Leg__forget_those_over⟩ := c.def_ 81 (d := d_Leg__forget_those_over) rfl
  obtain ⟨fd_law_state, F_law_state⟩ := c.def_ 82 (d := d_law_state) rfl
  obtain ⟨fd_law_draw, F_law_draw⟩ := c.def_ 83 (d := d_law_draw) rfl
  obtain ⟨fd_law_pick, F_law_pick⟩ := c.def_ 84 (d := d_law_pick) rfl
  obtain ⟨fd_law_leg, F_law_leg⟩ := c.def_ 85 (d := d_law_leg) rfl
  obtain ⟨fd_law_letter, F_law_letter⟩ := c.def_ 86 (d := d_law_letter) rfl
  obtain ⟨fd_law_first, F_law_first⟩ := c.def_ 87 (d := d_law_first) rfl
  obtain ⟨fd_law_sent, F_law_sent⟩ := c.def_ 88 (d := d_law_sent) rfl
  obtain ⟨fd_law_made, F_law_made⟩ := c.def_ 89 (d := d_law_made) rfl
  obtain ⟨fd_law_turn, F_law_turn⟩ := c.def_ 90 (d := d_law_turn) rfl
  obtain ⟨fd_law_code, F_law_code⟩ := c.def_ 91 (d := d_law_code) rfl
  obtain ⟨fd_law_due_state, F_law_due_state⟩ := c.def_ 92 (d := d_law_due_state) rfl
  obtain ⟨fd_law_due_events, F_law_due_events⟩ := c.def_ 93 (d := d_law_due_events) rfl
  obtain ⟨fd_law_answer, F_law_answer⟩ := c.def_ 94 (d := d_law_answer) rfl
  obtain ⟨fd_law_replies_right, F_law_replies_right⟩ := c.def_ 95 (d := d_law_replies_right) rfl
  obtain ⟨fd_law, F_law⟩ := c.def_ 96 (d := d_law) rfl
  have e := hfa.symm.trans (He.glo_ok X G (c.fact 196 (f := .glo "law") rfl))
  cases e
  have b := FunD.bindsA (ps := ["script"]) F_law fun _ _ _ _ _ _ us hl => match us, hl with | [_], _ => rfl
  refine ⟨fd_law, fun s v => b s [v] rfl, fun base _ _ => ?_⟩
  have c_consists_of := cal_of (P := P) (w := w) (base := base) F_consists_of (ok_consists_of T  F_consists_of) (He.glo_ok X G (c.fact 111 (f := .glo "_consists_of") rfl)) fun _ _ _ _ _ _ us hl => match us, hl with | [_, _, _], _ => rfl
  have c_is_name := cal_of (P := P) (w := w) (base := base) F_is_name (ok_is_name T c_consists_of F_is_name) (He.glo_ok X G (c.fact 106 (f := .glo "is_name") rfl)) fun _ _ _ _ _ _ us hl => match us, hl with | [_], _ => rfl
  have c_is_tag := cal_of (P := P) (w := w) (base := base) F_is_tag (ok_is_tag T c_consists_of F_is_tag) (He.glo_ok X G (c.fact 107 (f := .glo "is_tag") rfl)) fun _ _ _ _ _ _ us hl => match us, hl with | [_], _ => rfl
  have c_read_number := cal_of (P := P) (w := w) (base := base) F_read_number (ok_read_number T c_consists_of F_read_number) (He.glo_ok X G (c.fact 109 (f := .glo "read_number") rfl)) fun _ _ _ _ _ _ us hl => match us, hl with | [_, _], _ => rfl
  have c_split_address := cal_of (P := P) (w := w) (base := base) F_split_address (ok_split_address T c_is_name F_split_address) (He.glo_ok X G (c.fact 110 (f := .glo "split_address") rfl)) fun _ _ _ _ _ _ us hl => match us, hl with | [_], _ => rfl
  have c_is_address := cal_of (P := P) (w := w) (base := base) F_is_address (ok_is_address T c_split_address F_is_address) (He.glo_ok X G (c.fact 108 (f := .glo "is_address") rfl)) fun _ _ _ _ _ _ us hl => match us, hl with | [_], _ => rfl
  have c_write_offer := cal_of (P := P) (w := w) (base := base) F_write_offer (ok_write_offer T  F_write_offer) (He.glo_ok X G (c.fact 113 (f := .glo "write_offer") rfl)) fun _ _ _ _ _ _ us hl => match us, hl with | [_], _ => rfl
  have c_read_formats := cal_of (P := P) (w := w) (base := base) F_read_formats (ok_read_formats T c_is_name F_read_formats) (He.glo_ok X G (c.fact 116 (f := .glo "_read_formats") rfl)) fun _ _ _ _ _ _ us hl => match us, hl with | [_], _ => rfl
  have c_read_offer := cal_of (P := P) (w := w) (base := base) F_read_offer (ok_read_offer T c_read_number c_read_formats F_read_offer) (He.glo_ok X G (c.fact 112 (f := .glo "read_offer") rfl)) fun _ _ _ _ _ _ us hl => match us, hl with | [_], _ => rfl
  obtain ⟨mv_Letter_a, kb_Letter_a⟩ := TK.kbn_of (ps := ["self", "verb", "call", "origin", "origin_tag", "target", "target_tag", "seq", "way", "code", "offer", "stay", "goal"]) (ks := ["verb", "call", "origin", "origin_tag", "target", "target_tag", "seq", "way"]) (L := ["verb", "call", "origin", "origin_tag", "target", "target_tag", "seq", "way", "code", "offer", "stay", "goal"]) (self := "self") F_Letter___init [("code", (V.non)), ("offer", (V.non)), ("stay", (V.non)), ("goal", (V.non))] (fun {α : Type} (us mz zs : List α) => us ++ ((((zs.drop 0).take 8) ++ ((mz.drop 0).take 4)))) (by intro z; cases z) (fun rv rm rz => rv.append (((rz.drop 0).take 8).append ((rm.drop 0).take 4))) (by kernel_rfl) (by kernel_rfl) (by kernel_rfl) (by kernel_rfl) (by kernel_rfl) (by decide +kernel) (by decide +kernel) (by intro q hq; simp only [List.mem_cons, List.not_mem_nil, or_false] at hq; rcases hq with rfl | rfl | rfl | rfl; exact List.mem_cons_self ..; exact List.mem_cons_of_mem _ (List.mem_cons_self ..); exact List.mem_cons_of_mem _ (List.mem_cons_of_mem _ (List.mem_cons_self ..)); exact List.mem_cons_of_mem _ (List.mem_cons_of_mem _ (List.mem_cons_of_mem _ (List.mem_cons_self ..)))) (by decide +kernel) (fun u mv ws h1 h2 => match mv, ws, h1, h2 with | [m0, m1, m2, m3], [k0, k1, k2, k3, k4, k5, k6, k7], _, _ => by kernel_rfl)
  have c_mk_Letter_a : MakK P w K mg base 1 "Letter" (He.ga K "Letter") (spLetInit K) 0 ["verb", "call", "origin", "origin_tag", "target", "target_tag", "seq", "way"] (fun vs zs => vs ++ ((((zs.drop 0).take 8) ++ ((([(V.non), (V.non), (V.non), (V.non)] : List V).drop 0).take 4)))) := ⟨_, _, ["self", "verb", "call", "origin", "origin_tag", "target", "target_tag", "seq", "way", "code", "offer", "stay", "goal"], _, (He.mkr_ok (c.fact 56 (f := .mkr "Letter") rfl)), ok_Letter___init T  F_Letter___init, He.glo_ok X G (c.fact 55 (f := .glo "Letter") rfl), kb_Letter_a⟩
  obtain ⟨mv_Letter_b, kb_Letter_b⟩ := TK.kbn_of (ps := ["self", "verb", "call", "origin", "origin_tag", "target", "target_tag", "seq", "way", "code", "offer", "stay", "goal"]) (ks := ["verb", "code", "call", "origin", "origin_tag", "target", "target_tag", "seq", "way", "offer", "stay"]) (L := ["verb", "call", "origin", "origin_tag", "target", "target_tag", "seq", "way", "code", "offer", "stay", "goal"]) (self := "self") F_Letter___init [("goal", (V.non))] (fun {α : Type} (us mz zs : List α) => us ++ ((((zs.drop 0).take 1) ++ (((zs.drop 2).take 7) ++ (((zs.drop 1).take 1) ++ (((zs.drop 9).take 2) ++ ((mz.drop 0).take 1))))))) (by intro z; cases z) (fun rv rm rz => rv.append (((rz.drop 0).take 1).append (((rz.drop 2).take 7).append (((rz.drop 1).take 1).append (((rz.drop 9).take 2).append ((rm.drop 0).take 1)))))) (by kernel_rfl) (by kernel_rfl) (by kernel_rfl) (by kernel_rfl) (by kernel_rfl) (by decide +kernel) (by decide +kernel) (by intro q hq; simp only [List.mem_cons, List.not_mem_nil, or_false] at hq; rcases hq with rfl; exact List.mem_cons_of_mem _ (List.mem_cons_of_mem _ (List.mem_cons_of_mem _ (List.mem_cons_self ..)))) (by decide +kernel) (fun u mv ws h1 h2 => match mv, ws, h1, h2 with | [m0], [k0, k1, k2, k3, k4, k5, k6, k7, k8, k9, k10], _, _ => by kernel_rfl)
  have c_mk_Letter_b : MakK P w K mg base 1 "Letter" (He.ga K "Letter") (spLetInit K) 0 ["verb", "code", "call", "origin", "origin_tag", "target", "target_tag", "seq", "way", "offer", "stay"] (fun vs zs => vs ++ ((((zs.drop 0).take 1) ++ (((zs.drop 2).take 7) ++ (((zs.drop 1).take 1) ++ (((zs.drop 9).take 2) ++ ((([(V.non)] : List V).drop 0).take 1))))))) := ⟨_, _, ["self", "verb", "call", "origin", "origin_tag", "target", "target_tag", "seq", "way", "code", "offer", "stay", "goal"], _, (He.mkr_ok (c.fact 56 (f := .mkr "Letter") rfl)), ok_Letter___init T  F_Letter___init, He.glo_ok X G (c.fact 55 (f := .glo "Letter") rfl), kb_Letter_b⟩
  obtain ⟨mv_Letter_d, kb_Letter_d⟩ := TK.kbn_of (ps := ["self", "verb", "call", "origin", "origin_tag", "target", "target_tag", "seq", "way", "code", "offer", "stay", "goal"]) (ks := ["verb", "call", "origin", "origin_tag", "target", "target_tag", "seq", "way", "offer", "goal"]) (L := ["verb", "call", "origin", "origin_tag", "target", "target_tag", "seq", "way", "code", "offer", "stay", "goal"]) (self := "self") F_Letter___init [("code", (V.non)), ("stay", (V.non))] (fun {α : Type} (us mz zs : List α) => us ++ ((((zs.drop 0).take 8) ++ (((mz.drop 0).take 1) ++ (((zs.drop 8).take 1) ++ (((mz.drop 1).take 1) ++ ((zs.drop 9).take 1))))))) (by intro z; cases z) (fun rv rm rz => rv.append (((rz.drop 0).take 8).append (((rm.drop 0).take 1).append (((rz.drop 8).take 1).append (((rm.drop 1).take 1).append ((rz.drop 9).take 1)))))) (by kernel_rfl) (by kernel_rfl) (by kernel_rfl) (by kernel_rfl) (by kernel_rfl) (by decide +kernel) (by decide +kernel) (by intro q hq; simp only [List.mem_cons, List.not_mem_nil, or_false] at hq; rcases hq with rfl | rfl; exact List.mem_cons_self ..; exact List.mem_cons_of_mem _ (List.mem_cons_of_mem _ (List.mem_cons_self ..))) (by decide +kernel) (fun u mv ws h1 h2 => match mv, ws, h1, h2 with | [m0, m1], [k0, k1, k2, k3, k4, k5, k6, k7, k8, k9], _, _ => by kernel_rfl)
  have c_mk_Letter_d : MakK P w K mg base 1 "Letter" (He.ga K "Letter") (spLetInit K) 0 ["verb", "call", "origin", "origin_tag", "target", "target_tag", "seq", "way", "offer", "goal"] (fun vs zs => vs ++ ((((zs.drop 0).take 8) ++ (((([(V.non), (V.non)] : List V).drop 0).take 1) ++ (((zs.drop 8).take 1) ++ (((([(V.non), (V.non)] : List V).drop 1).take 1) ++ ((zs.drop 9).take 1))))))) := ⟨_, _, ["self", "verb", "call", "origin", "origin_tag", "target", "target_tag", "seq", "way", "code", "offer", "stay", "goal"], _, (He.mkr_ok (c.fact 56 (f := .mkr "Letter") rfl)), ok_Letter___init T  F_Letter___init, He.glo_ok X G (c.fact 55 (f := .glo "Letter") rfl), kb_Letter_d⟩
  obtain ⟨mv_Letter_e, kb_Letter_e⟩ := TK.kbn_of (ps := ["self", "verb", "call", "origin", "origin_tag", "target", "target_tag", "seq", "way", "code", "offer", "stay", "goal"]) (ks := ["verb", "call", "origin", "origin_tag", "target", "target_tag", "seq", "way", "offer"]) (L := ["verb", "call", "origin", "origin_tag", "target", "target_tag", "seq", "way", "code", "offer", "stay", "goal"]) (self := "self") F_Letter___init [("code", (V.non)), ("stay", (V.non)), ("goal", (V.non))] (fun {α : Type} (us mz zs : List α) => us ++ ((((zs.drop 0).take 8) ++ (((mz.drop 0).take 1) ++ (((zs.drop 8).take 1) ++ ((mz.drop 1).take 2)))))) (by intro z; cases z) (fun rv rm rz => rv.append (((rz.drop 0).take 8).append (((rm.drop 0).take 1).append (((rz.drop 8).take 1).append ((rm.drop 1).take 2))))) (by kernel_rfl) (by kernel_rfl) (by kernel_rfl) (by kernel_rfl) (by kernel_rfl) (by decide +kernel) (by decide +kernel) (by intro q hq; simp only [List.mem_cons, List.not_mem_nil, or_false] at hq; rcases hq with rfl | rfl | rfl; exact List.mem_cons_self ..; exact List.mem_cons_of_mem _ (List.mem_cons_of_mem _ (List.mem_cons_self ..)); exact List.mem_cons_of_mem _ (List.mem_cons_of_mem _ (List.mem_cons_of_mem _ (List.mem_cons_self ..)))) (by decide +kernel) (fun u mv ws h1 h2 => match mv, ws, h1, h2 with | [m0, m1, m2], [k0, k1, k2, k3, k4, k5, k6, k7, k8], _, _ => by kernel_rfl)
  have c_mk_Letter_e : MakK P w K mg base 1 "Letter" (He.ga K "Letter") (spLetInit K) 0 ["verb", "call", "origin", "origin_tag", "target", "target_tag", "seq", "way", "offer"] (fun vs zs => vs ++ ((((zs.drop 0).take 8) ++ (((([(V.non), (V.non), (V.non)] : List V).drop 0).take 1) ++ (((zs.drop 8).take 1) ++ ((([(V.non), (V.non), (V.non)] : List V).drop 1).take 2)))))) := ⟨_, _, ["self", "verb", "call", "origin", "origin_tag", "target", "target_tag", "seq", "way", "code", "offer", "stay", "goal"], _, (He.mkr_ok (c.fact 56 (f := .mkr "Letter") rfl)), ok_Letter___init T  F_Letter___init, He.glo_ok X G (c.fact 55 (f := .glo "Letter") rfl), kb_Letter_e⟩
  have c_mk_Letter_ss : TK.MakS P w K mg base 1 "Letter" (He.ga K "Letter") (spLetInit K) (TK.SsOk "self" ["verb", "call", "origin", "origin_tag", "target", "target_tag", "seq", "way", "code", "offer", "stay", "goal"] ["verb", "call", "origin", "origin_tag", "target", "target_tag", "seq", "way"]) := ⟨_, _, ["self", "verb", "call", "origin", "origin_tag", "target", "target_tag", "seq", "way", "code", "offer", "stay", "goal"], (He.mkr_ok (c.fact 56 (f := .mkr "Letter") rfl)), ok_Letter___init T  F_Letter___init, He.glo_ok X G (c.fact 55 (f := .glo "Letter") rfl), TK.kbn_ss F_Letter___init (by intro z; cases z) (by show ∀ q ∈ ([("code", (V.non)), ("offer", (V.non)), ("stay", (V.non)), ("goal", (V.non))] : List (Str × V)), q.2 = V.non; intro q hq; simp only [List.mem_cons, List.not_mem_nil, or_false] at hq; rcases hq with rfl | rfl | rfl | rfl <;> rfl) (by kernel_rfl) (by kernel_rfl) (by kernel_rfl) (by kernel_rfl) (by kernel_rfl) (by decide +kernel) (by show ∀ n ∈ (["verb", "call", "origin", "origin_tag", "target", "target_tag", "seq", "way", "code", "offer", "stay", "goal"] : List Str), n ∈ (["verb", "call", "origin", "origin_tag", "target", "target_tag", "seq", "way"] : List Str) ∨ n ∈ (["code", "offer", "stay", "goal"] : List Str); decide +kernel)⟩
  have c_Letter_parts := met_of (P := P) (w := w) (base := base) T.cl_Letter (He.meth_ok (c.fact 120 (f := .meth "Letter" "parts") rfl)) F_Letter_parts (ok_Letter_parts T  F_Letter_parts) fun _ _ _ _ _ _ us hl => match us, hl with | [_], _ => rfl
  have c_Letter_reply := metD_of (P := P) (w := w) (base := base) T.cl_Letter (He.meth_ok (c.fact 121 (f := .meth "Letter" "reply") rfl)) F_Letter_reply (ok_Letter_reply T c_mk_Letter_b F_Letter_reply) (by intro z; cases z) (by show 2 ≤ 5; decide) fun _ _ _ _ _ _ _ us its h1 h2 => match us, its, h1, h2 with | [_, _, _], [_, _], _, _ => ⟨_, rfl, rfl⟩
  have c_Letter_reply_d1 := TKC.metJ_of (P := P) (w := w) (base := base) 1 T.cl_Letter (He.meth_ok (c.fact 121 (f := .meth "Letter" "reply") rfl)) F_Letter_reply (ok_Letter_reply T c_mk_Letter_b F_Letter_reply) (by intro z; cases z) (by show 2 ≤ 5; decide) (by show 1 ≤ 2; decide) fun _ _ _ _ _ _ _ us its h1 h2 => match us, its, h1, h2 with | [_, _, _, _], [_, _], _, _ => ⟨_, rfl, rfl⟩
  have c_Letter_reply_o := TKC.metKD_of (P := P) (w := w) (base := base) (ks := ["offer"]) (m := 2) T.cl_Letter (He.meth_ok (c.fact 121 (f := .meth "Letter" "reply") rfl)) F_Letter_reply (ok_Letter_reply T c_mk_Letter_b F_Letter_reply) (by intro z; cases z) fun _ _ _ _ _ _ _ us its ws h1 h2 h3 => match us, its, ws, h1, h2, h3 with | [_, _, _], [_, _], [_], _, _, _ => ⟨_, rfl, rfl⟩
  have c_write_head := cal_of (P := P) (w := w) (base := base) F_write_head (ok_write_head T  F_write_head) (He.glo_ok X G (c.fact 125 (f := .glo "_write_head") rfl)) fun _ _ _ _ _ _ us hl => match us, hl with | [_], _ => rfl
  have c_write := cal_of (P := P) (w := w) (base := base) F_write (ok_write T c_write_head c_write_offer F_write) (He.glo_ok X G (c.fact 123 (f := .glo "write") rfl)) fun _ _ _ _ _ _ us hl => match us, hl with | [_], _ => rfl
  have c_read_head := cal_of (P := P) (w := w) (base := base) F_read_head (ok_read_head T c_read_number F_read_head) (He.glo_ok X G (c.fact 126 (f := .glo "_read_head") rfl)) fun _ _ _ _ _ _ us hl => match us, hl with | [_], _ => rfl
  have c_read_origin := cal_of (P := P) (w := w) (base := base) F_read_origin (ok_read_origin T c_is_address c_is_tag F_read_origin) (He.glo_ok X G (c.fact 128 (f := .glo "_read_origin") rfl)) fun _ _ _ _ _ _ us hl => match us, hl with | [_], _ => rfl
  have c_read_target := cal_of (P := P) (w := w) (base := base) F_read_target (ok_read_target T c_is_address c_is_tag F_read_target) (He.glo_ok X G (c.fact 129 (f := .glo "_read_target") rfl)) fun _ _ _ _ _ _ us hl => match us, hl with | [_], _ => rfl
  have c_read_single := cal_of (P := P) (w := w) (base := base) F_read_single (ok_read_single T c_is_address c_is_tag c_read_number F_read_single) (He.glo_ok X G (c.fact 130 (f := .glo "_read_single") rfl)) fun _ _ _ _ _ _ us hl => match us, hl with | [_, _], _ => rfl
  have c_read_line := cal_of (P := P) (w := w) (base := base) F_read_line (ok_read_line T c_read_origin c_read_target c_read_single c_read_offer F_read_line) (He.glo_ok X G (c.fact 127 (f := .glo "_read_line") rfl)) fun _ _ _ _ _ _ us hl => match us, hl with | [_, _], _ => rfl
  have c_read := cal_of (P := P) (w := w) (base := base) F_read (ok_read T c_read_head c_read_line c_mk_Letter_ss F_read) (He.glo_ok X G (c.fact 124 (f := .glo "read") rfl)) fun _ _ _ _ _ _ us hl => match us, hl with | [_], _ => rfl
  have c_law_state := cal_of (P := P) (w := w) (base := base) F_law_state (ok_law_state T  F_law_state) (He.glo_ok X G (c.fact 182 (f := .glo "_law_state") rfl)) fun _ _ _ _ _ _ us hl => match us, hl with | [_], _ => rfl
  have c_law_draw := cal_of (P := P) (w := w) (base := base) F_law_draw (ok_law_draw T  F_law_draw) (He.glo_ok X G (c.fact 183 (f := .glo "_law_draw") rfl)) fun _ _ _ _ _ _ us hl => match us, hl with | [_, _], _ => rfl
  have c_law_pick := cal_of (P := P) (w := w) (base := base) F_law_pick (ok_law_pick T c_law_draw F_law_pick) (He.glo_ok X G (c.fact 184 (f := .glo "_law_pick") rfl)) fun _ _ _ _ _ _ us hl => match us, hl with | [_, _], _ => rfl
  have c_mk_Wait := mak_of (P := P) (w := w) (base := base) (He.mkr_ok (c.fact 63 (f := .mkr "Wait") rfl)) (He.glo_ok X G (c.fact 62 (f := .glo "Wait") rfl)) F_Wait___init (ok_Wait___init T  F_Wait___init) fun _ _ _ _ _ _ us hl => match us, hl with | [_, _, _], _ => rfl
  have c_Wait_repeats := met_of (P := P) (w := w) (base := base) T.cl_Wait (He.meth_ok (c.fact 131 (f := .meth "Wait" "repeats") rfl)) F_Wait_repeats (ok_Wait_repeats T  F_Wait_repeats) fun _ _ _ _ _ _ us hl => match us, hl with | [_, _], _ => rfl
  have c_Wait_is_up := met_of (P := P) (w := w) (base := base) T.cl_Wait (He.meth_ok (c.fact 132 (f := .meth "Wait" "is_up") rfl)) F_Wait_is_up (ok_Wait_is_up T  F_Wait_is_up) fun _ _ _ _ _ _ us hl => match us, hl with | [_, _], _ => rfl
  have c_is_final := cal_of (P := P) (w := w) (base := base) F_is_final (ok_is_final T  F_is_final) (He.glo_ok X G (c.fact 122 (f := .glo "is_final") rfl)) fun _ _ _ _ _ _ us hl => match us, hl with | [_], _ => rfl
  have c_mk_Client := mak_of (P := P) (w := w) (base := base) (He.mkr_ok (c.fact 72 (f := .mkr "Client") rfl)) (He.glo_ok X G (c.fact 71 (f := .glo "Client") rfl)) F_Client___init (ok_Client___init T c_mk_Wait F_Client___init) fun _ _ _ _ _ _ us hl => match us, hl with | [_, _, _, _, _], _ => rfl
  have c_Client_sending := met_of (P := P) (w := w) (base := base) T.cl_Client (He.meth_ok (c.fact 133 (f := .meth "Client" "sending") rfl)) F_Client_sending (ok_Client_sending T c_write F_Client_sending) fun _ _ _ _ _ _ us hl => match us, hl with | [_], _ => rfl
  have c_Client_is_over := met_of (P := P) (w := w) (base := base) T.cl_Client (He.meth_ok (c.fact 137 (f := .meth "Client" "is_over") rfl)) F_Client_is_over (ok_Client_is_over T  F_Client_is_over) fun _ _ _ _ _ _ us hl => match us, hl with | [_], _ => rfl
  have c_Client_stop := met_of (P := P) (w := w) (base := base) T.cl_Client (He.meth_ok (c.fact 135 (f := .meth "Client" "stop") rfl)) F_Client_stop (ok_Client_stop T c_mk_Wait F_Client_stop) fun _ _ _ _ _ _ us hl => match us, hl with | [_, _], _ => rfl
  have c_Client__take_provisional := met_of (P := P) (w := w) (base := base) T.cl_Client (He.meth_ok (c.fact 138 (f := .meth "Client" "_take_provisional") rfl)) F_Client__take_provisional (ok_Client__take_provisional T  F_Client__take_provisional) fun _ _ _ _ _ _ us hl => match us, hl with | [_, _], _ => rfl
  have c_Client__keep_for := met_of (P := P) (w := w) (base := base) T.cl_Client (He.meth_ok (c.fact 139 (f := .meth "Client" "_keep_for") rfl)) F_Client__keep_for (ok_Client__keep_for T c_mk_Letter_a F_Client__keep_for) fun _ _ _ _ _ _ us hl => match us, hl with | [_, _], _ => rfl
  have c_Client_take := met_of (P := P) (w := w) (base := base) T.cl_Client (He.meth_ok (c.fact 134 (f := .meth "Client" "take") rfl)) F_Client_take (ok_Client_take T c_is_final c_Client__take_provisional c_mk_Wait c_Client__keep_for c_write F_Client_take) fun _ _ _ _ _ _ us hl => match us, hl with | [_, _, _], _ => rfl
  have c_mk_Server := mak_of (P := P) (w := w) (base := base) (He.mkr_ok (c.fact 82 (f := .mkr "Server") rfl)) (He.glo_ok X G (c.fact 81 (f := .glo "Server") rfl)) F_Server___init (ok_Server___init T  F_Server___init) fun _ _ _ _ _ _ us hl => match us, hl with | [_, _, _, _], _ => rfl
  have c_Server_is_over := met_of (P := P) (w := w) (base := base) T.cl_Server (He.meth_ok (c.fact 145 (f := .meth "Server" "is_over") rfl)) F_Server_is_over (ok_Server_is_over T  F_Server_is_over) fun _ _ _ _ _ _ us hl => match us, hl with | [_], _ => rfl
  have c_Server_again := met_of (P := P) (w := w) (base := base) T.cl_Server (He.meth_ok (c.fact 141 (f := .meth "Server" "again") rfl)) F_Server_again (ok_Server_again T  F_Server_again) fun _ _ _ _ _ _ us hl => match us, hl with | [_], _ => rfl
  have c_Server_reply := met_of (P := P) (w := w) (base := base) T.cl_Server (He.meth_ok (c.fact 142 (f := .meth "Server" "reply") rfl)) F_Server_reply (ok_Server_reply T c_write c_is_final c_mk_Wait F_Server_reply) fun _ _ _ _ _ _ us hl => match us, hl with | [_, _, _], _ => rfl
  have c_Server_keep := met_of (P := P) (w := w) (base := base) T.cl_Server (He.meth_ok (c.fact 143 (f := .meth "Server" "keep") rfl)) F_Server_keep (ok_Server_keep T c_mk_Wait F_Server_keep) fun _ _ _ _ _ _ us hl => match us, hl with | [_, _], _ => rfl
  have c_Server_matches := met_of (P := P) (w := w) (base := base) T.cl_Server (He.meth_ok (c.fact 140 (f := .meth "Server" "matches") rfl)) F_Server_matches (ok_Server_matches T  F_Server_matches) fun _ _ _ _ _ _ us hl => match us, hl with | [_, _, _], _ => rfl
  have c_Leg__talk := met_of (P := P) (w := w) (base := base) T.cl_Leg (He.meth_ok (c.fact 162 (f := .meth "Leg" "_talk") rfl)) F_Leg__talk (ok_Leg__talk T  F_Leg__talk) fun _ _ _ _ _ _ us hl => match us, hl with | [_, _], _ => rfl
  have c_Leg__end := met_of (P := P) (w := w) (base := base) T.cl_Leg (He.meth_ok (c.fact 163 (f := .meth "Leg" "_end") rfl)) F_Leg__end (ok_Leg__end T  F_Leg__end) fun _ _ _ _ _ _ us hl => match us, hl with | [_, _, _], _ => rfl
  have c_Leg__send := metD_of (P := P) (w := w) (base := base) T.cl_Leg (He.meth_ok (c.fact 158 (f := .meth "Leg" "_send") rfl)) F_Leg__send (ok_Leg__send T c_mk_Letter_d c_mk_Client c_Client_sending F_Leg__send) (by intro z; cases z) (by show 2 ≤ 5; decide) fun _ _ _ _ _ _ _ us its h1 h2 => match us, its, h1, h2 with | [_, _, _], [_, _], _, _ => ⟨_, rfl, rfl⟩
  have c_Leg__send_d1 := TKC.metJ_of (P := P) (w := w) (base := base) 1 T.cl_Leg (He.meth_ok (c.fact 158 (f := .meth "Leg" "_send") rfl)) F_Leg__send (ok_Leg__send T c_mk_Letter_d c_mk_Client c_Client_sending F_Leg__send) (by intro z; cases z) (by show 2 ≤ 5; decide) (by show 1 ≤ 2; decide) fun _ _ _ _ _ _ _ us its h1 h2 => match us, its, h1, h2 with | [_, _, _, _], [_, _], _, _ => ⟨_, rfl, rfl⟩
  have c_Leg__serve := met_of (P := P) (w := w) (base := base) T.cl_Leg (He.meth_ok (c.fact 159 (f := .meth "Leg" "_serve") rfl)) F_Leg__serve (ok_Leg__serve T c_mk_Server F_Leg__serve) fun _ _ _ _ _ _ us hl => match us, hl with | [_, _, _], _ => rfl
  have c_Leg__reply := metD_of (P := P) (w := w) (base := base) T.cl_Leg (He.meth_ok (c.fact 160 (f := .meth "Leg" "_reply") rfl)) F_Leg__reply (ok_Leg__reply T c_Letter_reply_d1 c_Server_reply F_Leg__reply) (by intro z; cases z) (by show 1 ≤ 5; decide) fun _ _ _ _ _ _ _ us its h1 h2 => match us, its, h1, h2 with | [_, _, _, _], [_], _, _ => ⟨_, rfl, rfl⟩
  have c_Leg__reply_d1 := TKC.metJ_of (P := P) (w := w) (base := base) 1 T.cl_Leg (He.meth_ok (c.fact 160 (f := .meth "Leg" "_reply") rfl)) F_Leg__reply (ok_Leg__reply T c_Letter_reply_d1 c_Server_reply F_Leg__reply) (by intro z; cases z) (by show 1 ≤ 5; decide) (by show 1 ≤ 1; decide) fun _ _ _ _ _ _ _ us its h1 h2 => match us, its, h1, h2 with | [_, _, _, _, _], [_], _, _ => ⟨_, rfl, rfl⟩
  have c_Leg__reply_to_call := metD_of (P := P) (w := w) (base := base) T.cl_Leg (He.meth_ok (c.fact 161 (f := .meth "Leg" "_reply_to_call") rfl)) F_Leg__reply_to_call (ok_Leg__reply_to_call T c_Leg__reply_d1 F_Leg__reply_to_call) (by intro z; cases z) (by show 1 ≤ 4; decide) fun _ _ _ _ _ _ _ us its h1 h2 => match us, its, h1, h2 with | [_, _, _], [_], _, _ => ⟨_, rfl, rfl⟩
  have c_Leg__reply_to_call_d1 := TKC.metJ_of (P := P) (w := w) (base := base) 1 T.cl_Leg (He.meth_ok (c.fact 161 (f := .meth "Leg" "_reply_to_call") rfl)) F_Leg__reply_to_call (ok_Leg__reply_to_call T c_Leg__reply_d1 F_Leg__reply_to_call) (by intro z; cases z) (by show 1 ≤ 4; decide) (by show 1 ≤ 1; decide) fun _ _ _ _ _ _ _ us its h1 h2 => match us, its, h1, h2 with | [_, _, _, _], [_], _, _ => ⟨_, rfl, rfl⟩
  have c_Leg__stop_call := met_of (P := P) (w := w) (base := base) T.cl_Leg (He.meth_ok (c.fact 164 (f := .meth "Leg" "_stop_call") rfl)) F_Leg__stop_call (ok_Leg__stop_call T c_Client_stop F_Leg__stop_call) fun _ _ _ _ _ _ us hl => match us, hl with | [_, _], _ => rfl
  have c_Leg_take_events := met_of (P := P) (w := w) (base := base) T.cl_Leg (He.meth_ok (c.fact 156 (f := .meth "Leg" "take_events") rfl)) F_Leg_take_events (ok_Leg_take_events T  F_Leg_take_events) fun _ _ _ _ _ _ us hl => match us, hl with | [_], _ => rfl
  have c_Leg__has_most_servers := met_of (P := P) (w := w) (base := base) T.cl_Leg (He.meth_ok (c.fact 168 (f := .meth "Leg" "_has_most_servers") rfl)) F_Leg__has_most_servers (ok_Leg__has_most_servers T c_Server_is_over F_Leg__has_most_servers) fun _ _ _ _ _ _ us hl => match us, hl with | [_], _ => rfl
  have c_sends := cal_of (P := P) (w := w) (base := base) F_sends (ok_sends T  F_sends) (He.glo_ok X G (c.fact 117 (f := .glo "_sends") rfl)) fun _ _ _ _ _ _ us hl => match us, hl with | [_], _ => rfl
  have c_takes := cal_of (P := P) (w := w) (base := base) F_takes (ok_takes T  F_takes) (He.glo_ok X G (c.fact 118 (f := .glo "_takes") rfl)) fun _ _ _ _ _ _ us hl => match us, hl with | [_], _ => rfl
  have c_mode := cal_of (P := P) (w := w) (base := base) F_mode (ok_mode T  F_mode) (He.glo_ok X G (c.fact 119 (f := .glo "_mode") rfl)) fun _ _ _ _ _ _ us hl => match us, hl with | [_, _], _ => rfl
  have c_flows := cal_of (P := P) (w := w) (base := base) F_flows (ok_flows T c_sends c_takes F_flows) (He.glo_ok X G (c.fact 115 (f := .glo "flows") rfl)) fun _ _ _ _ _ _ us hl => match us, hl with | [_, _], _ => rfl
  have c_answer := cal_of (P := P) (w := w) (base := base) F_answer (ok_answer T c_flows c_mode F_answer) (He.glo_ok X G (c.fact 114 (f := .glo "answer") rfl)) fun _ _ _ _ _ _ us hl => match us, hl with | [_, _], _ => rfl
  have c_Leg__take_end := met_of (P := P) (w := w) (base := base) T.cl_Leg (He.meth_ok (c.fact 171 (f := .meth "Leg" "_take_end") rfl)) F_Leg__take_end (ok_Leg__take_end T c_Leg__reply c_Leg__stop_call c_Leg__end F_Leg__take_end) fun _ _ _ _ _ _ us hl => match us, hl with | [_, _, _], _ => rfl
  have c_Leg__take_stop := met_of (P := P) (w := w) (base := base) T.cl_Leg (He.meth_ok (c.fact 172 (f := .meth "Leg" "_take_stop") rfl)) F_Leg__take_stop (ok_Leg__take_stop T c_Leg__end c_Leg__reply_to_call c_Leg__reply F_Leg__take_stop) fun _ _ _ _ _ _ us hl => match us, hl with | [_, _, _], _ => rfl
  have c_Leg__take_turn := met_of (P := P) (w := w) (base := base) T.cl_Leg (He.meth_ok (c.fact 173 (f := .meth "Leg" "_take_turn") rfl)) F_Leg__take_turn (ok_Leg__take_turn T c_Leg__reply c_Leg__reply_d1 c_answer F_Leg__take_turn) fun _ _ _ _ _ _ us hl => match us, hl with | [_, _, _], _ => rfl
  have c_Leg__take_move := met_of (P := P) (w := w) (base := base) T.cl_Leg (He.meth_ok (c.fact 174 (f := .meth "Leg" "_take_move") rfl)) F_Leg__take_move (ok_Leg__take_move T c_Leg__reply F_Leg__take_move) fun _ _ _ _ _ _ us hl => match us, hl with | [_, _, _], _ => rfl
  have c_Leg__take_new := met_of (P := P) (w := w) (base := base) T.cl_Leg (He.meth_ok (c.fact 170 (f := .meth "Leg" "_take_new") rfl)) F_Leg__take_new (ok_Leg__take_new T c_Leg__take_end c_Leg__take_stop c_Leg__reply c_Leg__take_turn c_Leg__take_move F_Leg__take_new) fun _ _ _ _ _ _ us hl => match us, hl with | [_, _, _], _ => rfl
  have c_Leg__take_known := met_of (P := P) (w := w) (base := base) T.cl_Leg (He.meth_ok (c.fact 169 (f := .meth "Leg" "_take_known") rfl)) F_Leg__take_known (ok_Leg__take_known T c_Server_again c_Server_keep F_Leg__take_known) fun _ _ _ _ _ _ us hl => match us, hl with | [_, _, _, _], _ => rfl
  have c_Leg__send_waiting := met_of (P := P) (w := w) (base := base) T.cl_Leg (He.meth_ok (c.fact 167 (f := .meth "Leg" "_send_waiting") rfl)) F_Leg__send_waiting (ok_Leg__send_waiting T  F_Leg__send_waiting) fun _ _ _ _ _ _ us hl => match us, hl with | [_, _], _ => rfl
  have c_Leg__follow_call := met_of (P := P) (w := w) (base := base) T.cl_Leg (He.meth_ok (c.fact 177 (f := .meth "Leg" "_follow_call") rfl)) F_Leg__follow_call (ok_Leg__follow_call T c_Leg__send c_Leg__talk c_Leg__end F_Leg__follow_call) fun _ _ _ _ _ _ us hl => match us, hl with | [_, _, _], _ => rfl
  have c_Leg__follow := met_of (P := P) (w := w) (base := base) T.cl_Leg (He.meth_ok (c.fact 176 (f := .meth "Leg" "_follow") rfl)) F_Leg__follow (ok_Leg__follow T c_Leg__follow_call c_Leg__end c_Leg__send_waiting F_Leg__follow) fun _ _ _ _ _ _ us hl => match us, hl with | [_, _, _], _ => rfl
  have c_Leg__take_reply := met_of (P := P) (w := w) (base := base) T.cl_Leg (He.meth_ok (c.fact 175 (f := .meth "Leg" "_take_reply") rfl)) F_Leg__take_reply (ok_Leg__take_reply T c_Client_take c_Leg__follow F_Leg__take_reply) fun _ _ _ _ _ _ us hl => match us, hl with | [_, _, _], _ => rfl
  have c_Leg_receive := met_of (P := P) (w := w) (base := base) T.cl_Leg (He.meth_ok (c.fact 154 (f := .meth "Leg" "receive") rfl)) F_Leg_receive (ok_Leg_receive T c_Leg__take_reply c_Server_matches c_Leg__take_known c_Leg__has_most_servers c_Leg__serve c_Leg__take_new F_Leg_receive) fun _ _ _ _ _ _ us hl => match us, hl with | [_, _, _, _], _ => rfl
  obtain ⟨mv_Leg_f, kb_Leg_f⟩ := TK.kbn_of (ps := ["self", "tag", "call", "own", "other", "place", "able", "first", "check", "seq"]) (ks := ["tag", "call", "own", "other", "place", "able", "first", "check", "seq"]) (L := ["tag", "call", "own", "other", "place", "able", "first", "check", "seq"]) (self := "self") F_Leg___init [] (fun {α : Type} (us mz zs : List α) => us ++ (((zs.drop 0).take 9))) (by intro z; cases z) (fun rv rm rz => rv.append ((rz.drop 0).take 9)) (by kernel_rfl) (by kernel_rfl) (by kernel_rfl) (by kernel_rfl) (by kernel_rfl) (by decide +kernel) (by decide +kernel) (fun q hq => nomatch hq) (by decide +kernel) (fun u mv ws h1 h2 => match mv, ws, h1, h2 with | [], [k0, k1, k2, k3, k4, k5, k6, k7, k8], _, _ => by kernel_rfl)
  have c_mk_Leg_f : MakK P w K mg base 1 "Leg" (He.ga K "Leg") (spLegInit K) 0 ["tag", "call", "own", "other", "place", "able", "first", "check", "seq"] (fun vs zs => vs ++ (((zs.drop 0).take 9))) := ⟨_, _, ["self", "tag", "call", "own", "other", "place", "able", "first", "check", "seq"], _, (He.mkr_ok (c.fact 104 (f := .mkr "Leg") rfl)), ok_Leg___init T  F_Leg___init, He.glo_ok X G (c.fact 103 (f := .glo "Leg") rfl), kb_Leg_f⟩
  have c_Leg_call_out := met_of (P := P) (w := w) (base := base) T.cl_Leg (He.meth_ok (c.fact 146 (f := .meth "Leg" "call_out") rfl)) F_Leg_call_out (ok_Leg_call_out T c_Leg__send_d1 F_Leg_call_out) fun _ _ _ _ _ _ us hl => match us, hl with | [_, _, _], _ => rfl
  have c_Leg_call_in := met_of (P := P) (w := w) (base := base) T.cl_Leg (He.meth_ok (c.fact 147 (f := .meth "Leg" "call_in") rfl)) F_Leg_call_in (ok_Leg_call_in T c_Leg__serve F_Leg_call_in) fun _ _ _ _ _ _ us hl => match us, hl with | [_, _], _ => rfl
  have c_Leg_accept := met_of (P := P) (w := w) (base := base) T.cl_Leg (He.meth_ok (c.fact 149 (f := .meth "Leg" "accept") rfl)) F_Leg_accept (ok_Leg_accept T c_Leg__talk c_Leg__reply_to_call_d1 F_Leg_accept) fun _ _ _ _ _ _ us hl => match us, hl with | [_, _, _], _ => rfl
  have c_Leg_refuse := met_of (P := P) (w := w) (base := base) T.cl_Leg (He.meth_ok (c.fact 150 (f := .meth "Leg" "refuse") rfl)) F_Leg_refuse (ok_Leg_refuse T c_Leg__end c_Leg__reply_to_call F_Leg_refuse) fun _ _ _ _ _ _ us hl => match us, hl with | [_, _, _], _ => rfl
  have c_Leg_hang_up := met_of (P := P) (w := w) (base := base) T.cl_Leg (He.meth_ok (c.fact 151 (f := .meth "Leg" "hang_up") rfl)) F_Leg_hang_up (ok_Leg_hang_up T c_Leg_refuse c_Leg__end c_Leg__send c_Leg__stop_call F_Leg_hang_up) fun _ _ _ _ _ _ us hl => match us, hl with | [_, _], _ => rfl
  have c_law_leg := cal_of (P := P) (w := w) (base := base) F_law_leg (ok_law_leg T c_mk_Leg_f c_law_draw F_law_leg) (He.glo_ok X G (c.fact 185 (f := .glo "_law_leg") rfl)) fun _ _ _ _ _ _ us hl => match us, hl with | [_], _ => rfl
  have c_law_letter := cal_of (P := P) (w := w) (base := base) F_law_letter (ok_law_letter T c_mk_Letter_d F_law_letter) (He.glo_ok X G (c.fact 186 (f := .glo "_law_letter") rfl)) fun _ _ _ _ _ _ us hl => match us, hl with | [_, _, _, _], _ => rfl
  have c_law_first := cal_of (P := P) (w := w) (base := base) F_law_first (ok_law_first T c_mk_Letter_e F_law_first) (He.glo_ok X G (c.fact 187 (f := .glo "_law_first") rfl)) fun _ _ _ _ _ _ us hl => match us, hl with | [_], _ => rfl
  have c_law_sent := cal_of (P := P) (w := w) (base := base) F_law_sent (ok_law_sent T c_read F_law_sent) (He.glo_ok X G (c.fact 188 (f := .glo "_law_sent") rfl)) fun _ _ _ _ _ _ us hl => match us, hl with | [_], _ => rfl
  have c_law_made := cal_of (P := P) (w := w) (base := base) F_law_made (ok_law_made T c_law_leg c_law_first c_Leg_call_in c_Leg_accept c_Leg_refuse c_Leg_call_out c_law_sent c_Letter_reply c_Letter_reply_o c_Leg_receive c_Leg_hang_up F_law_made) (He.glo_ok X G (c.fact 189 (f := .glo "_law_made") rfl)) fun _ _ _ _ _ _ us hl => match us, hl with | [_, _], _ => rfl
  have c_law_turn := cal_of (P := P) (w := w) (base := base) F_law_turn (ok_law_turn T  F_law_turn) (He.glo_ok X G (c.fact 190 (f := .glo "_law_turn") rfl)) fun _ _ _ _ _ _ us hl => match us, hl with | [_, _], _ => rfl
  have c_law_code := cal_of (P := P) (w := w) (base := base) F_law_code (ok_law_code T c_law_turn F_law_code) (He.glo_ok X G (c.fact 191 (f := .glo "_law_code") rfl)) fun _ _ _ _ _ _ us hl => match us, hl with | [_, _, _, _], _ => rfl
  have c_law_due_state := cal_of (P := P) (w := w) (base := base) F_law_due_state (ok_law_due_state T  F_law_due_state) (He.glo_ok X G (c.fact 192 (f := .glo "_law_due_state") rfl)) fun _ _ _ _ _ _ us hl => match us, hl with | [_, _, _, _], _ => rfl
  have c_law_due_events := cal_of (P := P) (w := w) (base := base) F_law_due_events (ok_law_due_events T  F_law_due_events) (He.glo_ok X G (c.fact 193 (f := .glo "_law_due_events") rfl)) fun _ _ _ _ _ _ us hl => match us, hl with | [_, _, _, _, _], _ => rfl
  have c_law_answer := cal_of (P := P) (w := w) (base := base) F_law_answer (ok_law_answer T  F_law_answer) (He.glo_ok X G (c.fact 194 (f := .glo "_law_answer") rfl)) fun _ _ _ _ _ _ us hl => match us, hl with | [_], _ => rfl
  have c_law_replies_right := cal_of (P := P) (w := w) (base := base) F_law_replies_right (ok_law_replies_right T c_law_answer F_law_replies_right) (He.glo_ok X G (c.fact 195 (f := .glo "_law_replies_right") rfl)) fun _ _ _ _ _ _ us hl => match us, hl with | [_, _, _, _, _, _], _ => rfl
  exact ok_law T c_law_state c_law_pick c_law_made c_Leg_take_events c_law_letter c_write c_read c_Leg_receive c_law_code c_law_sent c_law_replies_right c_law_due_state c_law_due_events F_law
end K7
open PySem PySem.W PySem.Calls PyProof.Rows
theorem PySem.Challenge.cw_trunkland_k07_replies_of_legs_holds : PySem.Challenge.rw_trunkland_k07_replies_of_legs.Holds := by
  w_on; o_law
  refine HandSHeadRun.head_any (r := OpenLaw.row PySem.Challenge.rw_trunkland_k07_replies_of_legs) (q := view (OpenLaw.row PySem.Challenge.rw_trunkland_k07_replies_of_legs).prog [85]) (H := K7.hk) (ob := K7.ob) (M := 6000) (loose := K7.loose0 ++ K7.loose1 ++ K7.loose2) (d := HandSHeadRun.topDef (OpenLaw.row PySem.Challenge.rw_trunkland_k07_replies_of_legs).prog 85) (kwd := []) K7.ob_eq
    (by kernel_rfl) (fun s => by kernel_rfl) K7.run (by kernel_rfl) (by kernel_rfl) (by kernel_rfl) (by rfl) (by first | assumption | decide +kernel) (by decide +kernel) ⟨rfl, rfl, rfl, rfl, rfl, by decide +kernel⟩ ?hw ?hc
  case hw => w_witness2
  case hc =>
    refine L2.walk_ofE (l := PySem.Challenge.rw_trunkland_k07_replies_of_legs) (n := 63) (k := 11) (x := "script") (CX := L2.CX0) rfl (by decide) (by kernel_rfl) ⟨rfl, by decide, by decide⟩ ?F (fun _ _ _ _ z => z)
    intro w mg fa h Y G hmg0
    obtain ⟨K, KX, c, cx⟩ := Y
    have hmg : mg ("law" : PySem.Str) = some (.ref fa) := by
      have e : (HandSHeadRun.topDef (OpenLaw.row PySem.Challenge.rw_trunkland_k07_replies_of_legs).prog 85).name = ("law" : PySem.Str) := by kernel_rfl
      rw [← e]
      exact hmg0
    obtain ⟨fd, hb, hF⟩ := K7.facts (P := (PySem.Challenge.rw_trunkland_k07_replies_of_legs).prog) (w := w) KX G hmg c cx
    exact ⟨K, fd, K7.spLaw K, KX, hb, fun H a ns hl _ hS => ⟨a, ns, rfl, hS, hl, fun _ => rfl⟩, hF⟩
