import PyProof.Rows.All
import Wide.All
import OpenK.AllK
import Wide.FinOn
import HandS.ForMost
import HandS.Evl
import HandS.Flow
import HandS.IsInst
import HandS.Zip
import HandS.TupLe
import HandS.TupAny
import HandS.Wide
import HandS.WideBits
import HandS.SortRule
import HandS.Conv
import KE.DataFind
import HandS.Walk
import HandS.AnyAll
import HandS.GenOver
import HandS.EndTab
import KE.GoesMore
import KE.GoesEnum
import HandS.Exc
import HandS.ExcOwn
import HandS.ExcIs
import HandS.ExcValue
import HandS.WordsExc
import HandS.TryOnly
import HandS.HotCalls
import HandS.Deep
import HandS.TupMul
import HandS.Style
import KE.KRevSl
import KE.KTupSum
import PySem.Challenge.RW_doffyard_k34_what_small_yards_are
import PyProof.MinMaxWalk
import KE.OsMinMax
set_option Elab.async false
set_option linter.all false
set_option maxRecDepth 100000
set_option maxHeartbeats 4000000
/-! Values as data: what an expression comes to, told by the datum that the value bears. -/
namespace DL
open PySem PySem.Spec PyProof.Rows L2 Evl

mutual
theorem dp_mono {K : PySem.W.Frag} {H H' : Hp} (e : Ex H H') : ∀ {d : PyData} {v : V}, Dp K H v d → Dp K H' v d
  | .none, _, h => by cases h; exact .non
  | .bool b, _, h => by cases h; exact .bl b
  | .int i, _, h => by cases h; exact .int i
  | .str x, _, h => by cases h; exact .str x
  | .list ds, _, h => by
    cases h with
    | lst hs ha => exact .lst (ex_l e hs) (da_mono e ha)
  | .tuple ds, _, h => by
    cases h with
    | tup hs ha => exact .tup (ex_t e hs) (da_mono e ha)
  | .dict _, _, h => by cases h
theorem da_mono {K : PySem.W.Frag} {H H' : Hp} (e : Ex H H') : ∀ {ds : List PyData} {vs : List V}, DpAll K H vs ds → DpAll K H' vs ds
  | [], _, h => by cases h; exact .nil
  | d :: ds, _, h => by
    cases h with
    | cons h1 h2 => exact .cons (dp_mono e h1) (da_mono e h2)
end
section
variable {K : PySem.W.Frag} {H H' : Hp}
theorem dp_int {v : V} {i : Int} (h : Dp K H v (.int i)) : v = .int i := by cases h; rfl
theorem dp_bool {v : V} {b : Bool} (h : Dp K H v (.bool b)) : v = .bl b := by cases h; rfl
theorem dp_str {v : V} {x : Str} (h : Dp K H v (.str x)) : v = .str x := by cases h; rfl
theorem dp_none {v : V} (h : Dp K H v .none) : v = .non := by cases h; rfl
theorem dp_tup {v : V} {ds : List PyData} (h : Dp K H v (.tuple ds)) : ∃ a xs, v = .ref a ∧ SqT K H a xs ∧ DpAll K H xs ds := by
  cases h with
  | tup hs ha => exact ⟨_, _, rfl, hs, ha⟩
theorem dp_lst {v : V} {ds : List PyData} (h : Dp K H v (.list ds)) : ∃ a xs, v = .ref a ∧ SqL K H a xs ∧ DpAll K H xs ds := by
  cases h with
  | lst hs ha => exact ⟨_, _, rfl, hs, ha⟩
theorem da_len : ∀ {ds : List PyData} {vs : List V}, DpAll K H vs ds → vs.length = ds.length
  | [], _, h => by cases h; rfl
  | d :: ds, _, h => by
    cases h with
    | cons h1 h2 => rw [List.length_cons, List.length_cons, da_len h2]
theorem da_get : ∀ {ds : List PyData} {vs : List V} {i : Nat} {v : V}, DpAll K H vs ds → vs[i]? = some v → ∃ d, ds[i]? = some d ∧ Dp K H v d
  | [], _, i, v, h, e => by cases h; simp at e
  | d :: ds, _, i, v, h, e => by
    cases h with
    | cons h1 h2 =>
      cases i with
      | zero => simp at e; subst e; exact ⟨d, rfl, h1⟩
      | succ i => simp at e; simpa using da_get h2 e
theorem da_at : ∀ {ds : List PyData} {vs : List V} {i : Nat} {d : PyData}, DpAll K H vs ds → ds[i]? = some d → ∃ v, vs[i]? = some v ∧ Dp K H v d
  | [], _, i, v, h, e => by simp at e
  | d :: ds, _, i, v, h, e => by
    cases h with
    | cons h1 h2 =>
      cases i with
      | zero => simp at e; subst e; exact ⟨_, rfl, h1⟩
      | succ i => simp at e; simpa using da_at h2 e
theorem da_snoc : ∀ {ds : List PyData} {vs : List V} {v : V} {d : PyData}, DpAll K H vs ds → Dp K H v d → DpAll K H (vs ++ [v]) (ds ++ [d])
  | [], _, v, d, h, q => by cases h; exact .cons q .nil
  | _ :: ds, _, v, d, h, q => by
    cases h with
    | cons h1 h2 => exact .cons h1 (da_snoc h2 q)
theorem da_ints : ∀ (ns : List Int), DpAll K H (ns.map V.int) (ns.map PyData.int)
  | [] => .nil
  | n :: ns => .cons (.int n) (da_ints ns)
theorem da_ints_inv : ∀ {ns : List Int} {vs : List V}, DpAll K H vs (ns.map PyData.int) → vs = ns.map V.int
  | [], _, h => by cases h; rfl
  | n :: ns, _, h => by
    cases h with
    | cons h1 h2 => rw [dp_int h1, da_ints_inv h2]; rfl
theorem da_bools_inv : ∀ {ns : List Bool} {vs : List V}, DpAll K H vs (ns.map PyData.bool) → vs = ns.map V.bl
  | [], _, h => by cases h; rfl
  | n :: ns, _, h => by
    cases h with
    | cons h1 h2 => rw [dp_bool h1, da_bools_inv h2]; rfl
end

/-! ### what evaluates to which datum -/
def EvD (K : PySem.W.Frag) (te : TE) (σ : L2.St) (H : Hp) (d : PyData) : Prop := ∀ H1, Ex H H1 → ∀ Q : VK, (∀ v H2, Ex H1 H2 → Dp K H2 v d → Q v H2) → te σ H1 Q
def EvDA (K : PySem.W.Frag) (ta : TA) (σ : L2.St) (H : Hp) (ds : List PyData) : Prop := ∀ H1, Ex H H1 → ∀ Q : List V → Hp → Prop, (∀ vs H2, Ex H1 H2 → DpAll K H2 vs ds → Q vs H2) → ta σ H1 Q
/-- a two-place operation, a call, by data -/
def RD (K : PySem.W.Frag) (r : R2) (x y : PyData) (z : PyData) : Prop := ∀ v u H, Dp K H v x → Dp K H u y → ∀ Q : VK, (∀ w H2, Ex H H2 → Dp K H2 w z → Q w H2) → r v u H Q
def RDC (K : PySem.W.Frag) (r : List V → Hp → VK → Prop) (xs : List PyData) (z : PyData) : Prop := ∀ vs H, DpAll K H vs xs → ∀ Q : VK, (∀ w H2, Ex H H2 → Dp K H2 w z → Q w H2) → r vs H Q
section
variable {K : PySem.W.Frag} {σ : L2.St} {H H' : Hp} {ta tb te tx : TE} {t u : TT} {x y z d : PyData} {v : V} {r : R2}
theorem EvD.mono (e : Ex H H') (h : EvD K te σ H d) : EvD K te σ H' d := fun H1 a Q q => h H1 (e.trans a) Q q
theorem ed_of (h : Ev te σ H v) (hd : Dp K H v d) : EvD K te σ H d := fun H1 e Q q => h H1 e Q fun H2 e2 => q v H2 e2 (dp_mono (e.trans e2) hd)
theorem ev_int {i : Int} (h : EvD K te σ H (.int i)) : Ev te σ H (.int i) := fun H1 e Q q => h H1 e Q fun w H2 e2 hw => by rw [dp_int hw]; exact q H2 e2
theorem ev_bool {b : Bool} (h : EvD K te σ H (.bool b)) : Ev te σ H (.bl b) := fun H1 e Q q => h H1 e Q fun w H2 e2 hw => by rw [dp_bool hw]; exact q H2 e2
theorem ed_int {i : Int} (h : Ev te σ H (.int i)) : EvD K te σ H (.int i) := ed_of h (.int i)
theorem ed_bool {b : Bool} (h : Ev te σ H (.bl b)) : EvD K te σ H (.bool b) := ed_of h (.bl b)
theorem ed_var {i : Nat} (h : σ[i]? = some (some v)) (hd : Dp K H v d) : EvD K (tVar i) σ H d := ed_of (ev_var h) hd
theorem ed_ci {i : Int} : EvD K (tC (.int i)) σ H (.int i) := ed_of ev_c (.int i)
theorem ed_cb {b : Bool} : EvD K (tC (.bl b)) σ H (.bool b) := ed_of ev_c (.bl b)
theorem ed_cn : EvD K (tC .non) σ H .none := ed_of ev_c .non
theorem ed_cs {s : Str} : EvD K (tC (.str s)) σ H (.str s) := ed_of ev_c (.str s)
theorem ed_op (ha : EvD K ta σ H x) (hb : EvD K tb σ H y) (hr : RD K r x y z) : EvD K (tOp r ta tb) σ H z := fun H1 e Q q =>
  ha H1 e _ fun v H2 e2 hv => hb H2 (e.trans e2) _ fun w H3 e3 hw => hr v w H3 (dp_mono e3 hv) hw Q fun z' H4 e4 hz => q z' H4 ((e2.trans e3).trans e4) hz
theorem rd_I0 {g : Int → Int → Int} {i j : Int} : RD K (rI0 fun i j => .int (g i j)) (.int i) (.int j) (.int (g i j)) := fun v u H hv hu Q q => ⟨i, j, dp_int hv, dp_int hu, q _ H (Ex.refl H) (.int _)⟩
theorem rd_I {C : Int → Int → Prop} {g : Int → Int → Int} {i j : Int} (hc : C i j) : RD K (rI C fun i j => .int (g i j)) (.int i) (.int j) (.int (g i j)) := fun v u H hv hu Q q => ⟨i, j, dp_int hv, dp_int hu, hc, q _ H (Ex.refl H) (.int _)⟩
theorem rd_B0 {g : Int → Int → Bool} {i j : Int} : RD K (rI0 fun i j => .bl (g i j)) (.int i) (.int j) (.bool (g i j)) := fun v u H hv hu Q q => ⟨i, j, dp_int hv, dp_int hu, q _ H (Ex.refl H) (.bl _)⟩
theorem rd_eqI {i j : Int} : RD K rEq (.int i) (.int j) (.bool (decide (i = j))) := fun v u H hv hu Q q => by
  rw [dp_int hv, dp_int hu]
  refine ⟨rfl, ?_⟩
  have e : decide (V.int i = V.int j) = decide (i = j) := by
    by_cases h : i = j
    · subst h; simp
    · rw [decide_eq_false h, decide_eq_false (fun q => h (V.int.inj q))]
  rw [e]
  exact q _ H (Ex.refl H) (.bl _)
theorem rd_neI {i j : Int} : RD K rNe (.int i) (.int j) (.bool (!decide (i = j))) := fun v u H hv hu Q q => by
  rw [dp_int hv, dp_int hu]
  refine ⟨rfl, ?_⟩
  have e : decide (V.int i = V.int j) = decide (i = j) := by
    by_cases h : i = j
    · subst h; simp
    · rw [decide_eq_false h, decide_eq_false (fun q => h (V.int.inj q))]
  rw [e]
  exact q _ H (Ex.refl H) (.bl _)
theorem rd_eqD (hx : SeqAt.shaped x = true) (hy : SeqAt.shaped y = true) : RD K (rEqD K) x y (.bool (PyData.eqv x y)) := fun v u H hv hu Q q => ⟨x, y, hv, hu, hx, hy, q _ H (Ex.refl H) (.bl _)⟩
theorem rd_neD (hx : SeqAt.shaped x = true) (hy : SeqAt.shaped y = true) : RD K (rNeD K) x y (.bool (!PyData.eqv x y)) := fun v u H hv hu Q q => ⟨x, y, hv, hu, hx, hy, q _ H (Ex.refl H) (.bl _)⟩
theorem rd_ixT {ds : List PyData} {i : Int} {k : Nat} (hk : ixN ds.length i = some k) (h : ds[k]? = some d) : RD K (rIxT K) (.tuple ds) (.int i) d := fun v u H hv hu Q q => by
  obtain ⟨a, xs, rfl, hs, ha⟩ := dp_tup hv
  obtain ⟨w, hw, hd⟩ := da_at ha h
  refine ⟨a, xs, i, w, rfl, dp_int hu, hs, ?_, q w H (Ex.refl H) hd⟩
  unfold atI
  rw [da_len ha, hk]
  exact hw
theorem rd_ixL {ds : List PyData} {i : Int} {k : Nat} (hk : ixN ds.length i = some k) (h : ds[k]? = some d) : RD K (rIxL K) (.list ds) (.int i) d := fun v u H hv hu Q q => by
  obtain ⟨a, xs, rfl, hs, ha⟩ := dp_lst hv
  obtain ⟨w, hw, hd⟩ := da_at ha h
  refine ⟨a, xs, i, w, rfl, dp_int hu, hs, ?_, q w H (Ex.refl H) hd⟩
  unfold atI
  rw [da_len ha, hk]
  exact hw
theorem eda_nil : EvDA K tNil σ H [] := fun H1 _ _ q => q [] H1 (Ex.refl H1) .nil
theorem eda_cons {tr : TA} {ds : List PyData} (h : EvD K ta σ H x) (hr : EvDA K tr σ H ds) : EvDA K (tCons ta tr) σ H (x :: ds) := fun H1 e _ q =>
  h H1 e _ fun v H2 e2 hv => hr H2 (e.trans e2) _ fun vs H3 e3 hvs => q (v :: vs) H3 (e2.trans e3) (.cons (dp_mono e3 hv) hvs)
theorem ed_tup {ta : TA} {ds : List PyData} (h : EvDA K ta σ H ds) (hl : ds.length ≤ 100000) : EvD K (tTup ta) σ H (.tuple ds) := fun H1 e _ q =>
  h H1 e _ fun vs H2 e2 hv => ⟨by rw [da_len hv]; exact sz_of hl, fun p hp => q (.ref p) _ (e2.trans (Ex.new hp)) (.tup (st_of upd_same) (da_mono (Ex.new hp) hv))⟩
theorem ed_lst {ta : TA} {ds : List PyData} (h : EvDA K ta σ H ds) (hl : ds.length ≤ 100000) : EvD K (tLst ta) σ H (.list ds) := fun H1 e _ q =>
  h H1 e _ fun vs H2 e2 hv => ⟨by rw [da_len hv]; exact sz_of hl, fun p hp => q (.ref p) _ (e2.trans (Ex.new hp)) (.lst (sq_of upd_same) (da_mono (Ex.new hp) hv))⟩
theorem ed_cbt {r : List V → Hp → VK → Prop} {ta : TA} {ds : List PyData} (h : EvDA K ta σ H ds) (hr : RDC K r ds z) : EvD K (tCB r ta) σ H z := fun H1 e Q q =>
  h H1 e _ fun vs H2 e2 hv => hr vs H2 hv Q fun w H3 e3 hw => q w H3 (e2.trans e3) hw
theorem ed_and {a b : Bool} (h1 : EvD K ta σ H (.bool a)) (h2 : a = true → EvD K tb σ H (.bool b)) : EvD K (tAndV ta tb) σ H (.bool (a && b)) := ed_bool (ev_andV (ev_bool h1) fun e => ev_bool (h2 e))
theorem ed_or {a b : Bool} (h1 : EvD K ta σ H (.bool a)) (h2 : a = false → EvD K tb σ H (.bool b)) : EvD K (tOrV ta tb) σ H (.bool (a || b)) := ed_bool (ev_orV (ev_bool h1) fun e => ev_bool (h2 e))
theorem ed_not {a : Bool} (h1 : EvD K ta σ H (.bool a)) : EvD K (tNotV ta) σ H (.bool (!a)) := ed_bool (ev_notV (ev_bool h1))
theorem et_D {b : Bool} (h : EvD K te σ H (.bool b)) : EvT (tTest te) σ H b := et_test (ev_bool h)
theorem et_DB {b : Bool} (h : EvD K te σ H (.bool b)) : EvT (tB te) σ H b := et_B (ev_bool h)
theorem ed_is {d' : PyData} (h : EvD K te σ H d) (e : d = d') : EvD K te σ H d' := by rw [← e]; exact h
/-- a < b < c -/
theorem ed_chain {r r' : R2} {tc : TE} {w : PyData} {a b : Bool} (ha : EvD K ta σ H x) (hb : EvD K tb σ H y) (hc : a = true → EvD K tc σ H w) (h1 : RD K r x y (.bool a)) (h2 : RD K r' y w (.bool b)) : EvD K (tChain r r' ta tb tc) σ H (.bool (a && b)) := fun H1 e Q q =>
  ha H1 e _ fun v H2 e2 hv => hb H2 (e.trans e2) _ fun u H3 e3 hu => h1 v u H3 (dp_mono e3 hv) hu _ fun z H4 e4 hz => ⟨a, dp_bool hz, by
    cases a with
    | true =>
      show tc σ H4 _
      exact hc rfl H4 (((e.trans e2).trans e3).trans e4) _ fun w' H5 e5 hw => h2 u w' H5 (dp_mono (e4.trans e5) hu) hw Q fun z' H6 e6 hz' => q z' H6 ((((e2.trans e3).trans e4).trans e5).trans e6) hz'
    | false =>
      show Q (.bl false) H4
      exact q _ H4 ((e2.trans e3).trans e4) (.bl false)⟩
end

/-! ### promises -/
/-- a def that makes of data ds a datum d, as R says, and leaves all that stood -/
def spR (K : PySem.W.Frag) (R : List PyData → PyData → Prop) : Sp := fun vs H Q _ => ∃ ds d, DpAll K H vs ds ∧ R ds d ∧ ∀ v H', Ex H H' → Dp K H' v d → Q v H'
section
variable {K : PySem.W.Frag} {σ : L2.St} {H H' : Hp} {ta tb te tx : TE} {d : PyData}
theorem ed_call {R : List PyData → PyData → Prop} {E : XK} {ta : TA} {ds : List PyData} (h : EvDA K ta σ H ds) (hr : R ds d) : EvD K (tCall (spR K R) [] E ta) σ H d := fun H1 e Q q =>
  h H1 e _ fun vs H2 e2 hv => ⟨ds, d, by rw [List.append_nil]; exact hv, hr, fun w H3 e3 hw => q w H3 (e2.trans e3) hw⟩
/-! ### statements -/
variable {D : Ends} {tu tw tz : TS} {g : TG} {t : TT}
theorem sd_ret {v : V} (h : EvD K te σ H d) (k : ∀ v H1, Ex H H1 → Dp K H1 v d → D.rt v H1) : tRet te D σ H := h H (Ex.refl H) _ fun v H1 e hv => k v H1 e hv
theorem qd_asg {i : Nat} (h : EvD K te σ H d) (k : ∀ v H1, Ex H H1 → Dp K H1 v d → tz D (σ.set i (some v)) H1) : tSeq (tAsg te (gName i)) tz D σ H := h H (Ex.refl H) _ fun v H1 e hv => k v H1 e hv
end
end DL

set_option Elab.async false
set_option linter.all false
set_option maxRecDepth 100000
set_option maxHeartbeats 4000000
/-! Data without lists stay under stores to lists; comprehensions and built-in calls by data. -/
namespace DL
open PySem PySem.Spec PyProof.Rows L2 Evl

/-! ### tuples stay -/
def ExT (H H' : Hp) : Prop := ∀ a xs, Rd H a (.tup xs) → Rd H' a (.tup xs)
theorem ExT.refl (H : Hp) : ExT H H := fun _ _ h => h
theorem ExT.trans {H H1 H2 : Hp} (a : ExT H H1) (b : ExT H1 H2) : ExT H H2 := fun x o h => b x o (a x o h)
theorem ext_of {H H' : Hp} (e : Ex H H') : ExT H H' := fun a xs h => ex_rd e h
theorem ext_upd {H : Hp} {a : Addr} {xs ys : List V} (h : H a = some (.lst xs)) : ExT H (upd H a (.lst ys)) := fun b zs r => by
  have hb : b ≠ a := fun z => by
    subst z
    rcases r with r | ⟨o, r⟩
    · rw [h] at r; cases r
    · rw [h] at r; cases r
  rcases r with r | ⟨o, r⟩
  · exact .inl (by rw [upd_ne hb]; exact r)
  · exact .inr ⟨o, by rw [upd_ne hb]; exact r⟩
theorem ext_sq {K : PySem.W.Frag} {H H' : Hp} {a : Addr} {xs : List V} (e : ExT H H') (h : SqT K H a xs) : SqT K H' a xs := by
  rcases h with h | h
  · exact .inl (e a xs h)
  · exact .inr h
mutual
/-- no list and no dict in it -/
def noL : PyData → Bool
  | .none => true
  | .bool _ => true
  | .int _ => true
  | .str _ => true
  | .list _ => false
  | .tuple ds => noLs ds
  | .dict _ => false
def noLs : List PyData → Bool
  | [] => true
  | d :: ds => noL d && noLs ds
end
mutual
theorem dp_monoT {K : PySem.W.Frag} {H H' : Hp} (e : ExT H H') : ∀ {d : PyData} {v : V}, noL d = true → Dp K H v d → Dp K H' v d
  | .none, _, _, h => by cases h; exact .non
  | .bool b, _, _, h => by cases h; exact .bl b
  | .int i, _, _, h => by cases h; exact .int i
  | .str x, _, _, h => by cases h; exact .str x
  | .list ds, _, n, h => nomatch n
  | .tuple ds, _, n, h => by
    cases h with
    | tup hs ha => exact .tup (ext_sq e hs) (da_monoT e n ha)
  | .dict _, _, _, h => by cases h
theorem da_monoT {K : PySem.W.Frag} {H H' : Hp} (e : ExT H H') : ∀ {ds : List PyData} {vs : List V}, noLs ds = true → DpAll K H vs ds → DpAll K H' vs ds
  | [], _, _, h => by cases h; exact .nil
  | d :: ds, _, n, h => by
    have n' : noL d = true ∧ noLs ds = true := by simpa [noLs] using n
    cases h with
    | cons h1 h2 => exact .cons (dp_monoT e n'.1 h1) (da_monoT e n'.2 h2)
end
theorem noLs_snoc : ∀ {ds : List PyData} {d : PyData}, noLs ds = true → noL d = true → noLs (ds ++ [d]) = true
  | [], d, _, h => by simp [noLs, h]
  | x :: xs, d, n, h => by
    have n' : noL x = true ∧ noLs xs = true := by simpa [noLs] using n
    show noLs (x :: (xs ++ [d])) = true
    simp [noLs, n'.1, noLs_snoc n'.2 h]
theorem noLs_map {α : Type} {f : α → PyData} : ∀ (l : List α), (∀ x ∈ l, noL (f x) = true) → noLs (l.map f) = true
  | [], _ => rfl
  | x :: xs, h => by
    show (noL (f x) && noLs (xs.map f)) = true
    rw [h x (by simp), noLs_map xs fun y hy => h y (by simp [hy])]; rfl
theorem noL_at : ∀ {ds : List PyData} {i : Nat} {d : PyData}, noLs ds = true → ds[i]? = some d → noL d = true
  | [], i, d, _, e => by simp at e
  | x :: xs, 0, d, n, e => by
    have n' : noL x = true ∧ noLs xs = true := by simpa [noLs] using n
    simp at e; subst e; exact n'.1
  | x :: xs, i + 1, d, n, e => by
    have n' : noL x = true ∧ noLs xs = true := by simpa [noLs] using n
    exact noL_at n'.2 (by simpa using e)

/-! ### what is walked -/
def WkD (K : PySem.W.Frag) (J : It) (H : Hp) (ds : List PyData) : Prop := ∃ (G : Hp → Prop) (Y : Nat → Hp → V → Hp → Prop), Walk J ds.length G Y ∧ (∀ H1, Ex H H1 → G H1) ∧
  ∀ i H1 x H2, Ex H H1 → Y i H1 x H2 → Ex H1 H2 ∧ ∃ d, ds[i]? = some d ∧ Dp K H2 x d
def EvW (K : PySem.W.Frag) (wi : TI) (σ : L2.St) (H : Hp) (ds : List PyData) : Prop := ∀ H1, Ex H H1 → ∀ R : It → Hp → Prop, (∀ J H2, Ex H1 H2 → WkD K J H2 ds → R J H2) → wi σ H1 R
section
variable {K : PySem.W.Frag} {σ : L2.St} {H : Hp} {ta tb te tl : TE} {ds es : List PyData}
theorem ew_tup (h : EvD K tl σ H (.tuple ds)) : EvW K (iTup K tl) σ H ds := fun H1 e R q => h H1 e _ fun v H2 e2 hv => by
  obtain ⟨a, xs, rfl, hs, ha⟩ := dp_tup hv
  refine ⟨a, rfl, ⟨xs, hs⟩, q _ H2 e2 ⟨fun H3 => SqT K H3 a xs, YAt xs, by rw [← da_len ha]; exact walk_tup (xs := xs), fun H3 e3 => ex_t e3 hs, fun i H3 x H4 e3 y => ?_⟩⟩
  obtain ⟨rfl, hx⟩ := y
  exact ⟨Ex.refl _, da_get (da_mono e3 ha) hx⟩
theorem ew_lst (h : EvD K tl σ H (.list ds)) : EvW K (iList K tl) σ H ds := fun H1 e R q => h H1 e _ fun v H2 e2 hv => by
  obtain ⟨a, xs, rfl, hs, ha⟩ := dp_lst hv
  refine ⟨a, rfl, ⟨xs, hs⟩, q _ H2 e2 ⟨fun H3 => SqL K H3 a xs, YAt xs, by rw [← da_len ha]; exact walk_list (xs := xs), fun H3 e3 => ex_l e3 hs, fun i H3 x H4 e3 y => ?_⟩⟩
  obtain ⟨rfl, hx⟩ := y
  exact ⟨Ex.refl _, da_get (da_mono e3 ha) hx⟩
theorem ew_rng1 {ta : TA} {n : Int} (h : EvDA K ta σ H [.int n]) (hn : -(2 ^ 62) ≤ n ∧ n < 2 ^ 62) : EvW K (iRng1 ta) σ H ((List.range n.toNat).map fun (i : Nat) => PyData.int (i : Int)) := fun H1 e R q => h H1 e _ fun vs H2 e2 hv => by
  have ev : vs = [.int n] := da_ints_inv (ns := [n]) hv
  refine ⟨n, ev, hn.1, hn.2, q _ H2 e2 ⟨fun _ => True, fun i H x H' => H' = H ∧ x = .int ((0 : Int) + (i : Nat)) ∧ i < n.toNat, by
    rw [List.length_map, List.length_range]
    exact ⟨fun _ _ hi _ => hi, fun _ _ => Nat.le_refl _, fun _ _ _ _ hi _ y => ⟨y.1, y.2, hi⟩⟩, fun H3 _ => trivial, fun i H3 x H4 e3 y => ?_⟩⟩
  obtain ⟨rfl, rfl, hi⟩ := y
  refine ⟨Ex.refl _, .int ((i : Nat) : Int), ?_, ?_⟩
  · rw [List.getElem?_map, List.getElem?_range hi]; rfl
  · rw [Int.zero_add]; exact .int _
theorem ew_zipT {ds es : List PyData} (ha : EvD K ta σ H (.tuple ds)) (hb : EvD K tb σ H (.tuple es)) : EvW K (RZ.iZipA K (tCons ta (tCons tb tNil))) σ H ((ds.zip es).map fun p => PyData.tuple [p.1, p.2]) := fun H1 e R q =>
  ha H1 e _ fun v H2 e2 hv => hb H2 (e.trans e2) _ fun u H3 e3 hu => by
    obtain ⟨a, xs, rfl, hs, hx⟩ := dp_tup (dp_mono e3 hv)
    obtain ⟨b, ys, rfl, ht, hy⟩ := dp_tup hu
    refine ⟨a, b, xs, ys, rfl, .inr ⟨hs, ht, q _ H3 (e2.trans e3) ?_⟩⟩
    have hn : ((ds.zip es).map fun p => PyData.tuple [p.1, p.2]).length = min xs.length ys.length := by rw [List.length_map, List.length_zip, da_len hx, da_len hy]
    refine ⟨fun H4 => SqT K H4 a xs ∧ SqT K H4 b ys, YPair (fun i => xs[i]?) (fun i => ys[i]?), ?_, fun H4 e4 => ⟨ex_t e4 hs, ex_t e4 ht⟩, fun i H4 x H5 e4 y => ?_⟩
    · rw [hn]
      refine ⟨fun i _ hi q => ?_, fun _ q => ⟨xs, ys, q.1, q.2, by omega⟩, fun i H v H' _ q y => ?_⟩
      · have h1 : i < xs.length := by omega
        have h2 : i < ys.length := by omega
        exact ⟨xs, ys, xs[i], ys[i], q.1, q.2, by simp [h1], by simp [h2]⟩
      · obtain ⟨T, x, z, h1, h2, h3, h4, h5⟩ := y
        exact ⟨T, x, z, h1, h2, h3, h4 xs q.1, h5 ys q.2⟩
    · obtain ⟨T, x1, y1, rfl, hT, rfl, h1, h2⟩ := y
      obtain ⟨d1, g1, p1⟩ := da_get (da_mono e4 hx) h1
      obtain ⟨d2, g2, p2⟩ := da_get (da_mono e4 hy) h2
      refine ⟨Ex.new hT, .tuple [d1, d2], ?_, .tup (st_of upd_same) (.cons (dp_mono (Ex.new hT) p1) (.cons (dp_mono (Ex.new hT) p2) .nil))⟩
      have gz : (ds.zip es)[i]? = some (d1, d2) := List.getElem?_zip_eq_some.mpr ⟨g1, g2⟩
      rw [List.getElem?_map, gz]
      rfl
end
/-! ### targets -/
def TgD (g : TG) (x : V) (σ : L2.St) (H : Hp) (σ2 : L2.St) : Prop := ∀ H1, Ex H H1 → ∀ Q : L2.St → Hp → Prop, Q σ2 H1 → g x σ H1 Q
theorem tg_name {i : Nat} {x : V} {σ : L2.St} {H : Hp} : TgD (gName i) x σ H (σ.set i (some x)) := fun H1 _ Q q => q
theorem tg_pair {K : PySem.W.Frag} {i j : Nat} {a : Addr} {x y : V} {σ : L2.St} {H : Hp} (h : SqT K H a [x, y]) : TgD (gTup K 2 (gCons (gName i) (gCons (gName j) gNil))) (.ref a) σ H ((σ.set i (some x)).set j (some y)) :=
  fun H1 e Q q => ⟨a, [x, y], rfl, ex_t e h, rfl, x, [y], rfl, y, [], rfl, rfl, q⟩
/-! ### comprehensions -/
section
variable {K : PySem.W.Frag} {σ : L2.St} {H : Hp} {te : TE} {tt : TT} {wi : TI} {g : TG}
theorem ed_lc {vs : List Nat} {ds : List PyData} (f : PyData → Bool) (h : PyData → PyData) (hw : EvW K wi σ H ds) (hz : ds.length ≤ 40000)
    (hs : ∀ (i : Nat) (d : PyData) (x : V) (H1 : Hp), Ex H H1 → ds[i]? = some d → Dp K H1 x d → ∃ σ2, TgD g x (wipe σ vs) H1 σ2 ∧ wipe σ2 vs = wipe σ vs ∧ EvT tt σ2 H1 (f d) ∧ (f d = true → noL (h d) = true ∧ EvD K te σ2 H1 (h d))) :
    EvD K (tLc wi g tt te vs) σ H (.list ((ds.filter f).map h)) := fun H0 e0 Q q => hw H0 e0 _ fun J H1 e1 wk Dl hD => by
  obtain ⟨G, Y, wlk, hG, hY⟩ := wk
  refine lc_it (σ := σ) wlk (fun i H' => Ex H1 H' ∧ noLs (((ds.take i).filter f).map h) = true ∧ ∃ xs, H' Dl = some (.lst xs) ∧ xs.length ≤ i ∧ DpAll K H' xs (((ds.take i).filter f).map h))
    ⟨Ex.new hD, rfl, [], upd_same, Nat.le_refl _, .nil⟩ (fun i H' _ p => hG H' p.1) (fun i x H2 H3 hi p y => ?_) (fun H' p => ?_)
  · obtain ⟨ex, hn, xs, hx, hl, ha⟩ := p
    obtain ⟨ey, d, hd, hdp⟩ := hY i H2 x H3 ex y
    obtain ⟨σ2, tg, hwp, ht, he⟩ := hs i d x H3 ((e0.trans e1).trans (ex.trans ey)) hd hdp
    refine tg H3 (Ex.refl H3) _ ⟨hwp, ht H3 (Ex.refl H3) _ fun H4 e4 => ?_⟩
    have tk : ds.take (i + 1) = ds.take i ++ [d] := by rw [List.take_add_one, hd]; rfl
    cases hf : f d with
    | true =>
      show te σ2 H4 _
      obtain ⟨hno, hev⟩ := he hf
      refine hev H4 e4 _ fun v H5 e5 hv => ?_
      have xD : H5 Dl = some (.lst xs) := e5 _ _ (e4 _ _ (ey _ _ hx))
      refine ⟨xs, xD, sz_lt (by omega), Ex.mut ((ex.trans ey).trans (e4.trans e5)) hD, ?_, xs ++ [v], upd_same, by rw [List.length_append]; show xs.length + 1 ≤ i + 1; omega, ?_⟩
      · rw [tk, List.filter_append, List.map_append, show [d].filter f = [d] by simp [hf]]
        exact noLs_snoc hn hno
      · rw [tk, List.filter_append, List.map_append, show [d].filter f = [d] by simp [hf]]
        exact da_monoT (ext_upd xD) (noLs_snoc hn hno) (da_snoc (da_mono (ey.trans (e4.trans e5)) ha) hv)
    | false =>
      show Ex H1 H4 ∧ _
      rw [tk, List.filter_append, List.map_append, show [d].filter f = [] by simp [hf]]
      refine ⟨(ex.trans ey).trans e4, by simpa using hn, xs, e4 _ _ (ey _ _ hx), by omega, ?_⟩
      simpa using da_mono (ey.trans e4) ha
  · obtain ⟨ex, hn, xs, hx, hl, ha⟩ := p
    rw [List.take_of_length_le (Nat.le_refl _)] at ha
    exact q (.ref Dl) H' (e1.trans ex) (.lst (sq_of hx) ha)
/-- without a test -/
theorem ed_lc0 {vs : List Nat} {ds : List PyData} (h : PyData → PyData) (hw : EvW K wi σ H ds) (hz : ds.length ≤ 40000)
    (hs : ∀ (i : Nat) (d : PyData) (x : V) (H1 : Hp), Ex H H1 → ds[i]? = some d → Dp K H1 x d → ∃ σ2, TgD g x (wipe σ vs) H1 σ2 ∧ wipe σ2 vs = wipe σ vs ∧ noL (h d) = true ∧ EvD K te σ2 H1 (h d)) :
    EvD K (tLc wi g tYes te vs) σ H (.list (ds.map h)) := by
  have z := ed_lc (te := te) (g := g) (tt := tYes) (vs := vs) (fun _ => true) h hw hz fun i d x H1 e hd hx => by
    obtain ⟨σ2, a, b, c, d⟩ := hs i d x H1 e hd hx
    exact ⟨σ2, a, b, fun H2 _ Q q => q H2 (Ex.refl H2), fun _ => ⟨c, d⟩⟩
  rwa [List.filter_eq_self.mpr (fun _ _ => rfl)] at z
end
/-! ### built-in calls by data -/
section
variable {K : PySem.W.Frag} {ds : List PyData}
theorem rdc_all {bs : List Bool} : RDC K (rAll K) [.list (bs.map .bool)] (.bool (bs.all id)) := fun vs H hv Q q => by
  cases hv with
  | cons h1 h2 =>
    cases h2
    obtain ⟨a, xs, rfl, hs, ha⟩ := dp_lst h1
    rw [da_bools_inv ha] at hs
    exact ⟨a, bs, rfl, hs, q _ H (Ex.refl H) (.bl _)⟩
theorem rdc_lenT : RDC K (fun xs H Q => ∃ p ys, xs = [.ref p] ∧ (SqL K H p ys ∨ SqT K H p ys) ∧ Q (.int ys.length) H) [.tuple ds] (.int ds.length) := fun vs H hv Q q => by
  cases hv with
  | cons h1 h2 =>
    cases h2
    obtain ⟨a, xs, rfl, hs, ha⟩ := dp_tup h1
    exact ⟨a, xs, rfl, .inr hs, by rw [da_len ha]; exact q _ H (Ex.refl H) (.int _)⟩
theorem rdc_lenL : RDC K (fun xs H Q => ∃ p ys, xs = [.ref p] ∧ (SqL K H p ys ∨ SqT K H p ys) ∧ Q (.int ys.length) H) [.list ds] (.int ds.length) := fun vs H hv Q q => by
  cases hv with
  | cons h1 h2 =>
    cases h2
    obtain ⟨a, xs, rfl, hs, ha⟩ := dp_lst h1
    exact ⟨a, xs, rfl, .inl hs, by rw [da_len ha]; exact q _ H (Ex.refl H) (.int _)⟩
theorem rdc_tupL : RDC K (fun xs H Q => ∃ p ys, xs = [.ref p] ∧ ((SqL K H p ys ∧ ∀ l, H l = none → Q (.ref l) (upd H l (.tup ys))) ∨ (SqT K H p ys ∧ Q (.ref p) H))) [.list ds] (.tuple ds) := fun vs H hv Q q => by
  cases hv with
  | cons h1 h2 =>
    cases h2
    obtain ⟨a, xs, rfl, hs, ha⟩ := dp_lst h1
    exact ⟨a, xs, rfl, .inl ⟨hs, fun l hl => q _ _ (Ex.new hl) (.tup (st_of upd_same) (da_mono (Ex.new hl) ha))⟩⟩
theorem rdc_min2 {i j : Int} : RDC K (fun xs H Q => ∃ i j, xs = [.int i, .int j] ∧ Q (.int (if j < i then j else i)) H) [.int i, .int j] (.int (min i j)) := fun vs H hv Q q => by
  refine ⟨i, j, da_ints_inv (ns := [i, j]) hv, ?_⟩
  have e : (if j < i then j else i) = min i j := by rw [Int.min_def]; split <;> split <;> omega
  rw [e]
  exact q _ H (Ex.refl H) (.int _)
theorem rdc_max2 {i j : Int} : RDC K (fun xs H Q => ∃ i j, xs = [.int i, .int j] ∧ Q (.int (if j > i then j else i)) H) [.int i, .int j] (.int (max i j)) := fun vs H hv Q q => by
  refine ⟨i, j, da_ints_inv (ns := [i, j]) hv, ?_⟩
  have e : (if j > i then j else i) = max i j := by rw [Int.max_def]; split <;> split <;> omega
  rw [e]
  exact q _ H (Ex.refl H) (.int _)
end
end DL

set_option Elab.async false
set_option linter.all false
set_option maxRecDepth 100000
set_option maxHeartbeats 4000000
/-! A tuple whose very object is known (no dict of its own): its methods. -/
namespace DL
open PySem PySem.Spec PyProof.Rows L2 Evl

/-- a tuple that is known to the object -/
def FrzT (H : Hp) (x : V) : Prop := ∃ (a : Addr) (o : Obj) (xs : List V), x = .ref a ∧ H a = some (.frz o (.tup xs)) ∧ o.dict = none
theorem FrzT.ex {H H' : Hp} {x : V} (e : Ex H H') (h : FrzT H x) : FrzT H' x := by
  obtain ⟨a, o, xs, h1, h2, h3⟩ := h
  exact ⟨a, o, xs, h1, e _ _ h2, h3⟩
section
variable {X : Cx} {o e : Expr} {es : List Expr} {to : TE} {t : TA} {name : Str} {apos cpos : Pos} {id : String} {r : V → List V → Hp → VK → Prop}
theorem frz_is {pins : List (Addr × Obj)} {σ : L2.St} {H : Hp} {s : Shared} {x : V} {v : Value} (I : Inv X pins σ H s) (rx : RelV x v) (h : FrzT H x) : s.TypeIs v "tuple" ∧ ∀ a, v = .ref a → ∃ ob, s.heap.get? a = some ob ∧ ob.dict = none := by
  obtain ⟨a, o, xs, rfl, ha, hd⟩ := h
  cases rx
  obtain ⟨g, _, its, _, ob, h1, h2, _⟩ := (show ObjOk X.prog X.w H s.heap a (.frz o (.tup xs)) from I.hok a _ ha)
  refine ⟨⟨ob, h1, h2⟩, fun b e => ?_⟩
  cases e
  exact ⟨o, g, hd⟩
def tBMT (r : V → List V → Hp → VK → Prop) (to : TE) (t : TA) : TE := fun σ H Q => to σ H fun x H1 => FrzT H1 x ∧ t σ H1 fun xs H2 => r x xs H2 Q
theorem pe_bmT (pa : PlainAttrs "tuple") (slot : Slot "tuple" name id) (hty : typeOf (.builtin id) = pure (.type "method_descriptor")) (hm : MtR X id r) (ho : PE X o to) (ha : PA X (e :: es) t)
    (hbase : attributeBase o name X.env (eval o X.env) = eval o X.env := by rfl)
    (hfew : ((backTo cpos (starEach (e :: es) X.env)).all (fun x => !x.1) && (backToKw cpos (keywordEach [] X.env)).all (fun x => x.1.isSome)
      && decide ((e :: es).length + ([] : List Keyword).length + (if ([] : List Keyword).isEmpty then 0 else 1) < 30)) = true := by rfl)
    (hline : (apos.endLine == cpos.line) = true := by rfl) (hs : starEach (e :: es) X.env = (false, eval e X.env) :: starEach es X.env := by rfl) (hplain : (backTo cpos (starEach es X.env)).any (·.1) = false := by rfl) :
    PE X (.Call (.Attribute o name apos) (e :: es) [] cpos) (tBMT r to t) := by
  refine ⟨fun pins s σ H Q I h => ?_⟩
  refine wpAny_Call_method_late hbase hfew hline rfl (thn (ho.run pins s σ H _ I h) fun v s1 ⟨x, H1, I1, r1, ty, q1⟩ => ?_)
  obtain ⟨h1, h2⟩ := frz_is I1 r1 ty
  refine ⟨"tuple", id, pa, slot, hty, h1, h2, ?_⟩
  have hA := ha.run cpos pins s1 σ H1 _ I1 q1
  rw [hs] at hA ⊢
  refine Calls.callWith_builtin (by show (false || (backTo cpos (starEach es X.env)).any (·.1)) = false; rw [hplain] <;> rfl) (Calls.evalArgs_plain ?_)
  exact thn hA fun us s2 ⟨vs, H2, I2, r2, q2⟩ => hm pins s2 σ H2 x vs v us Q I2 r1 r2 q2
/-- t.count(x), ints -/
def rCountT (K : PySem.W.Frag) : V → List V → Hp → VK → Prop := fun x xs H Q => ∃ (a : Addr) (ns : List Int) (m : Int), x = .ref a ∧ xs = [.int m] ∧ SqT K H a (ns.map V.int) ∧ Q (.int ((ns.count m : Nat) : Int)) H
theorem plain_ints : ∀ ns : List Int, PyData.plainAll (ns.map PyData.int) = true
  | [] => rfl
  | n :: ns => by
    show (PyData.plain (.int n) && PyData.plainAll (ns.map PyData.int)) = true
    rw [plain_ints ns]
    rfl
theorem count_ints (ns : List Int) (m : Int) : (ns.map PyData.int).countP (fun y => PyData.eqv y (.int m)) = ns.count m := by
  rw [List.countP_map, List.count]
  refine List.countP_congr fun x _ => ?_
  simp [PyData.eqv]
theorem mt_countT (hu : X.A.units + 64 < cLine) : MtR X "tuple.count" (rCountT X.K) := by
  intro pins s σ H x xs v us Q I rx rxs h
  obtain ⟨a, ns, m, rfl, rfl, hs, q⟩ := h
  cases rx
  obtain ⟨u, rfl, ru⟩ := Vals.one rxs
  obtain ⟨its, rv, hT, _⟩ := I.tuple hs
  obtain ⟨as, h1⟩ := Dp.readsAll I (ns.map PyData.int) _ _ (da_ints ns) rv
  obtain ⟨bs, h2⟩ := Dp.reads I (.int m) _ _ (.int m) ru
  refine PySem.SeqAt.count_tuple_data (vs := its.toArray) (xs := ns.map PyData.int) (d := .int m) hT (by simpa using h1) h2 (plain_ints ns) rfl ?_ ?_
  · have : min (PyData.depthAll (ns.map PyData.int)) (PyData.depth (.int m)) ≤ PyData.depth (.int m) := Nat.min_le_right _ _
    have z : PyData.depth (.int m) ≤ 1 := by first | exact Nat.zero_le _ | exact Nat.le_refl _ | decide
    omega
  · rw [count_ints]
    exact ⟨.int _, H, I.tok _, ⟨_, rfl⟩, q⟩
/-- tuple(xs) of a list, the object known -/
theorem call_tuple_ofF : CallR X (.type "tuple") (fun xs H Q => ∃ p ys, xs = [.ref p] ∧ SqL X.K H p ys ∧ ∀ l o, H l = none → o.dict = none → Q (.ref l) (upd H l (.frz o (.tup ys)))) := by
  intro pins s σ H xs us Q I r h
  obtain ⟨p, ys, rfl, hq, q⟩ := h
  obtain ⟨u, rfl, rx⟩ := vals1 r
  cases rx
  obtain ⟨its, r', pl, hz⟩ := I.list hq
  have hlen := r'.length
  refine call_tuple_list pl.isList (fun h' kp => ?_) (by simp only [List.size_toArray] <;> omega)
  have I1 : Inv X pins σ H { s with heap := h' } := I.kept (t' := s.toks) kp
  have I2 : Inv X pins σ (upd H h'.objs.size (.frz { cls := .type "tuple", data := .seq its.toArray } (.tup ys))) { s with heap := h'.push { cls := .type "tuple", data := .seq its.toArray } } :=
    I1.laid (t' := s.toks) (fun b o e => Heap.get?_push_of_some _ e) (Nat.le_refl _) (show ObjOk X.prog X.w _ _ _ (.frz _ (.tup ys)) from ⟨Heap.get?_push_size _ rfl, hz, its, r', IsTup.new _ _⟩)
  exact ⟨.ref h'.objs.size, _, I2, rfl, q _ _ (I1.hok.fresh (Nat.le_refl _)) rfl⟩
end
end DL

set_option Elab.async false
set_option linter.all false
set_option maxRecDepth 100000
set_option maxHeartbeats 4000000
/-! Generator expressions whose elements may do anything: all(..), any(..) of them. -/
namespace GX
open PySem PySem.Spec PyProof.Rows L2 Evl DL

/-- a table of code objects, whatever stands in it -/
def TabPhi (P : Addr) : Heap → Prop := fun h => ∃ ps : Array Value, h.get? P = some { cls := .none, data := .fields ps } ∧ TriplesOk ps.toList
def TabE (P : Addr) : HO := .ext (TabPhi P)
theorem upd_self {H : Hp} {a : Addr} {o : HO} (h : H a = some o) : upd H a o = H := by
  funext b
  unfold upd
  split
  · rename_i e
    rw [e, h]
  · rfl
section
variable {X : Cx} {pins : List (Addr × Obj)} {σ : L2.St} {H : Hp} {s : Shared}
theorem tab_ok {P : Addr} {Pr : Program} {w : World} {h : Heap} {ps : Array Value} (e : h.get? P = some { cls := .none, data := .fields ps }) (ht : TriplesOk ps.toList) : ObjOk Pr w H h P (TabE P) :=
  ⟨⟨ps, e, ht⟩, ⟨_, e⟩, fun h1 h2 ⟨qs, e1, t1⟩ k => ⟨qs, k _ e1, t1⟩⟩
/-- the table is written, all else stays -/
theorem tab_write {P : Addr} {h' : Heap} {t' : Nat} {ps : Array Value} (I : Inv X pins σ H s) (hP : H P = some (TabE P)) (k : ∀ b o, b ≠ P → s.heap.get? b = some o → h'.get? b = some o) (hm : h'.get? P = some { cls := .none, data := .fields ps }) (ht : TriplesOk ps.toList) :
    Inv X pins σ H { s with heap := h', toks := t' } := by
  have J := I.write (x := P) (e := P) (o := TabE P) (t' := t') (by rw [hP]; trivial) (.inl rfl) k ⟨_, hm⟩ (tab_ok hm ht)
  rw [upd_self hP] at J
  exact J
/-- the gens, the draws and the tokens may be others -/
theorem inv_gens {g' : Array GenState} {d' : Drawn} {t' : Nat} (I : Inv X pins σ H s) (hg : AllBare g') : Inv X pins σ H { s with gens := g', drawn := d', toks := t' } :=
  ⟨I.ok, I.os, hg, I.base, I.loc, I.cell, I.free, I.freeC, I.pin, I.hok, I.len⟩
end
/-- the context of a generator expression's frame -/
abbrev gblk (X : Cx) (A : Around) (s : Shared) (H : Hp) (ge : Env) (fp : List Addr) : Cx :=
  { X with A := A, s_0 := s, H_0 := H, env := ge, outer := X.stack, stack := ge :: X.stack, ex := fp, fn := fun _ => false, pn := [], xe := fun _ _ => False }
/-- its names: its own in their slots, or captured -/
structure GenOk (N : List Str) (sc scope : Scope) (own : List (Str × Nat)) : Prop where
  blk : BlkOk N sc scope own
  co : scope.isCoroutine = false
  cell : ∀ y ∈ scope.names, y.2 ≠ .cell
  dot : scope.names.lookup (".0" : Str) = some NameKind.local
section
variable {X : Cx} {pins : List (Addr × Obj)} {σ : L2.St} {H : Hp} {s : Shared}
theorem gen_start {A : Around} {scope : Scope} {own : List (Str × Nat)} {fp : List Addr} {code it : Value} {a : Addr} {gob : Obj} {s5 : Shared} (I : Inv X pins σ H s) (G : GenOk X.N X.env.scope scope own) (hN : X.N.Nodup) (hfp : ∀ b ∈ fp, FpOk X pins H b ∧ b < s.heap.objs.size)
    (hA : A.handled = none) (hF : A.frames = some (genEnv scope (cloFrom X.env.cells scope.names []) s.heap.objs.size code builtinsNs X.env :: X.stack))
    (hn : s5.heap.Ns s.heap.objs.size (fun y => if y = ".0" then some it else none)) (kp : ∀ b o, s.heap.get? b = some o → s5.heap.get? b = some o) (hos : s5.os = s.os) (hb : AllBare s5.gens)
    (ha : s5.heap.get? a = some gob) (hac : ∀ v, gob.data ≠ .cell v) (hal : s.heap.objs.size < a) :
    Inv (gblk X A s H (genEnv scope (cloFrom X.env.cells scope.names []) s.heap.objs.size code builtinsNs X.env) fp) [(a, gob)] (wipe σ (own.map (·.2))) H s5 := by
  have ok := G.blk
  have hfree : ∀ y ∈ scope.names, y.2 = .free → ∃ c, X.env.cells.lookup y.1 = some c := fun y hy e => by
    rcases ok.free y hy e with k | k
    · exact I.ok.has _ (.inl k)
    · exact I.ok.has _ (.inr k)
  have cm : ∀ {y : Str} {c : Addr}, (cloFrom X.env.cells scope.names []).lookup y = some c → X.env.cells.lookup y = some c ∧ c < s.heap.objs.size := fun {y c} e => by
    rcases cloFrom_mem (PySem.mem_of_lookup e) with hm | ⟨h1, hc0⟩
    · cases hm
    · obtain ⟨c', hc'⟩ := hfree _ h1 rfl
      have e1 : X.env.cells.lookup y = some c := by
        rw [hc'] at hc0
        subst hc0
        exact hc'
      obtain ⟨w, z⟩ := I.cell _ _ e1
      exact ⟨e1, z.lt⟩
  have look : ∀ {y : Str}, scope.names.lookup y = some .free → ∃ c, (cloFrom X.env.cells scope.names []).lookup y = some c ∧ X.env.cells.lookup y = some c := fun {y} hl => by
    obtain ⟨c', e'⟩ := mem_lookup (cloFrom_has (cells := X.env.cells) (acc := []) (PySem.mem_of_lookup hl))
    exact ⟨c', e', (cm e').1⟩
  have okG : (gblk X A s H (genEnv scope (cloFrom X.env.cells scope.names []) s.heap.objs.size code builtinsNs X.env) fp).Ok := by
    refine ⟨I.ok.mod, ok.kind, I.ok.glob, rfl, Nat.le_refl _, fun y z c e1 e2 => I.ok.inj y z c (cm e1).1 (cm e2).1, fun y hy => ?_, fun y c z e => (by cases z), fun _ => hA, hF, .inr ⟨rfl, rfl⟩, fun b hb => ⟨?_, fun y c e z => ?_⟩, I.bs, Nat.le_trans I.ok.bsz I.sz, fun b o e hb => ?_, fun b hb z => ?_, I.stack, I.stkFree⟩
    · rcases hy with hy | hy
      · exact absurd rfl (G.cell _ (PySem.mem_of_lookup hy))
      · obtain ⟨c, h1, _⟩ := look hy
        exact ⟨c, h1⟩
    · exact Nat.ne_of_lt (hfp b hb).2
    · exact (hfp b hb).1.2.2.2.2.1 y c (cm e).1 z
    · rcases (hfp b hb).1.2.2.2.1 with z | z
      · exact I.ok.noex b o e z
      · exact absurd (Nat.lt_of_lt_of_le (Heap.lt_size e) (Nat.le_trans I.ok.bsz z)) (Nat.lt_irrefl _)
    · rcases List.mem_cons.mp (I.stkSub b z) with z | z
      · exact (hfp b hb).1.2.1 z
      · exact (hfp b hb).1.2.2.1 z
  refine ⟨okG, hos, hb, Un.kept kp, ⟨_, hn, fun i y av e1 e2 e3 => ?_⟩, fun y c e => ?_, I.hok.fresh (Nat.le_refl _), fun y c e => I.freeC y c (cm e).1, fun p hp => ?_, I.hok.kept kp, by rw [wipe_length]; exact I.len⟩
  · obtain ⟨e2, hne⟩ := wipe_some e2
    have hfr : scope.names.lookup y = some .free := by
      have no : ∀ k, scope.names.lookup y = some k → ¬ (k = .local ∨ k = .cell) := fun k e hh => by
        rcases ok.own _ (PySem.mem_of_lookup e) hh with e' | e'
        · obtain ⟨p, hp, hpy⟩ := List.mem_map.mp e'
          have e3 := ok.ix p hp
          have : p.1 = y := hpy
          rw [this] at e3
          exact hne (List.mem_map.mpr ⟨p, hp, nodup_ix hN e3 e1⟩)
        · exact e' (List.mem_of_getElem? e1)
      have e3 : Vis scope y := e3
      rcases e3 with e3 | e3 | e3
      · exact absurd (.inl rfl) (no _ e3)
      · exact absurd (.inr rfl) (no _ e3)
      · exact e3
    obtain ⟨m, _, hl⟩ := I.loc
    have hvis : Vis X.env.scope y := (ok.free _ (PySem.mem_of_lookup hfr) rfl).elim (fun k => .inr (.inl k)) (fun k => .inr (.inr k))
    obtain ⟨u, r, q⟩ := hl i y av e1 e2 hvis
    refine ⟨u, r, .inr ⟨.inr hfr, ?_⟩⟩
    obtain ⟨c, h1, h2⟩ := look hfr
    rcases q with ⟨k, _⟩ | ⟨_, c', e', z⟩
    · have k : X.env.scope.names.lookup y = some .local := k
      rcases ok.free _ (PySem.mem_of_lookup hfr) rfl with k' | k' <;> rw [show X.env.scope.names.lookup y = _ from k'] at k <;> cases k
    · rw [h2] at e'
      cases e'
      exact ⟨c, h1, z.keeps kp⟩
  · obtain ⟨w, z⟩ := I.cell y c (cm e).1
    exact ⟨w, z.keeps kp⟩
  · have hp : p ∈ ([] : List (Addr × Obj)) ++ [(a, gob)] := hp
    rw [List.nil_append, List.mem_singleton] at hp
    subst hp
    refine ⟨ha, I.hok.fresh (Nat.le_of_lt hal), Nat.ne_of_gt hal, fun z => ?_, hac⟩
    have h1 := I.stack.mem z
    obtain ⟨_, o, ho, _⟩ := h1
    exact absurd (Nat.lt_trans hal (Heap.lt_size ho)) (Nat.lt_irrefl _)
end
end GX

set_option Elab.async false
set_option linter.all false
set_option maxRecDepth 100000
set_option maxHeartbeats 4000000
namespace GX
open PySem PySem.Spec PyProof.Rows L2 Evl DL

abbrev gExp (elt tg iter : Expr) (scope : Scope) (pos : Pos) : Expr := .GeneratorExp elt [⟨tg, iter, [], 0⟩] scope pos
abbrev gLoop (elt tg iter : Expr) (scope : Scope) (pos : Pos) (it : Addr) (ge : Env) : Code := .compLoop (gExp elt tg iter scope pos) 0 (.ref it) .none ge
/-- a turn may begin -/
def GS (Xg : Cx) (gp : List (Addr × Obj)) (τ : L2.St) (fp : List Addr) (tn : Nat → Heap → Prop) (W : Nat → Hp → Prop) (i : Nat) (s : Shared) : Prop :=
  ∃ H', Inv Xg gp τ H' s ∧ tn i s.heap ∧ (∀ b ∈ fp, H' b = none) ∧ W i H'
/-- between two turns nothing but generators' states changes -/
def Re (s s'' : Shared) : Prop := s''.heap = s.heap ∧ s''.os = s.os ∧ AllBare s''.gens
def gR (Xg : Cx) (gp : List (Addr × Obj)) (τ : L2.St) (c : Bool) (Qt : Bool → Hp → Prop) : GenEnd := fun _ _ r s₁ => r = .ok .next ∧ ∃ H', Inv Xg gp τ H' s₁ ∧ Qt c H'
def gY (Xg : Cx) (gp : List (Addr × Obj)) (τ : L2.St) (fp : List Addr) (tn : Nat → Heap → Prop) (W : Nat → Hp → Prop) (c : Bool) (Qt : Bool → Hp → Prop) (N : Nat) : Protocol := fun n _ v s kap =>
  ∃ b, v = .bool b ∧ if b = c then (∃ i, n = N - i ∧ i ≤ N ∧ GS Xg gp τ fp tn W i s) ∧ ∀ s'', Re s s'' → kap (.send .none) s'' else ∃ H', Inv Xg gp τ H' s ∧ Qt b H'
theorem GS.re {Xg : Cx} {gp : List (Addr × Obj)} {τ : L2.St} {fp : List Addr} {tn : Nat → Heap → Prop} {W : Nat → Hp → Prop} {i : Nat} {s s'' : Shared} (h : GS Xg gp τ fp tn W i s) (r : Re s s'') : GS Xg gp τ fp tn W i s'' := by
  obtain ⟨H', I, st, n, w⟩ := h
  obtain ⟨e1, e2, e3⟩ := r
  obtain ⟨hp, gs, dr, tk, os⟩ := s''
  have e1 : hp = s.heap := e1
  have e2 : os = s.os := e2
  subst e1
  subst e2
  exact ⟨H', inv_gens I e3, st, n, w⟩
theorem gen_seg {X : Cx} {A : Around} {elt tg iter : Expr} {scope : Scope} {pos : Pos} {ge : Env} {s3 : Shared} {H3 : Hp} {fp : List Addr} {it : Addr} {tn : Nat → Heap → Prop} {J : It} {g : TG} {te : TE} {vs : List Nat} {σ : L2.St} {gp : List (Addr × Obj)} {N : Nat} {W : Nat → Hp → Prop} {c : Bool} {Qt : Bool → Hp → Prop}
    (hc : X.calm = true) (hco : ge.scope.isCoroutine = false) (T : Turn X.prog X.w X.K tg J fp it tn) (hgp : ∀ p ∈ gp, ∀ b ∈ fp, p.1 ≠ b)
    (pg : PG (gblk X (A.over (gLoop elt tg iter scope pos it ge) []) s3 H3 ge fp) tg g) (pe : PE (gblk X (A.over (gLoop elt tg iter scope pos it ge) []) s3 H3 ge fp) elt te)
    (turn : ∀ i H, W i H → (J.stop i H ∧ Qt c H) ∨ (J.go i H ∧ i < N ∧ ∀ x H', J.yld i H x H' → g x (wipe σ vs) H' fun σ2 H2 => wipe σ2 vs = wipe σ vs ∧ te σ2 H2 fun y H4 => ∃ b, y = .bl b ∧ if b = c then W (i + 1) H4 else Qt b H4)) :
    ∀ (k i : Nat) (s₀ s : Shared), N - i = k → i ≤ N → GS (gblk X (A.over (gLoop elt tg iter scope pos it ge) []) s3 H3 ge fp) gp (wipe σ vs) fp tn W i s →
      Seg (model X.prog X.w) A (gR (gblk X (A.over (gLoop elt tg iter scope pos it ge) []) s3 H3 ge fp) gp (wipe σ vs) c Qt) (gY (gblk X (A.over (gLoop elt tg iter scope pos it ge) []) s3 H3 ge fp) gp (wipe σ vs) fp tn W c Qt N) k s₀
        (gLoop elt tg iter scope pos it ge) ((model X.prog X.w).den (gLoop elt tg iter scope pos it ge)) [] s := by
  generalize hXg : gblk X (A.over (gLoop elt tg iter scope pos it ge) []) s3 H3 ge fp = Xg at pg pe
  have hXA : Xg.A = A.over (gLoop elt tg iter scope pos it ge) [] := by rw [← hXg]
  have hXp : Xg.prog = X.prog := by rw [← hXg]
  have hXw : Xg.w = X.w := by rw [← hXg]
  have hXK : Xg.K = X.K := by rw [← hXg]
  have hXc : Xg.calm = true := by rw [← hXg]; exact hc
  have hXe : Xg.env = ge := by rw [← hXg]
  have hXx : Xg.ex = fp := by rw [← hXg]
  have hXn : Xg.pn = [] := by rw [← hXg]
  have hXf : Xg.xe = fun _ _ => False := by rw [← hXg]
  have stat : ∀ {σ' : L2.St} {H' : Hp} {s' : Shared}, Inv Xg gp σ' H' s' → (∀ b ∈ fp, H' b = none) → ∀ b ∈ fp, FpOk Xg gp H' b := fun {σ' H' s'} I' hn b hb => by
    have hbx : b ∈ Xg.ex := by rw [hXx]; exact hb
    refine ⟨hn b hb, (I'.ok.exf b hbx).1, I'.ok.exfs b hbx, .inl hbx, fun x c e => (I'.ok.exf b hbx).2 x c e, fun p hp => ?_⟩
    rw [hXn, List.nil_append] at hp
    exact hgp p hp b hb
  have hy : ∀ v, yieldOut ge v = yieldValue v := fun v => by simp only [yieldOut, hco, Bool.false_eq_true, if_false]
  intro k
  induction k with
  | zero =>
    intro i s₀ s hk hi hG
    obtain ⟨H5, I5, st5, n5, w5⟩ := hG
    show Seg _ A _ _ _ s₀ _ ((compTurn (gExp elt tg iter scope pos) 0 (.ref it) .none ge).onRaise (leaving ge)) [] s
    rw [compTurn_gen, Sem.onRaise_eq_wrap]
    refine seg_bind_wrap (wpAny_standAt ?_)
    rcases turn i H5 w5 with ⟨stop, qq⟩ | ⟨_, hlt, _⟩
    · have td := T.done Xg hXp hXw hXK hXc i gp s _ H5 (fun _ _ => False) I5 (stat I5 n5) st5 stop
      rw [hXA] at td
      refine seg_bind_wrap (thnF td fun r s6 ⟨hr, I6⟩ => ?_)
      subst hr
      exact seg_end (.ok .next) ⟨rfl, H5, I6, qq⟩
    · omega
  | succ k ih =>
    intro i s₀ s hk hi hG
    obtain ⟨H5, I5, st5, n5, w5⟩ := hG
    show Seg _ A _ _ _ s₀ _ ((compTurn (gExp elt tg iter scope pos) 0 (.ref it) .none ge).onRaise (leaving ge)) [] s
    rw [compTurn_gen, Sem.onRaise_eq_wrap]
    refine seg_bind_wrap (wpAny_standAt ?_)
    rcases turn i H5 w5 with ⟨stop, qq⟩ | ⟨go, hlt, step⟩
    · have td := T.done Xg hXp hXw hXK hXc i gp s _ H5 (fun _ _ => False) I5 (stat I5 n5) st5 stop
      rw [hXA] at td
      refine seg_bind_wrap (thnF td fun r s6 ⟨hr, I6⟩ => ?_)
      subst hr
      exact seg_end (.ok .next) ⟨rfl, H5, I6, qq⟩
    · have ti := T.item Xg hXp hXw hXK hXc i gp s _ H5 (fun _ _ => False) I5 (stat I5 n5) st5 go
      rw [hXA] at ti
      refine seg_bind_wrap (thnF ti fun r s6 ⟨u, hr, h6⟩ => ?_)
      subst hr
      refine seg_bind_wrap (thnF h6 fun _ s7 ⟨x, H7, I7, r7, y7, st7, n7⟩ => ?_)
      have I7' := I7.pinned (stat I7 n7) (T.obj _ _ st7)
      have rg := pg.run _ s7 _ H7 x u _ I7' r7 (step x H7 y7)
      rw [hXA, hXe, hXf, hXp, hXw] at rg
      refine seg_bind_wrap (thnF rg fun _ s8 ⟨σ8, H8, I8, hw8, q8⟩ => ?_)
      refine seg_bind_wrap (wpAny_tests_nil ?_)
      simp only [if_true]
      simp only [hy]
      rw [Sem.bind_eq_wrap', Sem.bind_eq_wrap', Sem.wrap_wrap, Sem.wrap_wrap]
      have re := pe.run _ s8 σ8 H8 _ I8 q8
      rw [hXA, hXe, hXf, hXp, hXw] at re
      refine seg_wrap (thnF re fun z s9 ⟨yv, H9, I9, r9, b, hb, q9⟩ => ?_)
      subst hb
      have hz : z = .bool b := r9
      subst hz
      have pin' : ∀ b ∈ fp, ∀ o, s7.heap.get? b = some o → s9.heap.get? b = some o ∧ H9 b = none := fun b hb o e => by
        have z := I9.pin (b, o) (List.mem_append_right _ (List.mem_append_right _ (mem_pinsAt hb e)))
        exact ⟨z.1, z.2.1⟩
      have hl : (wipe σ vs).length = σ8.length := by rw [← hw8, wipe_length]
      have I9' : Inv Xg gp (wipe σ vs) H9 s9 := (I9.unpinned (pins := gp)).weak hl fun j v e => by
        rw [← hw8] at e
        exact (wipe_some e).1
      refine seg_at (seg_yield rfl rfl rfl ⟨b, rfl, ?_⟩)
      by_cases hbc : b = c
      · rw [if_pos hbc] at q9 ⊢
        have hG9 : GS Xg gp (wipe σ vs) fp tn W (i + 1) s9 := by
          refine ⟨H9, I9', T.keep _ _ _ st7 fun b hb o e => (pin' b hb o e).1, fun b hb => ?_, q9⟩
          obtain ⟨o, e, _⟩ := T.obj _ _ st7 b hb
          exact (pin' b hb o e).2
        refine ⟨⟨i + 1, by omega, hlt, hG9⟩, fun s'' hre => ?_⟩
        exact seg_again rfl (ih (i + 1) s'' s'' (by omega) hlt (hG9.re hre))
      · rw [if_neg hbc] at q9 ⊢
        exact ⟨H9, I9', q9⟩
/-- the generator's first waking -/
theorem gen_first {X : Cx} {A : Around} {R : GenEnd} {Y : Protocol} {elt tg iter : Expr} {scope : Scope} {pos : Pos} {ge : Env} {fp : List Addr} {it : Addr} {tn : Nat → Heap → Prop} {J : It} {n : Nat} {s₀ s : Shared} (T : Turn X.prog X.w X.K tg J fp it tn) (st : tn 0 s.heap)
    (loop : Seg (model X.prog X.w) A R Y n s₀ (gLoop elt tg iter scope pos it ge) ((model X.prog X.w).den (gLoop elt tg iter scope pos it ge)) [] s) :
    Seg (model X.prog X.w) A R Y n s₀ (.compStart (gExp elt tg iter scope pos) 0 (.ref it) .none ge) ((model X.prog X.w).den (.compStart (gExp elt tg iter scope pos) 0 (.ref it) .none ge)) [] s := by
  show Seg _ A _ _ _ s₀ _ ((compStart (gExp elt tg iter scope pos) 0 (.ref it) .none ge).onRaise (leaving ge)) [] s
  unfold compStart
  rw [Sem.onRaise_eq_wrap]
  show Seg _ A _ _ _ s₀ _ ((ask >>= _).wrap _ _ _ _) [] s
  refine seg_bind_wrap (wpAny_askSetting ?_)
  split
  · exact seg_again rfl loop
  · refine seg_bind_wrap (wpAny_rule ?_)
    exact seg_bind_wrap (wpAny_standAt (seg_bind_wrap (T.self _ 0 s _ _ st (seg_again rfl loop))))
end GX

set_option Elab.async false
set_option linter.all false
set_option maxRecDepth 100000
set_option maxHeartbeats 4000000
namespace GX
open PySem PySem.Spec PyProof.Rows L2 Evl DL
theorem bare_set {s : Shared} {g : Nat} {x : GenState} (h : AllBare s.gens) (hx : x.bare = true) : AllBare (s.setGen g x).gens := fun y hy => by
  have hy' : y ∈ s.gens.setIfInBounds g x := hy
  obtain ⟨i, hi, rfl⟩ := Array.mem_iff_getElem.mp hy'
  have hi' : i < s.gens.size := by simpa using hi
  rw [Array.getElem_setIfInBounds hi']
  split
  · exact hx
  · exact h _ (Array.getElem_mem hi')
theorem re_set {s : Shared} {g : Nat} {x : GenState} (h : AllBare s.gens) (hx : x.bare = true) : Re s (s.setGen g x) := ⟨rfl, rfl, bare_set h hx⟩
/-- the generator at a stands before turn i -/
def At (X Xg : Cx) (A : Around) (gp : List (Addr × Obj)) (τ : L2.St) (fp : List Addr) (tn : Nat → Heap → Prop) (W : Nat → Hp → Prop) (c : Bool) (Qt : Bool → Hp → Prop) (N g i : Nat) (s : Shared) : Prop :=
  GS Xg gp τ fp tn W i s ∧ ∃ gs, s.gens[g]? = some gs ∧ ∀ s'', Re s s'' → gs.Goes (model X.prog X.w) A (gR Xg gp τ c Qt) (gY Xg gp τ fp tn W c Qt N) (N - i) (.send .none) s''
theorem next_at {X Xg : Cx} {A : Around} {gp : List (Addr × Obj)} {τ : L2.St} {fp : List Addr} {tn : Nat → Heap → Prop} {W : Nat → Hp → Prop} {c : Bool} {Qt : Bool → Hp → Prop} {N g i : Nat} {a : Addr} {s : Shared} {E : Value → Shared → Prop} {Q : Option Value → Shared → Prop}
    (hh : A.handled = none) (hroom : A.depth < recursionLimit) (hgen : ∀ s' H', Inv Xg gp τ H' s' → s'.heap.IsGen a g) (h : At X Xg A.in1 gp τ fp tn W c Qt N g i s) (hi : i ≤ N)
    (hN : ∀ s' H', Inv Xg gp τ H' s' → Qt c H' → Q none s') (hD : ∀ b s' H', b ≠ c → Inv Xg gp τ H' s' → Qt b H' → Q (some (.bool b)) s')
    (hG : ∀ i' s', i < i' → i' ≤ N → At X Xg A.in1 gp τ fp tn W c Qt N g i' s' → Q (some (.bool c)) s') :
    wpAny (model X.prog X.w) A (pyNext (.ref a)) Q E s := by
  obtain ⟨⟨H', I, st, n, w⟩, gs, hgs, hgo⟩ := h
  have hsz : g + 1 ≤ s.gens.size := by
    rcases Nat.lt_or_ge g s.gens.size with h' | h'
    · exact h'
    · rw [Array.getElem?_eq_none h'] at hgs
      cases hgs
  refine GenW.wpAny_gsz hsz ?_
  refine wpAny_mono (Q := fun r s' => g + 1 ≤ s'.gens.size → Q r s') ?_ (fun _ _ q => q) fun _ _ e _ => e
  refine wpAny_pyNext_genexpQ (P := fun _ _ s₁ => ∃ H', Inv Xg gp τ H' s₁ ∧ Qt c H') (n := N - i) hh I.nolimit hroom (hgen s H' I) hgs (hgo _ (re_set I.bare rfl)) (fun v s₁ gs' hb hv hz => ?_) (fun s₁ hp h' hk _ => ?_)
  · obtain ⟨b, rfl, hv⟩ := hv
    by_cases hbc : b = c
    · rw [if_pos hbc] at hv
      subst hbc
      obtain ⟨⟨i', hn, hi', hG1⟩, hkap⟩ := hv
      obtain ⟨H1, I1, _⟩ := id hG1
      cases hm : N - i with
      | zero =>
        rw [hm] at hkap
        exact (hkap s₁ ⟨rfl, rfl, I1.bare⟩).elim
      | succ m =>
        rw [hm] at hkap hn
        refine hG i' _ (by omega) hi' ⟨hG1.re (re_set I1.bare hb), gs', ?_, fun s'' hre => ?_⟩
        · have h1 : g < (s₁.setGen g gs').gens.size := hz
          have h2 : g < s₁.gens.size := by simpa [Shared.setGen] using h1
          exact setGen_self (gs := s₁.gens[g]) (Array.getElem?_eq_getElem h2)
        · have e : N - i' = m := by omega
          rw [e]
          exact hkap s'' ⟨hre.1, hre.2.1, hre.2.2⟩
    · rw [if_neg hbc] at hv
      obtain ⟨H1, I1, q1⟩ := hv
      exact hD b _ H1 hbc (inv_gens I1 (bare_set I1.bare hb)) q1
  · obtain ⟨H1, I1, q1⟩ := hp
    exact hN _ H1 (inv_gens (I1.kept (t' := s₁.toks) hk) (bare_set I1.bare rfl)) q1
/-- all's loop over it -/
theorem all_loop {X Xg : Cx} {A : Around} {gp : List (Addr × Obj)} {τ : L2.St} {fp : List Addr} {tn : Nat → Heap → Prop} {W : Nat → Hp → Prop} {Qt : Bool → Hp → Prop} {N g : Nat} {a : Addr} {R : Result → Shared → Prop}
    (hh : A.handled = none) (hroom : A.depth < recursionLimit) (hgen : ∀ s' H', Inv Xg gp τ H' s' → s'.heap.IsGen a g) (hR : ∀ b s' H', Inv Xg gp τ H' s' → Qt b H' → R (.ok (.ret (.bool b))) s') :
    ∀ (k i : Nat) (s : Shared), N - i = k → i ≤ N → At X Xg A.in1.in1 gp τ fp tn W true Qt N g i s → codeAny (model X.prog X.w) A (.builtin "all.loop" ⟨[.ref a], []⟩) R s := by
  intro k
  induction k using Nat.strongRecOn with
  | ind k ih =>
    intro i s hk hi hA
    refine codeAny_builtin F.entry_all_loop ?_
    rw [Around.under_plainId F.plain_all_loop _]
    show wpAny _ A.in1 (pyNext (.ref a) >>= _) _ _ s
    refine wpAny_bind (next_at (A := A.in1) hh hroom hgen hA hi (fun s' H' I q => ?_) (fun b s' H' hb I q => ?_) fun i' s' h1 h2 h3 => ?_)
    · exact wpAny_bind (wpAny_rule (wpAny_pure (hR true s' H' I q)))
    · have hb : b = false := by
        cases b with
        | true => exact absurd rfl hb
        | false => rfl
      subst hb
      refine wpAny_bind (wpAny_holding (wpAny_truthy_bool ?_))
      refine wpAny_bind (wpAny_letGo ?_)
      simp only [Bool.false_eq_true, if_false]
      exact wpAny_bind (wpAny_rule (wpAny_pure (hR false s' H' I q)))
    · refine wpAny_bind (wpAny_holding (wpAny_truthy_bool ?_))
      refine wpAny_bind (wpAny_letGo ?_)
      simp only [if_true]
      exact wpAny_pure ⟨plainId_quiet F.plain_all_loop _, ih (N - i') (by omega) i' s' rfl h2 h3⟩
end GX

set_option Elab.async false
set_option linter.all false
set_option maxRecDepth 100000
set_option maxHeartbeats 4000000
namespace GX
open PySem PySem.Spec PyProof.Rows L2 Evl DL
/-- all(e for t in it) (c true), any(..) (c false): N bounds the turns, W by the turn -/
def tQuant (c : Bool) (P : Addr) (wi : TI) (g : TG) (te : TE) (vs : List Nat) : TE := fun σ H Q => wi σ H fun J H1 => H1 P = some (TabE P) ∧ ∃ (N : Nat) (W : Nat → Hp → Prop), W 0 H1 ∧
  ∀ i H, W i H → (J.stop i H ∧ Q (.bl c) H) ∨ (J.go i H ∧ i < N ∧ ∀ x H', J.yld i H x H' → g x (wipe σ vs) H' fun σ2 H2 => wipe σ2 vs = wipe σ vs ∧ te σ2 H2 fun y H4 => ∃ b, y = .bl b ∧ if b = c then W (i + 1) H4 else Q (.bl b) H4)
theorem room_gen {A : Around} {k : Nat} {elt tg iter : Expr} {scope : Scope} {pos : Pos} {it : Addr} {ge : Env} (hr : Room (k + 1) A) : Room k (A.in1.in1.over (gLoop elt tg iter scope pos it ge) []) := by
  have h1 := hr.dp
  have h2 := hr.un
  refine ⟨hr.hd, ?_, ?_⟩
  · show A.depth + 0 + 1 + 3 * k + 5 < _
    omega
  · show A.units + 1 + 1 + 0 + 3 + 16 * k + 200 < _
    omega
theorem frames_gen {A : Around} {l : List Env} {elt tg iter : Expr} {scope : Scope} {pos : Pos} {it : Addr} {ge : Env} (h : A.frames = some l) : (A.in1.in1.over (gLoop elt tg iter scope pos it ge) []).frames = some (ge :: l) := by
  show pushEnvs [ge] (pushEnvs [] A.frames) = _
  rw [h]
  rfl
section
variable {X : Cx}
theorem gen_made {c P : Addr} {cc : Bool} {elt tg iter : Expr} {scope : Scope} {gpos : Pos} {own : List (Str × Nat)} {wi : TI} {g : TG} {te : TE} {k : Nat} {pins : List (Addr × Obj)} {σ : L2.St} {H : Hp} {s : Shared} {Q : VK} {Q' : Value → Shared → Prop}
    (hr : Room (k + 1) X.A) (hcm : X.calm = true) (hN : X.N.Nodup) (TB : GxR.TabB X.base X.mg c P) (hcode : X.env.code = .ref c) (G : GenOk X.N X.env.scope scope own) (hi : PI X tg iter wi)
    (hg : ∀ (A : Around) (s : Shared) (H : Hp) (cl : List (Str × Addr)) (C : Addr) (code : Value) (fp : List Addr), PG (gblk X A s H (genEnv scope cl C code builtinsNs X.env) fp) tg g)
    (he : ∀ (A : Around) (s : Shared) (H : Hp) (cl : List (Str × Addr)) (C : Addr) (code : Value) (fp : List Addr), Room k A → PE (gblk X A s H (genEnv scope cl C code builtinsNs X.env) fp) elt te)
    (hs : ∀ v, genFold iter X.env v = pure v) (I : Inv X pins σ H s) (h : tQuant cc P wi g te (own.map (·.2)) σ H Q)
    (hQ : ∀ (a : Addr) (s5 : Shared) (Xg : Cx) (gp : List (Addr × Obj)) (fp : List Addr) (tn : Nat → Heap → Prop) (W : Nat → Hp → Prop) (N gi : Nat), At X Xg X.A.in1.in1 gp (wipe σ (own.map (·.2))) fp tn W cc (fun b H' => Q (.bl b) H') N gi 0 s5 →
      (∀ s' H', Inv Xg gp (wipe σ (own.map (·.2))) H' s' → s'.heap.IsGen a gi) → (∀ s' H', Inv Xg gp (wipe σ (own.map (·.2))) H' s' → Inv X pins σ H' s') → Q' (.ref a) s5) :
    wpAny (model X.prog X.w) X.A (eval (gExp elt tg iter scope gpos) X.env) Q' X.xe s := by
  have hfree : ∀ y ∈ scope.names, y.2 = .free → ∃ c, X.env.cells.lookup y.1 = some c := fun y hy e => by
    rcases G.blk.free y hy e with k | k
    · exact I.ok.has _ (.inl k)
    · exact I.ok.has _ (.inr k)
  refine wpAny_GeneratorExp_make G.co (closure_ok hfree) G.cell G.dot G.blk.kind (by have := hr.dp; omega) ?_ hs
  refine thn (hi.run pins s σ H _ I h) fun xv s1 hx => thn hx fun itv s2 h2 => ?_
  obtain ⟨it, fp, tn, J, H2, rfl, I2, T, st2, f2, hP, N, W, w0, turn⟩ := h2
  refine ⟨I2.nolimit, ?_⟩
  obtain ⟨⟨ps, hPs, ht⟩, _⟩ := I2.hok P _ hP
  have cd : PySem.W.CodeHd s2.heap c P := TB.code.keeps fun b u e => I2.bk b u e
  have sz : ∀ b ∈ fp, b < s2.heap.objs.size := fun b hb => by
    obtain ⟨o, e, _⟩ := T.obj _ _ st2 b hb
    exact Heap.lt_size e
  have cont : ∀ (code : Value) (h3 : Heap) (tk : Nat), Inv X pins σ H2 { s2 with heap := h3, toks := tk } → tn 0 h3 → (∀ b ∈ fp, b < h3.objs.size) →
      wpAny (model X.prog X.w) X.A (builtinsFor X.env.globals X.env.builtins) (fun bi s₄ => ∀ h', h'.Ns s₄.heap.objs.size (fun y => if y = ".0" then some (.ref it) else none) → Heap.SameBut s₄.heap.objs.size (s₄.heap.push { cls := .type "frame", data := .dict #[] }) h' →
          Q' (.ref h'.objs.size) { s₄ with
            gens := s₄.gens.push (.fresh (.compStart (gExp elt tg iter scope gpos) 0 (.ref it) .none (genEnv scope (cloFrom X.env.cells scope.names []) s₄.heap.objs.size code bi X.env))),
            toks := s₄.toks + 1 + 1 + 1,
            heap := h'.push { cls := .type "generator", data := .fields #[.int s₄.gens.size 0, .str "<genexpr>" (s₄.toks + 1), .str (X.env.qual ++ "<genexpr>") (s₄.toks + 1 + 1)] } }) X.xe { s2 with heap := h3, toks := tk } := by
    intro code h3 tk I3 st3 sz3
    obtain ⟨bm, ob, e1, e2, e3, e4, e5, e6, e7, e8⟩ := TB.bm
    refine wpAny_builtinsFor (m := X.mg) (by rw [I3.ok.glob]; exact I3.mod.glob.keeps I3.bk) e1 e2 (I3.bk _ _ e5) e6 e7 e8 ?_
    intro h' hn' hs'
    generalize hs4 : ({ s2 with heap := h3, toks := tk } : Shared) = s4 at I3 hn' hs' ⊢
    have h34 : s4.heap = h3 := by rw [← hs4]
    have hsz : h'.objs.size = s4.heap.objs.size + 1 := by rw [hs'.1, Heap.size_push]
    generalize hgob : ({ cls := .type "generator", data := .fields #[.int s4.gens.size 0, .str "<genexpr>" (s4.toks + 1), .str (X.env.qual ++ "<genexpr>") (s4.toks + 1 + 1)] } : Obj) = gob
    have kp : ∀ b o, s4.heap.get? b = some o → (h'.push gob).get? b = some o := fun b o e => Heap.get?_push_of_some _ (hs'.extBut b o (Nat.ne_of_lt (Heap.lt_size e)) (Heap.get?_push_of_some _ e))
    have ha : (h'.push gob).get? h'.objs.size = some gob := Heap.get?_push_size _ (by rw [← hgob]; rfl)
    have bare5 : AllBare (s4.gens.push (.fresh (.compStart (gExp elt tg iter scope gpos) 0 (.ref it) .none (genEnv scope (cloFrom X.env.cells scope.names []) s4.heap.objs.size code builtinsNs X.env)))) := I3.bare.push rfl
    have Ig := gen_start (A := X.A.in1.in1.over (gLoop elt tg iter scope gpos it (genEnv scope (cloFrom X.env.cells scope.names []) s4.heap.objs.size code builtinsNs X.env)) []) (it := .ref it) (a := h'.objs.size) (gob := gob) (code := code) (fp := fp)
      (s5 := { s4 with gens := s4.gens.push (.fresh (.compStart (gExp elt tg iter scope gpos) 0 (.ref it) .none (genEnv scope (cloFrom X.env.cells scope.names []) s4.heap.objs.size code builtinsNs X.env))), toks := s4.toks + 1 + 1 + 1, heap := h'.push gob }) I3 G hN
      (fun b hb => ⟨f2 b hb, by rw [h34]; exact sz3 b hb⟩) hr.hd (frames_gen I3.ok.frames) (hn'.push _) kp rfl bare5 ha (fun v q => by rw [← hgob] at q; cases q) (by omega)
    have st5 : tn 0 (h'.push gob) := T.keep _ _ _ (h34 ▸ st3 : tn 0 s4.heap) fun b _ o e => kp b o e
    refine hQ h'.objs.size _ _ [(h'.objs.size, gob)] fp tn W N s4.gens.size ⟨⟨H2, Ig, st5, fun b hb => (f2 b hb).1, w0⟩, _, Array.getElem?_push_size .., fun s'' hre => ⟨rfl, ?_⟩⟩ (fun s' H' I' => ?_) fun s' H' I' => ?_
    · refine gen_first T (by rw [hre.1]; exact st5) (gen_seg (c := cc) (Qt := fun b H' => Q (.bl b) H') hcm G.co T (fun p hp b hb => ?_) (hg _ _ _ _ _ _ _) (he _ _ _ _ _ _ _ (room_gen hr)) turn N 0 s'' s'' (Nat.sub_zero _) (Nat.zero_le _) (GS.re ⟨H2, Ig, st5, fun b hb => (f2 b hb).1, w0⟩ hre))
      rw [List.mem_singleton] at hp
      subst hp
      have := sz3 b hb
      rw [← h34] at this
      exact Nat.ne_of_gt (by rw [hsz]; exact Nat.lt_succ_of_lt this)
    · have z := I'.pin (h'.objs.size, gob) (List.mem_append_right _ List.mem_cons_self)
      rw [← hgob] at z
      exact ⟨_, _, _, z.1, rfl, rfl, rfl⟩
    · exact I3.call' (ch := fp) I'.os I'.base I'.hok I'.bare fun b hb => ⟨(f2 b hb).2.2.2.1, (f2 b hb).2.1, (f2 b hb).2.2.2.2.1, (f2 b hb).2.2.2.2.2⟩
  cases hf : codeAmong gpos ps.toList with
  | none =>
    refine wpAny_genexprCodeX hcode (cd.code hPs ht) (cd.tab hPs) hf fun c' h' tk hx hge hlt hco' _ htab' _ => ?_
    obtain ⟨o1, vs, f1, tf, fl, tg', inF, tx, tt, op, _, _, _, _, _, _, _, _, _, htr, _⟩ := hco'
    have hk : ∀ b o, b ≠ P → s2.heap.get? b = some o → h'.get? b = some o := fun b o hb e => hx b o hb e
    have nP : ∀ b ∈ fp, b ≠ P := fun b hb z => by
      have := (f2 b hb).1
      rw [z, hP] at this
      cases this
    exact cont _ h' tk (tab_write I2 hP hk htab'.2 htr) (T.keep _ _ _ st2 fun b hb o e => hk b o (nP b hb) e) fun b hb => Nat.lt_of_lt_of_le (sz b hb) (Nat.le_trans hge (Nat.le_of_lt hlt))
  | some cv =>
    refine wpAny_genexprCode_hit hcode (cd.code hPs ht) hf ?_
    exact cont cv s2.heap s2.toks I2 st2 sz
/-- all(e for t in it) -/
theorem pe_allG {c P : Addr} {elt tg iter : Expr} {scope : Scope} {p pos gpos : Pos} {own : List (Str × Nat)} {wi : TI} {g : TG} {te : TE} {k : Nat}
    (hr : Room (k + 1) X.A) (hgl : Gl X "all") (hm : X.mg "all" = none) (hcm : X.calm = true) (hN : X.N.Nodup) (TB : GxR.TabB X.base X.mg c P) (hcode : X.env.code = .ref c) (G : GenOk X.N X.env.scope scope own) (hi : PI X tg iter wi)
    (hg : ∀ (A : Around) (s : Shared) (H : Hp) (cl : List (Str × Addr)) (C : Addr) (code : Value) (fp : List Addr), PG (gblk X A s H (genEnv scope cl C code builtinsNs X.env) fp) tg g)
    (he : ∀ (A : Around) (s : Shared) (H : Hp) (cl : List (Str × Addr)) (C : Addr) (code : Value) (fp : List Addr), Room k A → PE (gblk X A s H (genEnv scope cl C code builtinsNs X.env) fp) elt te)
    (hs : ∀ v, genFold iter X.env v = pure v := by intro _; rfl)
    (hst : starEach [gExp elt tg iter scope gpos] X.env = (false, eval (gExp elt tg iter scope gpos) X.env) :: starEach [] X.env := by rfl) :
    PE X (.Call (.Name "all" p) [gExp elt tg iter scope gpos] [] pos) (tQuant true P wi g te (own.map (·.2))) := by
  refine ⟨fun pins s σ H Q I h => ?_⟩
  refine wpAny_Call_Name_kw (ld_blt I hgl hm boot_all ?_)
  refine PyProof.Rows.callWith_builtin1 ?_ hst (by rfl)
  rw [hst]
  show wpAny _ _ (spliced ((false, eval (gExp elt tg iter scope gpos) X.env) :: backTo pos (starEach [] X.env))) _ _ s
  refine Calls.spliced_cons (gen_made (cc := true) hr hcm hN TB hcode G hi hg he hs I h fun a s5 Xg gp fp tn W N gi hat hgen hback => Calls.spliced_nil ?_)
  refine call_function_tree F.kind_all F.plain_all F.entry_all (F.args_all1 _) ?_
  unfold Builtin.«all»
  refine wpAny_bind (m := oneArg "all" _) (wpAny_pure ?_)
  obtain ⟨⟨H5, I5, _⟩, _⟩ := id hat
  refine wpAny_bind (wpAny_pyIter_gen (hgen s5 H5 I5) ?_)
  refine wpAny_pure ⟨plainId_quiet F.plain_all_loop _, all_loop (A := X.A) hr.hd (by have := hr.dp; omega) hgen (fun b s' H' I' q => ?_) N 0 s5 (Nat.sub_zero _) (Nat.zero_le _) hat⟩
  exact ⟨.bl b, H', hback s' H' I', rfl, q⟩
end
end GX

set_option Elab.async false
set_option linter.all false
set_option maxRecDepth 100000
set_option maxHeartbeats 4000000
namespace GX
open PySem PySem.Spec PyProof.Rows L2 Evl DL

/-! ### tables tracked as tables, or whatever they hold -/
def reT (Ps : List Addr) (H : Hp) : Hp := fun b => if b ∈ Ps then some (TabE b) else H b
theorem reT_in {Ps : List Addr} {H : Hp} {b : Addr} (h : b ∈ Ps) : reT Ps H b = some (TabE b) := if_pos h
theorem reT_out {Ps : List Addr} {H : Hp} {b : Addr} (h : b ∉ Ps) : reT Ps H b = H b := if_neg h
/-- back: what the tables hold in the heap h -/
def tblOf (h : Heap) (b : Addr) : HO := match h.get? b with
  | some o => (match o.data with
    | .fields ps => .tbl ps
    | _ => .tbl #[])
  | none => .tbl #[]
def deT (Ps : List Addr) (h : Heap) (H : Hp) : Hp := fun b => if b ∈ Ps then some (tblOf h b) else H b
theorem deT_in {Ps : List Addr} {h : Heap} {H : Hp} {b : Addr} (e : b ∈ Ps) : deT Ps h H b = some (tblOf h b) := if_pos e
theorem deT_out {Ps : List Addr} {h : Heap} {H : Hp} {b : Addr} (e : b ∉ Ps) : deT Ps h H b = H b := if_neg e
def spT (Ps : List Addr) (sp : Sp) : Sp := fun vs H Q _ => (∀ b ∈ Ps, H b = some (.tbl #[])) ∧ sp vs (reT Ps H) (fun v H' => (∀ b ∈ Ps, H' b = some (TabE b)) ∧ ∀ Hb, Q v Hb) fun _ _ _ => False
theorem tblOf_eq {h : Heap} {b : Addr} {ps : Array Value} (e : h.get? b = some { cls := .none, data := .fields ps }) : tblOf h b = .tbl ps := by
  unfold tblOf
  rw [e]
theorem retrack {P : Program} {w : World} {K : PySem.W.Frag} {mg : Str → Option Value} {base : Heap} {k : Nat} {f : Addr} {fd : FuncData} {qs : List Str} {sp : Sp} {Ps : List Addr} (F : FnOk P w K mg base CX0 k f fd qs sp) : FnOk P w K mg base CX0 k f fd qs (spT Ps sp) := by
  refine ⟨fun vs H Q E h => F.len _ _ _ _ h.2, fun A outer s H args us vs Q E hr e0 hb hv hsp => ?_⟩
  obtain ⟨hH, hsp⟩ := hsp
  have out : ∀ b, H b = none → b ∉ Ps := fun b e z => by
    rw [hH b z] at e
    cases e
  have outT : ∀ b xs, H b = some (.tup xs) → b ∉ Ps := fun b xs e z => by
    rw [hH b z] at e
    cases e
  have outO : ∀ b x, H b = some (.own x) → b ∉ Ps := fun b x e z => by
    rw [hH b z] at e
    cases e
  have e1 : Env0 P w K mg base A outer s (reT Ps H) := by
    refine ⟨e0.frames, e0.mod, fun b o e => ⟨(e0.bs b o e).1, ?_⟩, e0.bsz, e0.funs, fun b hb => ?_, fun b u e => ?_, e0.bare⟩
    · rw [reT_out (out b (e0.bs b o e).2)]
      exact (e0.bs b o e).2
    · rw [reT_out (out b (e0.frf b hb))]
      exact e0.frf b hb
    · by_cases hbP : b ∈ Ps
      · rw [reT_in hbP] at e
        cases e
        have q : s.heap.get? b = some { cls := .none, data := .fields #[] } := e0.hok b _ (hH b hbP)
        exact tab_ok q True.intro
      · rw [reT_out hbP] at e
        exact (e0.hok b u e).stay (fun _ _ _ q => q) (fun c q => by rw [reT_out (outO c _ q)]; exact q) fun c xs q => by rw [reT_out (outT c _ q)]; exact q
  refine codeAny_mono (F.run A outer s (reT Ps H) args us vs _ _ hr e1 hb hv hsp) fun r s' h => ?_
  cases r with
  | error e => exact h
  | ok fl =>
    cases fl with
    | next => exact h
    | brk => exact h
    | cont => exact h
    | ret u =>
      obtain ⟨v, H1, os, bare, un, hok, rv, hT, hq⟩ := h
      have tabs : ∀ b ∈ Ps, ∃ ps, s'.heap.get? b = some { cls := .none, data := .fields ps } := fun b hb => by
        obtain ⟨⟨ps, e, _⟩, _⟩ := hok b _ (hT b hb)
        exact ⟨ps, e⟩
      refine ⟨v, deT Ps s'.heap H1, os, bare, ⟨fun b o e n hb hx => ?_, fun b o e n hb hx => ?_, fun b o e n hx => ?_, fun b o e hx => un.there b o e hx, fun b xs e => ?_, fun b o u e => ?_, fun b ps e => ?_⟩, fun b u e => ?_, rv, hq _⟩
      · exact un.keep b o e (by rw [reT_out (out b n)]; exact n) hb hx
      · exact un.slot b o e (by rw [reT_out (out b n)]; exact n) hb hx
      · rw [deT_out (out b n)]
        exact un.free b o e (by rw [reT_out (out b n)]; exact n) hx
      · rw [deT_out (outT b xs e)]
        exact un.tups b xs (by rw [reT_out (outT b xs e)]; exact e)
      · have z : b ∉ Ps := fun z => by
          rw [hH b z] at e
          cases e
        rw [deT_out z]
        exact un.frzs b o u (by rw [reT_out z]; exact e)
      · by_cases z : b ∈ Ps
        · rw [hH b z] at e
          cases e
          obtain ⟨qs, hqs⟩ := tabs b z
          exact ⟨qs, by rw [deT_in z, tblOf_eq hqs]; simp⟩
        · rw [deT_out z]
          exact un.tbls b ps (by rw [reT_out z]; exact e)
      · by_cases z : b ∈ Ps
        · rw [deT_in z] at e
          obtain ⟨qs, hqs⟩ := tabs b z
          rw [tblOf_eq hqs] at e
          cases e
          exact hqs
        · rw [deT_out z] at e
          have no1 : ∀ c x, H1 c = some (.own x) → c ∉ Ps := fun c x q z => by
            rw [hT c z] at q
            cases q
          have no2 : ∀ c xs, H1 c = some (.tup xs) → c ∉ Ps := fun c x q z => by
            rw [hT c z] at q
            cases q
          exact (hok b u e).stay (fun _ _ _ q => q) (fun c q => by rw [deT_out (no1 c _ q)]; exact q) fun c xs q => by rw [deT_out (no2 c _ q)]; exact q
/-- the law's end, with tables: xs, the defs' names with their code objects and tables -/
theorem walk_ofX {l : PySem.W.OpenLaw} {n k : Nat} {q : Program} {loose : List Str} {XP : (Str → Option Value) → Heap → Prop} {YP : World → Heap → Prop} {d : DefRec} {K : Params → PySem.W.Frag} {x : Str}
    (hn : l.most = some n) (hn2 : n ≤ sizeLine) (hdf : d.params.defaults = []) (hr : Room k callerA) (hY : ∀ (w : World) (h : Heap), YP w h → (K w.params).In h)
    (F : ∀ (w : World) (mg : Str → Option Value) (fa : Addr) (h : Heap), (K w.params).In h → h.Ns mainGlobals mg → mg d.name = some (.ref fa) →
      ∃ (xs : List (Str × Addr × Addr)) (fd : FuncData) (sp : Sp), (∀ p ∈ xs, ((recsOf q).any fun e => e.name == p.1) = true ∧ PySem.W.tabIn (K w.params) p.1 = some p.2 ∧ (K w.params).lookup p.2.2 = none) ∧
        (∀ (s : Shared) (u : Value), BindsTo s fd ⟨[u], []⟩ [(x, u)]) ∧
        (∀ (H : Hp) (a : Addr) (ns : List Int), ns.length ≤ n → (∀ p ∈ xs, H p.2.2 = some (TabE p.2.2)) → SqL (K w.params) H a (ns.map V.int) → sp [.ref a] H (fun v H' => (∀ p ∈ xs, H' p.2.2 = some (TabE p.2.2)) ∧ v = .bl true) fun _ _ _ => False) ∧
        ∀ base : Heap, (K w.params).In base → base.Ns mainGlobals mg → (∀ p ∈ xs, GxR.TabB base mg p.2.1 p.2.2) → FnOk l.prog w (K w.params) mg base CX0 k fa fd [x] sp) :
    PySem.W.WalkO q loose XP YP l.row.toRowW d [] (fun f vs => PySem.call f vs) := by
  refine Att.attach_callB hn hdf fun w s₀ s₁ mg mb fa o pm cd doc a vs ns G Y ho hd hcd hmg hobj hints hlen hbits hg => ?_
  have KX := hY w _ Y
  obtain ⟨xs, fd, sp, hx, hb, hsp, hF⟩ := F w mg fa _ KX G.T.g hmg
  have tabs : ∀ p ∈ xs, PySem.W.CodeHd s₁.heap p.2.1 p.2.2 ∧ s₁.heap.get? p.2.2 = some (PySem.W.tabObj #[]) := fun p hp => by
    obtain ⟨h1, h2, _⟩ := hx p hp
    cases hfd : (recsOf q).find? (fun e => e.name == p.1) with
    | none =>
      obtain ⟨e, he, hn⟩ := List.any_eq_true.mp h1
      exact absurd hn (List.find?_eq_none.mp hfd e he)
    | some d' => exact PySem.W.tab_of G.T KX hfd h2
  have mem2 : ∀ b, b ∈ xs.map (fun p => p.2.2) ↔ ∃ p ∈ xs, p.2.2 = b := fun b => List.mem_map
  refine LamX.law_callTs (cs := xs.map (·.2)) (CX := CX0) (sp := spT (xs.map (fun p => p.2.2)) sp) KX G.T.g G.T.b G.T.builtins G.T.nolimit hg (fun p hp => ?_) (fun p hp => ?_) (fun p hp => ?_) G.T.bmain hobj hints (Nat.le_trans hlen hn2) hr (fun base KB NB hTB => retrack (hF base KB NB fun p hp => ?_)) hb (fun H hH hS => ⟨fun b hbb => ?_, ?_⟩) fun H e s' h => h
  · obtain ⟨p', hp', rfl⟩ := List.mem_map.mp hp
    exact (tabs p' hp').2
  · obtain ⟨p', hp', rfl⟩ := List.mem_map.mp hp
    exact (hx p' hp').2.2
  · obtain ⟨p', hp', rfl⟩ := List.mem_map.mp hp
    exact (tabs p' hp').1
  · have z := hTB p.2 (List.mem_map.mpr ⟨p, hp, rfl⟩)
    exact ⟨z.code, z.bm, z.gP⟩
  · obtain ⟨p, hp, rfl⟩ := (mem2 b).mp hbb
    exact hH p.2 (List.mem_map.mpr ⟨p, hp, rfl⟩)
  · have inT : ∀ p ∈ xs, p.2.2 ∈ xs.map (fun p => p.2.2) := fun p hp => List.mem_map.mpr ⟨p, hp, rfl⟩
    have hnT : ∀ u, (∀ ps, u ≠ .tbl ps) → H a = some u → a ∉ xs.map (fun p => p.2.2) := fun u hu e z => by
      obtain ⟨p, hp, rfl⟩ := (mem2 a).mp z
      rw [hH p.2 (List.mem_map.mpr ⟨p, hp, rfl⟩)] at e
      cases e
      exact hu _ rfl
    have hS' : SqL (K w.params) (reT (xs.map (fun p => p.2.2)) H) a (ns.map V.int) := by
      rcases hS with (e | ⟨o', e⟩) | e
      · exact .inl (.inl (by rw [reT_out (hnT _ (fun ps z => by cases z) e)]; exact e))
      · exact .inl (.inr ⟨o', by rw [reT_out (hnT _ (fun ps z => by cases z) e)]; exact e⟩)
      · exact .inr e
    have z := hsp (reT (xs.map (fun p => p.2.2)) H) a ns hlen (fun p hp => reT_in (inT p hp)) hS'
    refine cast ?_ z
    congr 1
    funext v H'
    refine propext ⟨fun ⟨h1, h2⟩ => ⟨fun b hb => ?_, fun _ => h2⟩, fun ⟨h1, h2⟩ => ⟨fun p hp => h1 _ (inT p hp), h2 H'⟩⟩
    obtain ⟨p, hp, rfl⟩ := (mem2 b).mp hb
    exact h1 p hp
end GX

set_option Elab.async false
set_option linter.all false
set_option maxRecDepth 100000
set_option maxHeartbeats 4000000
namespace GX
open PySem PySem.Spec PyProof.Rows L2 Evl DL

/-! ### all(..) by data -/
section
variable {K : PySem.W.Frag} {σ : L2.St} {H : Hp} {te : TE} {wi : TI} {g : TG}
theorem ed_allG {P : Addr} {vs : List Nat} {ds : List PyData} (f : PyData → Bool) (hw : EvW K wi σ H ds) (hP : H P = some (TabE P))
    (hs : ∀ (i : Nat) (d : PyData) (x : V) (H1 : Hp), Ex H H1 → ds[i]? = some d → Dp K H1 x d → ∃ σ2, TgD g x (wipe σ vs) H1 σ2 ∧ wipe σ2 vs = wipe σ vs ∧ EvD K te σ2 H1 (.bool (f d))) :
    EvD K (tQuant true P wi g te vs) σ H (.bool (ds.all f)) := fun H0 e0 Q q => hw H0 e0 _ fun J H1 e1 wk => by
  obtain ⟨G, Y, wlk, hG, hY⟩ := wk
  refine ⟨(e0.trans e1) _ _ hP, ds.length, fun i H' => Ex H1 H' ∧ i ≤ ds.length ∧ (ds.take i).all f = true, ⟨Ex.refl H1, Nat.zero_le _, rfl⟩, fun i H' hW => ?_⟩
  obtain ⟨ex, hi, hall⟩ := hW
  by_cases hlt : i < ds.length
  · refine .inr ⟨wlk.goes i H' hlt (hG H' ex), hlt, fun x H2 hy => ?_⟩
    obtain ⟨ey, d, hd, hdp⟩ := hY i H' x H2 ex (wlk.yields i H' x H2 hlt (hG H' ex) hy)
    obtain ⟨σ2, tg, hwp, hev⟩ := hs i d x H2 ((e0.trans e1).trans (ex.trans ey)) hd hdp
    refine tg H2 (Ex.refl H2) _ ⟨hwp, hev H2 (Ex.refl H2) _ fun v H3 e3 hv => ⟨f d, dp_bool hv, ?_⟩⟩
    by_cases hf : f d = true
    · rw [if_pos hf]
      refine ⟨(ex.trans ey).trans e3, hlt, ?_⟩
      rw [List.take_add_one, hd, List.all_append, hall]
      simp [hf]
    · rw [if_neg hf]
      have hff : f d = false := by simpa using hf
      have hz : ds.all f = false := by
        rw [List.all_eq_false]
        exact ⟨d, List.mem_of_getElem? hd, hf⟩
      have hq := q (.bl (ds.all f)) H3 (e1.trans ((ex.trans ey).trans e3)) (.bl _)
      rw [hz] at hq
      rw [hff]
      exact hq
  · have hin : i = ds.length := by omega
    subst hin
    refine .inl ⟨wlk.stops H' (hG H' ex), ?_⟩
    rw [List.take_of_length_le (Nat.le_refl _)] at hall
    have hq := q (.bl (ds.all f)) H' (e1.trans ex) (.bl _)
    rw [hall] at hq
    exact hq
end
/-! ### a def whose code object is known -/
structure FunC (K : PySem.W.Frag) (x qual : Str) (st : Stmt) (f : Addr) (fd : FuncData) (c : Addr) : Prop where
  ex : ∃ (oc : Value) (od : Option Addr) (kV doc pm : Value) (an : Option Addr) (ct : Value) (osl : Array (Option Value)),
    fd = PySem.W.fnOf x qual (defArgs st) (defBody st) (defScope st) .none kV doc pm an (.ref c) ct ∧ K.lookup f = some ⟨oc, od, .func fd, osl⟩ ∧ PySem.W.codeIn K (.ref c) qual = true
  kp : PySem.W.keepIn K (.ref f) = true
section
variable {P : Program} {w : World} {K : PySem.W.Frag} {mg : Str → Option Value} {base : Heap} {x qual : Str} {st : Stmt} {f c : Addr} {fd : FuncData}
theorem FunC.fn (F : FunC K x qual st f fd c) : Fun K x qual st f fd := by
  obtain ⟨⟨oc, od, kV, doc, pm, an, ct, osl, h1, h2, h3⟩, kp⟩ := F
  exact ⟨⟨oc, od, kV, doc, pm, an, .ref c, ct, osl, h1, h2, h3⟩, kp⟩
theorem FunC.ok {N ps : List Str} {k : Nat} {sp : Sp} (F : FunC K x qual st f fd c) (S : FnScope N ps (defScope st)) (len : ∀ vs H Q E, sp vs H Q E → vs.length = ps.length)
    (hbody : ∀ (A : Around) (outer : List Env) (s : Shared) (H : Hp) (vs : List V) (Q : VK) (E : XK), Room k (A.deeper (envOfC qual (defScope st) s.heap.objs.size f (.ref c))) → sp vs H Q E →
      ∃ t, PSs (cxOf CX0 P w K mg base N qual (defScope st) f (.ref c) A outer s H E).nox (defBody st) t ∧ t { nx := fun _ H' => Q .non H', rt := Q } (start N vs) H) : FnOk P w K mg base CX0 (k + 1) f fd ps sp := by
  obtain ⟨oc, od, kV, doc, pm, an, ct, osl, rfl, lk, hcd⟩ := F.ex
  refine fn_of lk hcd S len fun A outer s H vs Q E hr hsp => ?_
  obtain ⟨t, h1, h2⟩ := hbody A outer s H vs Q E hr hsp
  exact ⟨t, h1.nox, h2⟩
theorem func_mk {oc : Value} {od an : Option Addr} {osl : Array (Option Value)} {kV doc pm ct : Value} (l : K.lookup f = some ⟨oc, od, .func (PySem.W.fnOf x qual (defArgs st) (defBody st) (defScope st) .none kV doc pm an (.ref c) ct), osl⟩)
    (h : PySem.W.codeIn K (.ref c) qual = true) (k : PySem.W.keepIn K (.ref f) = true) : FunC K x qual st f (PySem.W.fnOf x qual (defArgs st) (defBody st) (defScope st) .none kV doc pm an (.ref c) ct) c := ⟨⟨oc, od, kV, doc, pm, an, ct, osl, rfl, l, h⟩, k⟩
end
end GX

set_option Elab.async false
set_option linter.all false
set_option maxRecDepth 100000
set_option maxHeartbeats 4000000
/-! for i, x in enumerate(t), t a tuple. -/
namespace GX
open PySem PySem.Spec PyProof.Rows L2 Evl DL
theorem enum_new1 {v : Value} {o : Obj} {HH : Heap → Prop} (B : Begins v o HH) :
    Meets (Builtin.«enumerate.__new__» ⟨[.type "enumerate", v], []⟩) (fun _ R s => HH s.heap ∧
      R (.ok (.ret (.ref (s.heap.push o).objs.size))) { s with heap := (s.heap.push o).push { cls := .type "enumerate", data := .fields #[.none, .bool false, .ref s.heap.objs.size, rawInt 0, .none, .none] } }) :=
  .of_wp fun prog w A R s hh => by
    obtain ⟨hp, gs, dr, tk, os⟩ := s
    obtain ⟨k1, kr⟩ := hh
    have sb := sub_enumerate
    have it1 : ∀ {A' : Around} {E : Value → Shared → Prop} {Q : Value → Shared → Prop}, Q (.ref hp.objs.size) ⟨hp.push o, gs, dr, tk, os⟩ → wpAny (model prog w) A' (pyIter v) Q E ⟨hp, gs, dr, tk, os⟩ :=
      fun kq => B.iter prog w _ _ ⟨hp, gs, dr, tk, os⟩ _ k1 kq
    wp_walk using it1
    refine wpAny_stack_any fun st => wpAny_pure ?_
    split
    · rename_i c _ _ _ _ _
      cases (c == Value.type "enumerate")
      · wp_walk using it1
        exact ⟨_, rfl, kr⟩
      · wp_walk using it1
        exact ⟨_, rfl, kr⟩
    · wp_walk using it1
      exact ⟨_, rfl, kr⟩
theorem call_enum1 {prog : Program} {w : World} {A : Around} {E : Value → Shared → Prop} {s : Shared} {v : Value} {o : Obj} {HH : Heap → Prop} {Q : Value → Shared → Prop} (B : Begins v o HH) (k1 : HH s.heap)
    (kq : ∀ h', IsEnum h' (s.heap.objs.size + 1) s.heap.objs.size 0 .none → h'.get? s.heap.objs.size = some o → h'.objs.size = s.heap.objs.size + 2 → (∀ b o, s.heap.get? b = some o → h'.get? b = some o) → Q (.ref (s.heap.objs.size + 1)) { s with heap := h' }) :
    wpAny (model prog w) A (call (.type "enumerate") [v]) Q E s := by
  refine callType_new F.called_enumerate (by decide) (F.typeCall_enumerate_1 _) (F.newCall_enumerate_1 _) (fun obj => F.args_object_init_2 obj _) F.entry_enumerate_new (enum_new1 B) ⟨k1, ?_⟩
  have sz1 : (s.heap.push o).objs.size = s.heap.objs.size + 1 := Heap.size_push ..
  show _ ∧ _
  rw [sz1]
  have isE : IsEnum ((s.heap.push o).push { cls := .type "enumerate", data := .fields #[.none, .bool false, .ref s.heap.objs.size, rawInt 0, .none, .none] }) (s.heap.objs.size + 1) s.heap.objs.size 0 .none := by
    have z := Heap.get?_push_size (s.heap.push o) (o := { cls := .type "enumerate", data := .fields #[.none, .bool false, .ref s.heap.objs.size, rawInt 0, .none, .none] }) rfl
    rw [sz1] at z
    exact z
  exact ⟨⟨_, isE, rfl⟩, kq _ isE (Heap.get?_push_of_some _ (Heap.get?_push_size _ B.free)) (by rw [Heap.size_push, sz1]) fun b o x => Heap.get?_push_of_some _ (Heap.get?_push_of_some _ x)⟩
/-- turn i: a new pair of i and the i-th item -/
def IteT (K : PySem.W.Frag) (a : Addr) : It :=
  ⟨fun i H => ∃ (xs : List V) (x : V), SqT K H a xs ∧ xs[i]? = some x, fun i H v H' => ∃ T x, v = .ref T ∧ H T = none ∧ H' = upd H T (.tup [.int (i : Nat), x]) ∧ ∀ xs, SqT K H a xs → xs[i]? = some x, fun i H => ∃ xs : List V, SqT K H a xs ∧ xs.length ≤ i⟩
theorem turn_enumT {P : Program} {w : World} {K : PySem.W.Frag} {elts : List Expr} {kk : Nat} {tpos : Pos} (a e it : Addr) (hai : a ≠ it) (hae : e ≠ a) :
    Turn P w K (.Tuple elts kk tpos) (IteT K a) [e, it] e (fun i h => (∃ old, IsEnum h e it ((i : Nat) : Int) old) ∧ h.IsTupleIter it a i ∧ e ≠ it) where
  mem := by simp
  obj := fun i h st b hb => by
    obtain ⟨⟨old, he⟩, ⟨o, ho, _, hd⟩, _⟩ := st
    rcases List.mem_cons.mp hb with z | z
    · subst z
      exact ⟨_, he, fun v q => nomatch q⟩
    · rw [List.mem_singleton] at z
      subst z
      exact ⟨o, ho, fun v q => by rw [hd] at q; cases q⟩
  keep := fun i h h' st k => by
    obtain ⟨⟨old, he⟩, hi, hne⟩ := st
    exact ⟨⟨old, k e (by simp) _ he⟩, hi.at fun o q => k it (by simp) o q, hne⟩
  item := by
    intro X hP hw hK hc i pins s σ H E I hf st hg
    subst hP hw hK
    obtain ⟨⟨old, he⟩, hit, hne⟩ := st
    obtain ⟨xs, x, hq, hx⟩ := hg
    obtain ⟨its, rv, p, hz⟩ := I.tuple hq
    obtain ⟨u, hu, ru⟩ := rv.get hx
    have hlt : i < its.toArray.size := by
      have := (List.getElem?_eq_some_iff.mp hu).1
      simpa using this
    have hel : e < s.heap.objs.size := Heap.lt_size he
    have hil : it < s.heap.objs.size := by
      obtain ⟨_, q, _⟩ := hit
      exact Heap.lt_size q
    have hTp : s.heap.IsTuple a its.toArray := p
    refine wpAny_pyNext_enum_itemD (Draws.tuple (A := X.A.in1) (I.ok.hd hc) it a hai its.toArray) he ⟨hit, hTp⟩ hlt hne (by simp [hne, hae]) fun y h' tk hy hout hst' hT hsz hk => ?_
    have ey : y = u := by
      have h2 : its.toArray[i]? = some u := by simpa using hu
      rw [h2] at hy
      exact (Option.some.inj hy).symm
    subst ey
    refine ⟨_, rfl, wpAny_letOwnedTupleGo_enum (s := { s with heap := h', toks := tk + 1 }) hout fun h'' he' sb => ?_⟩
    have hT2 : h''.get? s.heap.objs.size = some { cls := .type "tuple", data := .seq #[.int i tk, y] } := (sb.2 _ (Nat.ne_of_gt hel)).trans hT
    have new : ObjOk X.prog X.w (upd H s.heap.objs.size (.tup [.int (i : Nat), x])) h'' s.heap.objs.size (.tup [.int (i : Nat), x]) :=
      ⟨by show 2 ≤ sizeLine; decide, [.int i tk, y], .cons ⟨_, rfl⟩ (.cons ru .nil), ⟨_, hT2, rfl, _, rfl⟩⟩
    have I1 : Inv X pins σ (upd H s.heap.objs.size (.tup [.int (i : Nat), x])) { s with heap := h'', toks := tk + 1 } :=
      I.turnedNew (ch := [e, it]) (fun b ob hb q => (sb.2 b (fun z => hb (by simp [z]))).trans (hk b ob (fun z => hb (by simp [z])) (fun z => hb (by simp [z])) q)) hf (Nat.le_refl _) new
    refine ⟨.ref s.heap.objs.size, _, I1, rfl, ⟨_, x, rfl, I.hok.fresh (Nat.le_refl _), rfl, fun ys hy => by rw [I.tuple_inj hy hq]; exact hx⟩, ⟨⟨y, ?_⟩, hst'.1.at fun o q => (sb.2 it (Ne.symm hne)).trans q, hne⟩, fun b hb => ?_⟩
    · have e1 : ((i + 1 : Nat) : Int) = (i : Int) + 1 := by omega
      rw [e1]
      exact he'
    · have hb' : b < s.heap.objs.size := by
        rcases List.mem_cons.mp hb with z | z
        · rw [z]
          exact hel
        · rw [List.mem_singleton.mp z]
          exact hil
      rw [upd_ne (Nat.ne_of_lt hb')]
      exact (hf b hb).1
  done := by
    intro X hP hw hK hc i pins s σ H E I hf st hg
    subst hP hw hK
    obtain ⟨⟨old, he⟩, hit, hne⟩ := st
    obtain ⟨xs, hq, hx⟩ := hg
    obtain ⟨its, rv, p, hz⟩ := I.tuple hq
    have hTp : s.heap.IsTuple a its.toArray := p
    obtain ⟨f0, f1, f2, f3, f4, f5⟩ := hf it (by simp)
    have D : Draws X.prog X.w X.A.in1 it [it, a] i (fun _ _ => False) (fun j h => j = i ∧ h.IsTupleIter it a i ∧ h.IsTuple a its.toArray) :=
      { live := fun _ _ st => by
          obtain ⟨_, ⟨o, ho, _⟩, _⟩ := st
          exact ⟨o, ho⟩
        frame := fun _ _ _ st hk => ⟨st.1, st.2.1.at fun o e => hk it (by simp) o e, st.2.2.at fun o e => hk a (by simp) o e⟩
        item := fun j s Q E hj st _ => absurd st.1 (Nat.ne_of_lt hj)
        done := fun s Q E st hE => wpAny_nextOf_tuple_end (I.ok.hd hc) st.2.1 st.2.2 (by have := rv.length; simp; omega) hE }
    exact wpAny_pyNext_enum_endD D he ⟨rfl, hit, hTp⟩ fun h' eb => ⟨rfl, I.turned (t' := s.toks) (fun b o hb q => eb b o hb q) f0 f1 f3 f4 f5⟩
  self := fun A i s Q E st h => by
    obtain ⟨⟨_, he⟩, _⟩ := st
    exact wpAny_pyIter_enum he h
def iEnumT (K : PySem.W.Frag) (ta : TA) : TI := fun σ H R => ta σ H fun vs H1 => ∃ a xs, vs = [.ref a] ∧ SqT K H1 a xs ∧ R (IteT K a) H1
theorem pi_enumT {X : Cx} {e : Expr} {ta : TA} {p pos tpos : Pos} {elts : List Expr} {kk : Nat} (hg : Gl X "enumerate") (hm : X.mg "enumerate" = none) (ha : PA X [e] ta) (hs : starEach [e] X.env = [(false, eval e X.env)] := by rfl) :
    PI X (.Tuple elts kk tpos) (.Call (.Name "enumerate" p) [e] [] pos) (iEnumT X.K ta) := by
  refine ⟨fun pins s σ H R I h => ?_⟩
  refine Call_ (ld_blt I hg hm boot_enumerate (PyProof.Rows.callWith_type1 (thn (ha.run pos pins s σ H _ I h) fun us s1 ⟨vs, H1, I1, r1, q1⟩ => ?_) hs rfl))
  obtain ⟨a, xs, ex, hq, q⟩ := q1
  subst ex
  cases r1 with
  | cons r rr =>
    cases rr
    cases r
    obtain ⟨its, rv, p', hz⟩ := I1.tuple hq
    have hTp : s1.heap.IsTuple a its.toArray := p'
    have hal : a < s1.heap.objs.size := by
      obtain ⟨o, ho, _⟩ := hTp
      exact Heap.lt_size ho
    refine call_enum1 (begins_tuple a its.toArray) hTp fun h' he hit hsz hk => wpAny_pyIter_enum he ?_
    have I2 : Inv X pins σ H1 { s1 with heap := h' } := I1.kept (t' := s1.toks) hk
    refine ⟨s1.heap.objs.size + 1, [s1.heap.objs.size + 1, s1.heap.objs.size], _, _, H1, rfl, I2, turn_enumT a (s1.heap.objs.size + 1) s1.heap.objs.size (Nat.ne_of_lt hal) (Nat.ne_of_gt (Nat.lt_succ_of_lt hal)), ⟨⟨.none, he⟩, ⟨_, hit, rfl, rfl⟩, Nat.succ_ne_self _⟩, fun b hb => ?_, q⟩
    rcases List.mem_cons.mp hb with z | z
    · rw [z]
      exact I1.fpOk (Nat.le_succ _) (I1.hok.fresh (Nat.le_succ _))
    · rw [List.mem_singleton.mp z]
      exact I1.fpOk (Nat.le_refl _) (I1.hok.fresh (Nat.le_refl _))
end GX

set_option Elab.async false
set_option linter.all false
set_option maxRecDepth 100000
set_option maxHeartbeats 4000000
/-! Things of any kind, and what is asked of them. -/
namespace YA
open PySem PySem.Spec PyProof.Rows L2 Evl DL GX

inductive Od where
  | lst | dct
inductive Th where
  | none | bool (b : Bool) | int (i : Int) | str (s : Str) | tup (ts : List Th) | odd (o : Od)
def Th.ty : Th → String
  | .none => "NoneType"
  | .bool _ => "bool"
  | .int _ => "int"
  | .str _ => "str"
  | .tup _ => "tuple"
  | .odd .lst => "list"
  | .odd .dct => "dict"
mutual
/-- the value bears the thing; odd ones are lists and dicts -/
inductive Rp (K : PySem.W.Frag) (H : Hp) : V → Th → Prop
  | non : Rp K H .non .none
  | bl (b : Bool) : Rp K H (.bl b) (.bool b)
  | int (i : Int) : Rp K H (.int i) (.int i)
  | str (x : Str) : Rp K H (.str x) (.str x)
  | tup {a : Addr} {xs : List V} {ts : List Th} : SqT K H a xs → RpAll K H xs ts → Rp K H (.ref a) (.tup ts)
  | lst {a : Addr} {xs : List V} : SqL K H a xs → Rp K H (.ref a) (.odd .lst)
  | dct {a : Addr} {kvs : List (Key × V)} : H a = some (.dK kvs) → Rp K H (.ref a) (.odd .dct)
  | dctT {a : Addr} {kvs : List (List Key × V)} : H a = some (.dT kvs) → Rp K H (.ref a) (.odd .dct)
inductive RpAll (K : PySem.W.Frag) (H : Hp) : List V → List Th → Prop
  | nil : RpAll K H [] []
  | cons {v : V} {vs : List V} {t : Th} {ts : List Th} : Rp K H v t → RpAll K H vs ts → RpAll K H (v :: vs) (t :: ts)
end
mutual
theorem rp_mono {K : PySem.W.Frag} {H H' : Hp} (e : Ex H H') : ∀ {t : Th} {v : V}, Rp K H v t → Rp K H' v t
  | .none, _, h => by cases h; exact .non
  | .bool b, _, h => by cases h; exact .bl b
  | .int i, _, h => by cases h; exact .int i
  | .str x, _, h => by cases h; exact .str x
  | .tup ts, _, h => by
    cases h with
    | tup hs ha => exact .tup (ex_t e hs) (ra_mono e ha)
  | .odd T, _, h => by
    cases h with
    | lst hs => exact .lst (ex_l e hs)
    | dct hs => exact .dct (e _ _ hs)
    | dctT hs => exact .dctT (e _ _ hs)
theorem ra_mono {K : PySem.W.Frag} {H H' : Hp} (e : Ex H H') : ∀ {ts : List Th} {vs : List V}, RpAll K H vs ts → RpAll K H' vs ts
  | [], _, h => by cases h; exact .nil
  | t :: ts, _, h => by
    cases h with
    | cons h1 h2 => exact .cons (rp_mono e h1) (ra_mono e h2)
end
section
variable {K : PySem.W.Frag} {H H' : Hp}
theorem rp_int {v : V} {i : Int} (h : Rp K H v (.int i)) : v = .int i := by cases h; rfl
theorem rp_tup {v : V} {ts : List Th} (h : Rp K H v (.tup ts)) : ∃ a xs, v = .ref a ∧ SqT K H a xs ∧ RpAll K H xs ts := by
  cases h with
  | tup hs ha => exact ⟨_, _, rfl, hs, ha⟩
theorem ra_len : ∀ {ts : List Th} {vs : List V}, RpAll K H vs ts → vs.length = ts.length
  | [], _, h => by cases h; rfl
  | t :: ts, _, h => by
    cases h with
    | cons h1 h2 => rw [List.length_cons, List.length_cons, ra_len h2]
theorem ra_get : ∀ {ts : List Th} {vs : List V} {i : Nat} {v : V}, RpAll K H vs ts → vs[i]? = some v → ∃ t, ts[i]? = some t ∧ Rp K H v t
  | [], _, i, v, h, e => by cases h; simp at e
  | t :: ts, _, i, v, h, e => by
    cases h with
    | cons h1 h2 =>
      cases i with
      | zero => simp at e; subst e; exact ⟨t, rfl, h1⟩
      | succ i => simp at e; simpa using ra_get h2 e
theorem ra_at : ∀ {ts : List Th} {vs : List V} {i : Nat} {t : Th}, RpAll K H vs ts → ts[i]? = some t → ∃ v, vs[i]? = some v ∧ Rp K H v t
  | [], _, i, t, h, e => by simp at e
  | t :: ts, _, i, t', h, e => by
    cases h with
    | cons h1 h2 =>
      cases i with
      | zero => simp at e; subst e; exact ⟨_, rfl, h1⟩
      | succ i => simp at e; simpa using ra_at h2 e
/-- its type, as isinstance sees it -/
theorem rp_ty {v : V} {t : Th} (h : Rp K H v t) : TyX K H v (.type t.ty) ∧ t.ty ∈ ["NoneType", "bool", "int", "str", "tuple", "list", "dict"] := by
  cases h with
  | non => exact ⟨.base .non, by decide⟩
  | bl b => exact ⟨.base (.bl b), by simp [Th.ty]⟩
  | int i => exact ⟨.base (.int i), by simp [Th.ty]⟩
  | str x => exact ⟨.base (.str x), by simp [Th.ty]⟩
  | tup hs _ =>
    refine ⟨?_, by simp [Th.ty]⟩
    rcases hs with (h | ⟨o, h⟩) | ⟨o, its, n, hk, hc, _⟩
    · exact .base (.tup h)
    · exact .fTuple h
    · exact .kTuple hk hc
  | lst hs =>
    refine ⟨?_, by simp [Th.ty]⟩
    rcases hs with (h | ⟨o, h⟩) | ⟨o, its, n, hk, hc, _⟩
    · exact .base (.lst h)
    · exact .base (.frz h)
    · exact .kList hk hc
  | dct h => exact ⟨.base (.dK h), by decide⟩
  | dctT h => exact ⟨.base (.dT h), by decide⟩
end
def isIn (t : Th) (C : String) : Bool := t.ty == C || (t.ty == "bool" && C == "int")
theorem kit_in {T C : String} (hT : T ∈ ["NoneType", "bool", "int", "str", "tuple", "list", "dict"]) (hC : C ∈ ["int", "bool", "str", "tuple"]) : kitB T C = some (T == C || (T == "bool" && C == "int")) := by
  have all : (["NoneType", "bool", "int", "str", "tuple", "list", "dict"].all fun T => ["int", "bool", "str", "tuple"].all fun C => kitB T C == some (T == C || (T == "bool" && C == "int"))) = true := by decide +kernel
  have h1 := List.all_eq_true.mp (List.all_eq_true.mp all T hT) C hC
  exact beq_iff_eq.mp h1
section
variable {K : PySem.W.Frag} {σ : L2.St} {H : Hp} {te ta tb tc : TE} {v : V} {t : Th}
/-- isinstance(x, C) -/
theorem ev_isi {C : String} (h : Ev te σ H v) (hr : Rp K H v t) (hC : C ∈ ["int", "bool", "str", "tuple"]) : Ev (tCB (rIsi K) (tCons te (tCons (tC (.ty C)) tNil))) σ H (.bl (isIn t C)) := fun H1 e Q q =>
  h H1 e _ fun H2 e2 => by
    obtain ⟨h1, h2⟩ := rp_ty (rp_mono (e.trans e2) hr)
    exact ⟨v, .ty C, .type t.ty, .type C, isIn t C, rfl, .ty _, h1, kit_ty (kit_in h2 hC), q H2 e2⟩
/-- len(x) of a tuple -/
theorem ev_lenR {ts : List Th} (h : Ev te σ H v) (hr : Rp K H v (.tup ts)) : Ev (tCB (rLenS K) (tCons te tNil)) σ H (.int (ts.length : Int)) := fun H1 e Q q =>
  h H1 e _ fun H2 e2 => by
    obtain ⟨a, xs, rfl, hs, ha⟩ := rp_tup (rp_mono (e.trans e2) hr)
    exact ⟨a, xs, rfl, .inr hs, by rw [ra_len ha]; exact q H2 e2⟩
/-- a <= x <= b -/
theorem ev_chain {r r' : R2} {x y z : V} {a b : Bool} (ha : Ev ta σ H x) (hb : Ev tb σ H y) (hc : Ev tc σ H z) (h1 : RV r x y H (.bl a)) (h2 : RV r' y z H (.bl b)) : Ev (tChain r r' ta tb tc) σ H (.bl (a && b)) := fun H1 e Q q =>
  ha H1 e _ fun H2 e2 => hb H2 (e.trans e2) _ fun H3 e3 => h1 H3 ((e.trans e2).trans e3) _ fun H4 e4 => ⟨a, rfl, by
    cases a with
    | true =>
      show tc σ H4 _
      exact hc H4 (((e.trans e2).trans e3).trans e4) _ fun H5 e5 => h2 H5 ((((e.trans e2).trans e3).trans e4).trans e5) Q fun H6 e6 => q H6 ((((e2.trans e3).trans e4).trans e5).trans e6)
    | false =>
      show Q (.bl false) H4
      exact q H4 ((e2.trans e3).trans e4)⟩
end
/-! ### walks told by any relation -/
def WkR {α : Type} (S : Hp → V → α → Prop) (J : It) (H : Hp) (as : List α) : Prop := ∃ (G : Hp → Prop) (Y : Nat → Hp → V → Hp → Prop), Walk J as.length G Y ∧ (∀ H1, Ex H H1 → G H1) ∧
  ∀ i H1 x H2, Ex H H1 → Y i H1 x H2 → Ex H1 H2 ∧ ∃ d, as[i]? = some d ∧ S H2 x d
def EvWR {α : Type} (S : Hp → V → α → Prop) (wi : TI) (σ : L2.St) (H : Hp) (as : List α) : Prop := ∀ H1, Ex H H1 → ∀ R : It → Hp → Prop, (∀ J H2, Ex H1 H2 → WkR S J H2 as → R J H2) → wi σ H1 R
section
variable {K : PySem.W.Frag} {σ : L2.St} {H : Hp} {te tl : TE} {v : V}
theorem ewr_tup {ts : List Th} (h : Ev tl σ H v) (hr : Rp K H v (.tup ts)) : EvWR (Rp K) (iTup K tl) σ H ts := fun H1 e R q => h H1 e _ fun H2 e2 => by
  obtain ⟨a, xs, rfl, hs, ha⟩ := rp_tup (rp_mono (e.trans e2) hr)
  refine ⟨a, rfl, ⟨xs, hs⟩, q _ H2 e2 ⟨fun H3 => SqT K H3 a xs, YAt xs, by rw [← ra_len ha]; exact walk_tup (xs := xs), fun H3 e3 => ex_t e3 hs, fun i H3 x H4 e3 y => ?_⟩⟩
  obtain ⟨rfl, hx⟩ := y
  exact ⟨Ex.refl _, ra_get (ra_mono e3 ha) hx⟩
/-- the pair (i, x) -/
def PairR (K : PySem.W.Frag) (H : Hp) (x : V) (p : Nat × Th) : Prop := ∃ a u, x = .ref a ∧ SqT K H a [.int (p.1 : Int), u] ∧ Rp K H u p.2
def nums (ts : List Th) : List (Nat × Th) := (List.range ts.length).zip ts
theorem nums_len (ts : List Th) : (nums ts).length = ts.length := by
  unfold nums
  rw [List.length_zip, List.length_range, Nat.min_self]
theorem nums_at {ts : List Th} {i : Nat} {t : Th} (h : ts[i]? = some t) : (nums ts)[i]? = some (i, t) := by
  have hi : i < ts.length := (List.getElem?_eq_some_iff.mp h).1
  unfold nums
  exact List.getElem?_zip_eq_some.mpr ⟨List.getElem?_range hi, h⟩
theorem ewr_enum {ts : List Th} (h : Ev tl σ H v) (hr : Rp K H v (.tup ts)) : EvWR (PairR K) (iEnumT K (tCons tl tNil)) σ H (nums ts) := fun H1 e R q => h H1 e _ fun H2 e2 => by
  obtain ⟨a, xs, rfl, hs, ha⟩ := rp_tup (rp_mono (e.trans e2) hr)
  refine ⟨a, xs, rfl, hs, q _ H2 e2 ⟨fun H3 => SqT K H3 a xs, fun i H3 y H4 => ∃ T x, y = .ref T ∧ H3 T = none ∧ H4 = upd H3 T (.tup [.int (i : Nat), x]) ∧ xs[i]? = some x, ?_, fun H3 e3 => ex_t e3 hs, fun i H3 x H4 e3 y => ?_⟩⟩
  · rw [nums_len, ← ra_len ha]
    refine ⟨fun i H3 hi g => ⟨xs, xs[i], g, by simp [hi]⟩, fun H3 g => ⟨xs, g, Nat.le_refl _⟩, fun i H3 y H4 hi g yy => ?_⟩
    obtain ⟨T, x, h1, h2, h3, h4⟩ := yy
    exact ⟨T, x, h1, h2, h3, h4 xs g⟩
  · obtain ⟨T, u, rfl, hT, rfl, hu⟩ := y
    obtain ⟨t, ht, hrt⟩ := ra_get (ra_mono e3 ha) hu
    exact ⟨Ex.new hT, (i, t), nums_at ht, T, u, rfl, st_of upd_same, rp_mono (Ex.new hT) hrt⟩
theorem ewr_rng {ta : TA} {n : Int} (h : EvA ta σ H [.int n]) (hn : -(2 ^ 62) ≤ n ∧ n < 2 ^ 62) : EvWR (fun _ x (i : Nat) => x = .int (i : Int)) (iRng1 ta) σ H (List.range n.toNat) := fun H1 e R q => h H1 e _ fun H2 e2 => by
  refine ⟨n, rfl, hn.1, hn.2, q _ H2 e2 ⟨fun _ => True, fun i H x H' => H' = H ∧ x = .int ((0 : Int) + (i : Nat)) ∧ i < n.toNat, ?_, fun H3 _ => trivial, fun i H3 x H4 e3 y => ?_⟩⟩
  · rw [List.length_range]
    exact ⟨fun _ _ hi _ => hi, fun _ _ => Nat.le_refl _, fun _ _ _ _ hi _ y => ⟨y.1, y.2, hi⟩⟩
  · obtain ⟨rfl, rfl, hi⟩ := y
    exact ⟨Ex.refl _, i, List.getElem?_range hi, by rw [Int.zero_add]⟩
variable {wi : TI} {g : TG}
/-- all(..): by the relation -/
theorem ev_all {α : Type} {S : Hp → V → α → Prop} {P : Addr} {vs : List Nat} {as : List α} (f : α → Bool) (hw : EvWR S wi σ H as) (hP : H P = some (TabE P))
    (hs : ∀ (i : Nat) (d : α) (x : V) (H1 : Hp), Ex H H1 → as[i]? = some d → S H1 x d → ∃ σ2, TgD g x (wipe σ vs) H1 σ2 ∧ wipe σ2 vs = wipe σ vs ∧ Ev te σ2 H1 (.bl (f d))) :
    Ev (tQuant true P wi g te vs) σ H (.bl (as.all f)) := fun H0 e0 Q q => hw H0 e0 _ fun J H1 e1 wk => by
  obtain ⟨G, Y, wlk, hG, hY⟩ := wk
  refine ⟨(e0.trans e1) _ _ hP, as.length, fun i H' => Ex H1 H' ∧ i ≤ as.length ∧ (as.take i).all f = true, ⟨Ex.refl H1, Nat.zero_le _, rfl⟩, fun i H' hW => ?_⟩
  obtain ⟨ex, hi, hall⟩ := hW
  by_cases hlt : i < as.length
  · refine .inr ⟨wlk.goes i H' hlt (hG H' ex), hlt, fun x H2 hy => ?_⟩
    obtain ⟨ey, d, hd, hdp⟩ := hY i H' x H2 ex (wlk.yields i H' x H2 hlt (hG H' ex) hy)
    obtain ⟨σ2, tg, hwp, hev⟩ := hs i d x H2 ((e0.trans e1).trans (ex.trans ey)) hd hdp
    refine tg H2 (Ex.refl H2) _ ⟨hwp, hev H2 (Ex.refl H2) _ fun H3 e3 => ⟨f d, rfl, ?_⟩⟩
    by_cases hf : f d = true
    · rw [if_pos hf]
      refine ⟨(ex.trans ey).trans e3, hlt, ?_⟩
      rw [List.take_add_one, hd, List.all_append, hall]
      simp [hf]
    · rw [if_neg hf]
      have hff : f d = false := by simpa using hf
      have hz : as.all f = false := by
        rw [List.all_eq_false]
        exact ⟨d, List.mem_of_getElem? hd, hf⟩
      have hq := q H3 (e1.trans ((ex.trans ey).trans e3))
      rw [hz] at hq
      rw [hff]
      exact hq
  · have hin : i = as.length := by omega
    subst hin
    refine .inl ⟨wlk.stops H' (hG H' ex), ?_⟩
    rw [List.take_of_length_le (Nat.le_refl _)] at hall
    have hq := q H' (e1.trans ex)
    rw [hall] at hq
    exact hq
end
end YA

set_option Elab.async false
set_option linter.all false
set_option maxRecDepth 100000
set_option maxHeartbeats 4000000
/-! Caught exceptions as tracked objects: they may be kept, handed on, asked for their class. -/
namespace EX
open PySem PySem.Spec PyProof.Rows L2 Evl DL GX YA

/-- an exception's object at a: its class, its dict -/
def ExG (cls : Value) (d : Option Addr) (a : Addr) : HO := .ext fun h => ∃ (o : Obj) (r : Array Value), h.get? a = some o ∧ Zc cls d o ∧ o.data = .fields r
theorem exG_ok {P : Program} {w : World} {H : Hp} {h : Heap} {a : Addr} {cls : Value} {d : Option Addr} {o : Obj} {r : Array Value} (e : h.get? a = some o) (z : Zc cls d o) (q : o.data = .fields r) : ObjOk P w H h a (ExG cls d a) :=
  ⟨⟨o, r, e, z, q⟩, ⟨o, e⟩, fun _ _ ⟨o', r', e', z'⟩ k => ⟨o', r', k o' e', z'⟩⟩
section
variable {X : Cx} {pins : List (Addr × Obj)} {σ : L2.St} {H : Hp} {sI s' : Shared} {B : Heap}
/-- back on the ground, the exception's object tracked -/
theorem grounded {a : Addr} {cls : Value} {d : Option Addr} {o : Obj} {r : Array Value} {h : Heap} (J : Inv X pins σ H sI) (inB : ∀ b u, sI.heap.get? b = some u → b ∉ frs X.stack → B.get? b = some u) (stay : B.StaysIn h) (slots : sI.heap.UpToSlots h)
    (hos : s'.os = sI.os) (hag : AllBare s'.gens) (nB : B.get? a = none) (nfr : a ∉ frs X.stack) (he : h.get? a = some o) (hz : Zc cls d o) (hd : o.data = .fields r) (na : H a = none) :
    Inv X pins σ (upd H a (ExG cls d a)) { s' with heap := h } := by
  have nI : sI.heap.get? a = none := by
    cases q : sI.heap.get? a with
    | none => rfl
    | some u =>
      have := inB a u q nfr
      rw [nB] at this
      cases this
  obtain ⟨G, g1, g2⟩ := restrict h fun b => decide (b ≠ a)
  have out : G.get? a = none := g2 a (by simp)
  have same : ∀ b, b ≠ a → G.get? b = h.get? b := fun b hb => g1 b (by simpa using hb)
  have J1 : Inv X pins σ H { s' with heap := G } := by
    refine J.landed (s' := { s' with heap := G }) inB (fun b u q => ?_) (fun b u q nf => ?_) hos hag
    · have hb : b ≠ a := fun z => by rw [z, nB] at q; cases q
      exact (same b hb).trans (stay b u q)
    · have hb : b ≠ a := fun z => by rw [z, nI] at q; cases q
      obtain ⟨sl, e⟩ := slots b u q nf
      exact ⟨sl, (same b hb).trans e⟩
  have J2 := J1.laidN (h' := h) (a := a) (o := ExG cls d a) (t' := s'.toks) (fun b u q => by
    have hb : b ≠ a := fun z => by
      have q' : G.get? b = some u := q
      rw [z, out] at q'
      cases q'
    exact (same b hb).symm.trans q) out na (exG_ok he hz hd)
  exact J2
/-- the suite's context bears the same pins -/
theorem in_suite {s : Shared} (I : Inv X pins σ H s) (a : Addr) : Inv (X.suite a (X.pn ++ pins)) [] σ H s :=
  ⟨I.ok.suite _ _, I.os, I.bare, I.base, I.loc, I.cell, I.free, I.freeC, fun p hp => I.pin p (by simpa using hp), I.hok, I.len⟩
theorem off_suite {s : Shared} {a : Addr} (I : Inv (X.suite a (X.pn ++ pins)) [] σ H s) (ok : X.Ok) : Inv X pins σ H s :=
  ⟨ok, I.os, I.bare, I.base, I.loc, I.cell, I.free, I.freeC, fun p hp => I.pin p (by simpa using hp), I.hok, I.len⟩
end
/-- what 'except x as n' wishes of the body's exceptions: each is caught, its object tracked; n is slot i -/
def wTr (K : PySem.W.Frag) (c : Value) (i : Nat) (ts : Addr → Value → Option Addr → TS) (D : Ends) : WX := fun cls d σ H =>
  PySem.W.exmOne K cls c = some true ∧ ∀ a, H a = none → ts a cls d ⟨fun σ' H' => D.nx (σ'.set i none) H', D.rt, fun σ' H' => D.bk (σ'.set i none) H', fun σ' H' => D.ct (σ'.set i none) H'⟩ (σ.set i (some (.ref a))) (upd H a (ExG cls d a))
section
variable {X : Cx} {x n : Str} {c : Value} {i : Nat} {body suite : List Stmt} {b₀ : Stmt} {np pos pos' : Pos} {tb : WX → TS} {ts : Addr → Value → Option Addr → TS}
theorem ps_try_tr (hs : X.stack = X.env :: X.outer) (hf : X.env.frame = some X.env.locals) (hN : X.N.Nodup) (hi : X.N[i]? = some n) (hln : X.env.kindOf n = some .local) (hc : Names X x c)
    (hbody : ∀ (W : WX) (pn : List (Addr × Obj)) (xe : Value → Shared → Prop), Takes (X.tr pn xe) W → PassesOwn (model X.prog X.w) X.A X.env xe → PSs (X.tr pn xe) body (tb W))
    (hsuite : ∀ (a : Addr) (cls : Value) (d : Option Addr) (pn : List (Addr × Obj)), PSs (X.suite a pn) (b₀ :: suite) (ts a cls d)) :
    PS X (.Try body [.ExceptHandler (some (.Name x np)) (some n) (b₀ :: suite) pos'] [] [] pos) (fun D σ H => tb (wTr X.K c i ts D) D σ H) := by
  refine ⟨fun pins s σ H D I h => wpAny_Try_except ?_⟩
  have ok := I.ok
  have frm : X.A.frames = some (X.env :: X.outer) := by rw [ok.frames, hs]
  -- whatever leaves the body is landed, and goes by the clause
  generalize hxe : (fun e s₁ => wpAny (model X.prog X.w) X.A (noteFrame e X.env) (fun _ s₂ => wpAny (model X.prog X.w) X.A (setFlight e none) (fun _ s₃ =>
    wpAny (model X.prog X.w) X.A (handleBy e X.env [.ExceptHandler (some (.Name x np)) (some n) (b₀ :: suite) pos']) (SP X pins D) X.xe s₃) X.xe s₂) X.xe s₁ : Value → Shared → Prop) = air
  have caught : Takes (X.tr (X.pn ++ pins) air) (wTr X.K c i ts D) := by
    intro u s' ⟨a, B, sI, pins', τ, H1, cls, d, eu, J', inB, up, sky, na, hos, hag, hm, hgo⟩
    subst eu
    have J : Inv X pins τ H1 sI := J'.ofTry ok
    rw [← hxe]
    have sky' : Sky B (X.env :: X.outer) a (Zc cls d) X.env.locals s'.heap := by rw [← hs]; exact sky
    show wpAny (model X.prog X.w) X.A (noteFrame (.ref a) X.env) _ _ _
    refine Sky.land Zc.steady frm hf sky' fun h3 fl3 up3 => ?_
    obtain ⟨o3, r3, he3, hz3, hd3⟩ := fl3.there
    have nfr : a ∉ frs (X.env :: X.outer) := fun hm => by
      obtain ⟨_, o', e', hnf⟩ := fl3.2.2.1.mem hm
      rw [he3] at e'
      cases e'
      exact hnf _ hd3
    have I3 : Inv X pins τ (upd H1 a (ExG cls d a)) { s' with heap := h3 } := grounded J inB fl3.1 (up.trans up3) hos hag fl3.2.1 (by rw [hs]; exact nfr) he3 hz3 hd3 na
    refine wpAny_handleBy_cons (codeAny_handlers_test ?_) (by intro q; cases q)
    have ltp : PySem.W.Looks (model X.prog X.w) h3 (typeOf (.ref a)) cls := fun A Q E s k q => wpAny_typeOf_ref (k _ _ he3) (by rw [hz3.1]; exact q)
    have lmt := PySem.W.exm_one (M := model X.prog X.w) I3.kIn ltp hm
    have named : ∀ {Q : Value → Shared → Prop} {E : Value → Shared → Prop}, Q c { s' with heap := h3 } → wpAny (model X.prog X.w) (X.A.mark (some (.ref a))) (eval (.Name x np) X.env) Q E { s' with heap := h3 } := fun {Q E} q => by
      have S3 := in_suite I3 a
      rcases hc with ⟨hg, hdb, hm | ⟨hm, hv, hnn⟩⟩
      · exact ld_glob (X := X.suite a (X.pn ++ pins)) S3 hg hm q hdb
      · exact ld_blt (X := X.suite a (X.pn ++ pins)) S3 hg hm hv q hnn hdb
    refine named (lmt.here (codeAny_handlers_suite_as (HandSPX.lands_againZ fl3 fun h4 fl4 up4 => ?_)))
    obtain ⟨o4, r4, he4, hz4, hd4⟩ := fl4.there
    have I4 : Inv X pins τ (upd H1 a (ExG cls d a)) { s' with heap := h4 } := grounded J inB fl4.1 ((up.trans up3).trans up4) hos hag fl4.2.1 (by rw [hs]; exact nfr) he4 hz4 hd4 na
    refine store_ok (X := X.suite a (X.pn ++ pins)) (v := .ref a) (in_suite I4 a) hN hi (.inl hln) rfl (fun s5 S5 => ?_) (.inr hln)
    refine wpAny_mono ((hsuite a cls d (X.pn ++ pins)).run [] s5 _ _ _ S5 (hgo a na)) (fun f s6 done => ?_) (fun _ _ z => False.elim z)
    have off : ∀ {σ6 : L2.St} {H6 : Hp} {Q : Shared → Prop}, Inv (X.suite a (X.pn ++ pins)) [] σ6 H6 s6 → (∀ s7, Inv X pins (σ6.set i none) H6 s7 → Q s7) →
        wpAny (model X.prog X.w) X.A (do bindName X.env n .none; unbindBehindTheSuite X.env n pos') (fun _ s7 => Q s7) X.xe s6 := fun {σ6 H6 Q} S6 hq => gone_ok (off_suite S6 ok) hN hi hln hq
    cases f with
    | next =>
      obtain ⟨_, _, S6, q6⟩ := done
      exact off S6 fun s7 J7 => ⟨_, _, J7, q6⟩
    | brk =>
      obtain ⟨_, _, S6, q6⟩ := done
      exact off S6 fun s7 J7 => ⟨_, _, J7, q6⟩
    | cont =>
      obtain ⟨_, _, S6, q6⟩ := done
      exact off S6 fun s7 J7 => ⟨_, _, J7, q6⟩
    | ret u =>
      obtain ⟨_, _, _, S6, r6, q6⟩ := done
      exact off S6 fun s7 J7 => ⟨_, _, _, J7, r6, q6⟩
  have own : PassesOwn (model X.prog X.w) X.A X.env air := by
    rw [← hxe]
    exact PassesOwn.looking
  refine wpAny_mono ((hbody _ _ air caught own).run [] s σ H D (I.toTry _) h) (fun f s1 done => ?_) (fun e s1 he => he)
  cases f with
  | next =>
    obtain ⟨_, _, J', q⟩ := done
    exact wpAny_execs_nil ⟨_, _, J'.ofTry ok, q⟩
  | brk =>
    obtain ⟨_, _, J', q⟩ := done
    exact ⟨_, _, J'.ofTry ok, q⟩
  | cont =>
    obtain ⟨_, _, J', q⟩ := done
    exact ⟨_, _, J'.ofTry ok, q⟩
  | ret u =>
    obtain ⟨_, _, _, J', r, q⟩ := done
    exact ⟨_, _, _, J'.ofTry ok, r, q⟩
end
/-! ### isinstance(e, C) -/
def rIsG (K : PySem.W.Frag) (D : Addr) : List V → Hp → VK → Prop := fun xs H Q => ∃ (a : Addr) (c : V) (cv : Value) (b : Bool), xs = [.ref a, c] ∧ H a = some (ExG (.ref D) none a) ∧ ClsV c cv ∧ PySem.W.kitOne K (.ref D) cv = some b ∧ Q (.bl b) H
theorem call_isG {X : Cx} {D : Addr} (C : ExcC X.K D) : CallR X (.builtin "isinstance") (rIsG X.K D) := by
  intro pins s σ H xs us Q I rel h
  obtain ⟨a, c, cv, b, rfl, ha, hcv, hk, q⟩ := h
  obtain ⟨u1, u2, rfl, r1, r2⟩ := vals2 rel
  cases (show u1 = Value.ref a from r1)
  have ec := hcv.eq r2
  subst ec
  obtain ⟨⟨o, r, hget, hz, hd⟩, _, _⟩ := I.hok a _ ha
  have inst : PySem.W.InstAt s.heap a o D none := by
    obtain ⟨oc, od, oda, osl⟩ := o
    obtain ⟨h1, h2⟩ := hz
    dsimp only at h1 h2 hd
    subst h1 h2 hd
    exact ⟨hget, rfl, rfl, trivial⟩
  exact PySem.W.kia_one (PySem.W.handS_kitx_exc C.hg C.hk C.hs C.hd C.ha C.hn C.ht C.hm) I.kIn inst hk (fun z => nomatch z) fun tk => ⟨.bl b, H, I.tok tk, rfl, q⟩
end EX

set_option Elab.async false
set_option linter.all false
set_option maxRecDepth 100000
set_option maxHeartbeats 4000000
/-! Defs that may be called while an exception is handled (they raise nothing themselves). -/
namespace EX
open PySem PySem.Spec PyProof.Rows L2 Evl DL GX YA

abbrev RoomW := L2H.RoomH
theorem RoomW.units {k : Nat} {A : Around} (r : RoomW k A) : A.units + 64 < cLine := by have := r.un; omega
theorem room_mark {j k : Nat} {A : Around} {h : Option Value} (r : Room k A) (hj : j ≤ k) : RoomW j (A.mark h) :=
  ⟨by have := r.dp; show A.depth + 3 * j + 5 < _; omega, by have := r.un; show A.units + 16 * j + 200 < _; omega⟩
/-- as FnOk, where perhaps an exception is handled -/
structure FnW (P : Program) (w : World) (K : PySem.W.Frag) (mg : Str → Option Value) (base : Heap) (k : Nat) (f : Addr) (fd : FuncData) (ps : List Str) (sp : Sp) : Prop where
  len : ∀ vs H Q E, sp vs H Q E → vs.length = ps.length
  go : ∀ (A : Around) (outer : List Env) (s : Shared) (H : Hp) (args : Args) (us : List Value) (vs : List V) (Q : VK) (E : XK), RoomW k A → Env0 P w K mg base A outer s H → BindsTo s fd args (ps.zip us) → Vals vs us → sp vs H Q E →
    codeAny (model P w) A (.call (.ref f) args) (CR CX0 outer P w H s Q E) s
theorem FnW.calm {P : Program} {w : World} {K : PySem.W.Frag} {mg : Str → Option Value} {base : Heap} {k : Nat} {f : Addr} {fd : FuncData} {ps : List Str} {sp : Sp} (F : FnW P w K mg base k f fd ps sp) : FnOk P w K mg base CX0 k f fd ps sp :=
  ⟨F.len, fun A outer s H args us vs Q E hr => F.go A outer s H args us vs Q E (L2H.roomH_of hr)⟩
/-- the body's context -/
abbrev cxW (P : Program) (w : World) (K : PySem.W.Frag) (mg : Str → Option Value) (base : Heap) (N : List Str) (qual : Str) (scope : Scope) (f : Addr) (cd : Value) (A : Around) (outer : List Env) (s : Shared) (H : Hp) : Cx :=
  { cxOf CX0 P w K mg base N qual scope f cd A outer s H E0 with calm := false, xe := fun _ _ => False }
theorem fn_ofW {P : Program} {w : World} {K : PySem.W.Frag} {mg : Str → Option Value} {base : Heap} {x qual : Str} {st : Stmt} {f : Addr} {fd : FuncData} {N ps : List Str} {k : Nat} {sp : Sp} (F : Fun K x qual st f fd) (S : FnScope N ps (defScope st)) (len : ∀ vs H Q E, sp vs H Q E → vs.length = ps.length)
    (hbody : ∀ (cdv : Value) (A : Around) (outer : List Env) (s : Shared) (H : Hp) (vs : List V) (Q : VK) (E : XK), RoomW k (A.deeper (envOfC qual (defScope st) s.heap.objs.size f cdv)) → sp vs H Q E →
      ∃ t, PSs (cxW P w K mg base N qual (defScope st) f cdv A outer s H) (defBody st) t ∧ t { nx := fun _ H' => Q .non H', rt := Q } (start N vs) H) : FnW P w K mg base (k + 1) f fd ps sp := by
  obtain ⟨oc, od, kV, doc, pm, an, cdv, ct, osl, rfl, lk, hcd⟩ := F.ex
  refine ⟨len, fun A outer s H args us vs Q E hr e0 hb rel hsp => ?_⟩
  have inH : K.In s.heap := e0.mod.kin.keeps fun b o e => (e0.bs b o e).1
  have slotted : ∀ y ∈ ps.zip us, (defScope st).names.lookup y.1 = some .local ∨ ((defScope st).names.lookup y.1 = some .cell ∧ ((cellsFrom (s.heap.objs.size + 1) (defScope st).names []).lookup y.1).isSome = true) := by
    rintro ⟨n, v⟩ hy
    exact (S.par n (List.of_mem_zip hy).1).imp id fun q => ⟨q, PySem.W.cellsFrom_some _ _ _ (.inl q)⟩
  refine codeAny_call_function hr.depth (inH _ _ lk) rfl S.co S.gen rfl (PySem.W.codeRec_of inH hcd) (hb _ _ _ _ (wpAny_newFunctionEnv_cells S.kind slotted fun env he s1 made => ?_))
  subst he
  refine ⟨(e0.mod.nolimit.keeps fun b o e => (e0.bs b o e).1).keeps made.toInCall.keep, codeAny_func ?_⟩
  obtain ⟨t, ht, hq⟩ := hbody cdv A outer s H vs Q E (hr.deeper _) hsp
  have J := inv_start (CX := CX0) (E := E0) (A := { A with handled := none }) (cd := cdv) (f := f) (qual := qual) S rfl ⟨e0.frames, e0.mod, e0.bs, e0.bsz, e0.funs, e0.frf, e0.hok, e0.bare⟩ (len _ _ _ _ hsp) rel made
  have okJ := J.ok
  have I : Inv (cxW P w K mg base N qual (defScope st) f cdv A outer s H) [] (start N vs) H s1 :=
    ⟨⟨okJ.mod, okJ.kind, okJ.glob, okJ.blt, okJ.above, okJ.inj, okJ.has, okJ.cab, (fun z => nomatch (show false = true from z)), Around.frames_deeper e0.frames, okJ.stk, okJ.exf, okJ.bs, okJ.bsz, okJ.noex, okJ.exfs, okJ.funs, okJ.frf⟩,
      J.os, J.bare, J.base, J.loc, J.cell, J.free, J.freeC, J.pin, J.hok, J.len⟩
  refine wpAny_mono (ht.run [] s1 (start N vs) H _ I hq) (fun fl s' out => ?_) fun e s' z => z.elim
  cases fl with
  | ret u =>
    obtain ⟨v, _, H', J', rv, q⟩ := out
    exact ⟨v, H', J'.os, J'.bare, J'.base, J'.hok, rv, q⟩
  | next =>
    obtain ⟨_, H', J', q⟩ := out
    exact ⟨V.non, H', J'.os, J'.bare, J'.base, J'.hok, rfl, q⟩
  | brk =>
    obtain ⟨_, _, _, q⟩ := out
    exact q.elim
  | cont =>
    obtain ⟨_, _, _, q⟩ := out
    exact q.elim
section
variable {X : Cx} {k : Nat} {f : Addr} {fd : FuncData} {ps : List Str} {sp : Sp} {x : Str} {p pos : Pos} {e : Expr} {es : List Expr} {t : TA}
/-- such a def called, in a suite or not -/
theorem pe_callW (F : FnW X.prog X.w X.K X.mg X.base k f fd ps sp) (hr : RoomW k X.A) (hg : Gl X x) (hm : X.mg x = some (.ref f)) (hk : PySem.W.keepIn X.K (.ref f) = true) (hb : Binds X.K fd ps []) (ha : PA X (e :: es) t)
    (hdb : (x == ("__debug__" : Str)) = false := by decide) (he : starEach (e :: es) X.env = (false, eval e X.env) :: starEach es X.env := by rfl) (hpl : (backTo pos (starEach es X.env)).any (·.1) = false := by rfl) :
    PE X (.Call (.Name x p) (e :: es) [] pos) (tCall sp [] E0 t) := by
  refine ⟨fun pins s σ H Q I h => wpAny_Call_Name_kw (ld_glob I hg hm ?_ hdb)⟩
  refine PySem.W.callWith_K (h₀ := X.base) I.ok.mod.kin hk (thn (ha.run pos pins s σ H _ I h) fun us s1 ⟨vs, H1, I1, rel, q⟩ => ⟨I1.kIn, ?_⟩) he hpl
  have q : sp (vs ++ []) H1 Q E0 := q
  rw [List.append_nil] at q
  have bound := hb s1 us I1.kIn (by rw [List.append_nil, ← rel.length]; exact F.len _ _ _ _ q)
  rw [List.append_nil] at bound
  refine wpAny_call (codeAny_mono (F.go X.A X.stack s1 H1 ⟨us, []⟩ us vs Q E0 hr I1.env0 bound rel q) fun r s' out => ?_)
  match r, out with
  | .error _, z => exact z.elim
  | .ok (.ret _), z => exact I1.after z
  | .ok .next, z => exact False.elim z
  | .ok .brk, z => exact False.elim z
  | .ok .cont, z => exact False.elim z
end
/-! ### lists of truths -/
/-- xs.count(b) -/
def rCntB (K : PySem.W.Frag) : V → List V → Hp → VK → Prop := fun x xs H Q => ∃ (a : Addr) (bs : List Bool) (b : Bool), x = .ref a ∧ xs = [.bl b] ∧ SqL K H a (bs.map V.bl) ∧ Q (.int ((bs.count b : Nat) : Int)) H
theorem da_bools {K : PySem.W.Frag} {H : Hp} : ∀ bs : List Bool, DpAll K H (bs.map V.bl) (bs.map PyData.bool)
  | [] => .nil
  | b :: bs => .cons (.bl b) (da_bools bs)
theorem plain_bools : ∀ bs : List Bool, PyData.plainAll (bs.map PyData.bool) = true
  | [] => rfl
  | b :: bs => by
    show (PyData.plain (.bool b) && PyData.plainAll (bs.map PyData.bool)) = true
    rw [plain_bools bs]
    rfl
theorem count_bools (bs : List Bool) (b : Bool) : (bs.map PyData.bool).countP (fun y => PyData.eqv y (.bool b)) = bs.count b := by
  rw [List.countP_map, List.count]
  refine List.countP_congr fun x _ => ?_
  cases x <;> cases b <;> simp [PyData.eqv]
theorem mt_cntB {X : Cx} (hu : X.A.units + 64 < cLine) : MtR X "list.count" (rCntB X.K) := by
  intro pins s σ H x xs v us Q I rx rxs h
  obtain ⟨a, bs, b, rfl, rfl, hs, q⟩ := h
  cases rx
  obtain ⟨u, rfl, ru⟩ := Vals.one rxs
  obtain ⟨its, rv, pl, _⟩ := I.list hs
  obtain ⟨as, h1⟩ := Dp.readsAll I (bs.map PyData.bool) _ _ (da_bools bs) rv
  obtain ⟨cs, h2⟩ := Dp.reads I (.bool b) _ _ (.bl b) ru
  refine PySem.SeqAt.count_list_data (vs := its.toArray) (xs := bs.map PyData.bool) (d := .bool b) pl.isList (by simpa using h1) h2 (plain_bools bs) rfl ?_ ?_
  · have : min (PyData.depthAll (bs.map PyData.bool)) (PyData.depth (.bool b)) ≤ PyData.depth (.bool b) := Nat.min_le_right _ _
    have z : PyData.depth (.bool b) ≤ 1 := by first | exact Nat.zero_le _ | exact Nat.le_refl _ | decide
    omega
  · rw [count_bools]
    exact ⟨.int _, H, I.tok _, ⟨_, rfl⟩, q⟩
end EX

set_option Elab.async false
set_option linter.all false
set_option maxRecDepth 100000
set_option maxHeartbeats 4000000
/-! Expressions that come to things of any kind, while a list of digits may be drawn from. -/
namespace TH
open PySem PySem.Spec PyProof.Rows L2 Evl DL GX YA EX

/-- what bears things stays: tuples; lists stay lists, dicts dicts -/
structure ExR (H H' : Hp) : Prop where
  tup : ∀ a xs, Rd H a (.tup xs) → Rd H' a (.tup xs)
  lst : ∀ a xs, Rd H a (.lst xs) → ∃ ys, Rd H' a (.lst ys)
  dK : ∀ a ks, H a = some (.dK ks) → ∃ ls, H' a = some (.dK ls)
  dT : ∀ a ks, H a = some (.dT ks) → ∃ ls, H' a = some (.dT ls)
theorem ExR.refl (H : Hp) : ExR H H := ⟨fun _ _ h => h, fun _ xs h => ⟨xs, h⟩, fun _ ks h => ⟨ks, h⟩, fun _ ks h => ⟨ks, h⟩⟩
theorem ExR.trans {H H1 H2 : Hp} (x : ExR H H1) (y : ExR H1 H2) : ExR H H2 :=
  ⟨fun a xs h => y.tup a xs (x.tup a xs h), fun a xs h => (x.lst a xs h).elim fun ys k => y.lst a ys k, fun a ks h => (x.dK a ks h).elim fun ls k => y.dK a ls k, fun a ks h => (x.dT a ks h).elim fun ls k => y.dT a ls k⟩
theorem exr_of {H H' : Hp} (e : Ex H H') : ExR H H' := ⟨fun _ _ h => ex_rd e h, fun _ xs h => ⟨xs, ex_rd e h⟩, fun _ ks h => ⟨ks, e _ _ h⟩, fun _ ks h => ⟨ks, e _ _ h⟩⟩
theorem exr_upd {H : Hp} {a : Addr} {xs ys : List V} (h : H a = some (.lst xs)) : ExR H (upd H a (.lst ys)) := by
  have nt : ∀ b zs, Rd H b (.tup zs) → b ≠ a := fun b zs r z => by
    subst z
    rcases r with r | ⟨o, r⟩ <;> rw [h] at r <;> cases r
  refine ⟨fun b zs r => ?_, fun b zs r => ?_, fun b ks r => ?_, fun b ks r => ?_⟩
  · have hb := nt b zs r
    rcases r with r | ⟨o, r⟩
    · exact .inl (by rw [upd_ne hb]; exact r)
    · exact .inr ⟨o, by rw [upd_ne hb]; exact r⟩
  · by_cases hb : b = a
    · subst hb
      exact ⟨ys, .inl upd_same⟩
    · refine ⟨zs, ?_⟩
      rcases r with r | ⟨o, r⟩
      · exact .inl (by rw [upd_ne hb]; exact r)
      · exact .inr ⟨o, by rw [upd_ne hb]; exact r⟩
  · have hb : b ≠ a := fun z => by rw [z, h] at r; cases r
    exact ⟨ks, by rw [upd_ne hb]; exact r⟩
  · have hb : b ≠ a := fun z => by rw [z, h] at r; cases r
    exact ⟨ks, by rw [upd_ne hb]; exact r⟩
mutual
theorem rp_r {K : PySem.W.Frag} {H H' : Hp} (e : ExR H H') : ∀ {t : Th} {v : V}, Rp K H v t → Rp K H' v t
  | .none, _, h => by cases h; exact .non
  | .bool b, _, h => by cases h; exact .bl b
  | .int i, _, h => by cases h; exact .int i
  | .str x, _, h => by cases h; exact .str x
  | .tup ts, _, h => by
    cases h with
    | tup hs ha => exact .tup (hs.imp (e.tup _ _) id) (ra_r e ha)
  | .odd T, _, h => by
    cases h with
    | lst hs =>
      rcases hs with hs | hs
      · obtain ⟨ys, k⟩ := e.lst _ _ hs
        exact .lst (.inl k)
      · exact .lst (.inr hs)
    | dct hs =>
      obtain ⟨_, k⟩ := e.dK _ _ hs
      exact .dct k
    | dctT hs =>
      obtain ⟨_, k⟩ := e.dT _ _ hs
      exact .dctT k
theorem ra_r {K : PySem.W.Frag} {H H' : Hp} (e : ExR H H') : ∀ {ts : List Th} {vs : List V}, RpAll K H vs ts → RpAll K H' vs ts
  | [], _, h => by cases h; exact .nil
  | t :: ts, _, h => by
    cases h with
    | cons h1 h2 => exact .cons (rp_r e h1) (ra_r e h2)
end
section
variable {K : PySem.W.Frag} {H : Hp}
theorem ra_app : ∀ {ts us : List Th} {vs ws : List V}, RpAll K H vs ts → RpAll K H ws us → RpAll K H (vs ++ ws) (ts ++ us)
  | [], _, _, _, h, k => by cases h; exact k
  | _ :: _, _, _, _, h, k => by
    cases h with
    | cons h1 h2 => exact .cons h1 (ra_app h2 k)
theorem ra_drop : ∀ (n : Nat) {ts : List Th} {vs : List V}, RpAll K H vs ts → RpAll K H (vs.drop n) (ts.drop n)
  | 0, _, _, h => h
  | n + 1, [], _, h => by cases h; exact .nil
  | n + 1, _ :: _, _, h => by
    cases h with
    | cons h1 h2 => exact ra_drop n h2
theorem ra_take : ∀ (n : Nat) {ts : List Th} {vs : List V}, RpAll K H vs ts → RpAll K H (vs.take n) (ts.take n)
  | 0, _, _, _ => .nil
  | n + 1, [], _, h => by cases h; exact .nil
  | n + 1, _ :: _, _, h => by
    cases h with
    | cons h1 h2 => exact .cons h1 (ra_take n h2)
theorem ra_rev : ∀ {ts : List Th} {vs : List V}, RpAll K H vs ts → RpAll K H vs.reverse ts.reverse
  | [], _, h => by cases h; exact .nil
  | t :: ts, _, h => by
    cases h with
    | cons h1 h2 =>
      rw [List.reverse_cons, List.reverse_cons]
      exact ra_app (ra_rev h2) (.cons h1 .nil)
theorem ra_rep {ts : List Th} {vs : List V} (h : RpAll K H vs ts) : ∀ n : Nat, RpAll K H (List.replicate n vs).flatten (List.replicate n ts).flatten
  | 0 => .nil
  | n + 1 => by
    rw [List.replicate_succ, List.replicate_succ, List.flatten_cons, List.flatten_cons]
    exact ra_app h (ra_rep h n)
end
/-! ### the ways in which the heap may go on -/
/-- Ok: the places whose lists stay -/
structure Way (G : Hp → Hp → Prop) (Ok : Addr → Prop) : Prop where
  refl : ∀ H, G H H
  trans : ∀ {H H1 H2}, G H H1 → G H1 H2 → G H H2
  ex : ∀ {H H'}, Ex H H' → G H H'
  exr : ∀ {H H'}, G H H' → ExR H H'
  put : ∀ {H H' : Hp} {D : Addr} {xs ys : List V}, G H H' → H D = none → H' D = some (.lst xs) → G H (upd H' D (.lst ys))
  kp : ∀ {H H' : Hp} {l : Addr} {xs : List V}, G H H' → Ok l → H l = some (.lst xs) → H' l = some (.lst xs)
theorem way_ex : Way Ex fun _ => True := ⟨Ex.refl, fun a b => a.trans b, fun e => e, exr_of, fun e hn _ => Ex.mut e hn, fun e _ h => e _ _ h⟩
/-- all but the digits at a -/
def ExB (a : Addr) (H H' : Hp) : Prop := ∀ b o, b ≠ a → H b = some o → H' b = some o
def PoolAt (H : Hp) (a : Addr) : Prop := ∃ n, H a = some (.lst [.int n])
structure GP (p : Addr) (H H' : Hp) : Prop where
  b : ExB p H H'
  p : PoolAt H p → PoolAt H' p
  r : ExR H H'
theorem way_pool (p : Addr) : Way (GP p) (fun l => l ≠ p) where
  refl := fun H => ⟨fun _ _ _ h => h, id, ExR.refl H⟩
  trans := fun x y => ⟨fun b o n h => y.b b o n (x.b b o n h), fun h => y.p (x.p h), x.r.trans y.r⟩
  ex := fun e => ⟨fun b o _ h => e b o h, fun ⟨n, h⟩ => ⟨n, e _ _ h⟩, exr_of e⟩
  exr := fun x => x.r
  kp := fun x n h => x.b _ _ n h
  put := fun {H H' D xs ys} x hn hd => ⟨fun b o n h => by rw [upd_ne (ne_of_none h hn)]; exact x.b b o n h, fun h => by
      obtain ⟨n, q⟩ := x.p h
      obtain ⟨m, q0⟩ := h
      exact ⟨n, by rw [upd_ne (ne_of_none q0 hn)]; exact q⟩, x.r.trans (exr_upd hd)⟩
/-- digits are drawn -/
theorem gp_of {p : Addr} {H H' : Hp} (e : ExB p H H') (h : PoolAt H p) (h' : PoolAt H' p) : GP p H H' := by
  obtain ⟨n, q⟩ := h
  obtain ⟨m, q'⟩ := h'
  refine ⟨e, fun _ => ⟨m, q'⟩, ⟨fun a xs r => ?_, fun a xs r => ?_, fun a ks r => ?_, fun a ks r => ?_⟩⟩
  · have hb : a ≠ p := fun z => by
      subst z
      rcases r with r | ⟨o, r⟩ <;> rw [q] at r <;> cases r
    rcases r with r | ⟨o, r⟩
    · exact .inl (e _ _ hb r)
    · exact .inr ⟨o, e _ _ hb r⟩
  · by_cases hb : a = p
    · subst hb
      exact ⟨_, .inl q'⟩
    · rcases r with r | ⟨o, r⟩
      · exact ⟨xs, .inl (e _ _ hb r)⟩
      · exact ⟨xs, .inr ⟨o, e _ _ hb r⟩⟩
  · exact ⟨ks, e _ _ (fun z => by rw [z, q] at r; cases r) r⟩
  · exact ⟨ks, e _ _ (fun z => by rw [z, q] at r; cases r) r⟩
/-! ### what an expression comes to: some thing of which P holds -/
section
variable (G : Hp → Hp → Prop) (Ok : Addr → Prop) (K : PySem.W.Frag)
def EvP (te : TE) (σ : L2.St) (H : Hp) (P : Th → Prop) : Prop := ∀ H1, G H H1 → ∀ Q : VK, (∀ v t H2, G H1 H2 → Rp K H2 v t → P t → Q v H2) → te σ H1 Q
def EvPA (ta : TA) (σ : L2.St) (H : Hp) (P : List Th → Prop) : Prop := ∀ H1, G H H1 → ∀ Q : List V → Hp → Prop, (∀ vs ts H2, G H1 H2 → RpAll K H2 vs ts → P ts → Q vs H2) → ta σ H1 Q
/-- .. to a list of things -/
def EvPL (te : TE) (σ : L2.St) (H : Hp) (P : List Th → Prop) : Prop := ∀ H1, G H H1 → ∀ Q : VK, (∀ l xs ts H2, G H1 H2 → Ok l → H2 l = some (.lst xs) → RpAll K H2 xs ts → P ts → Q (.ref l) H2) → te σ H1 Q
/-- new places are such -/
def Fr (H : Hp) : Prop := ∀ H1 l, G H H1 → H1 l = none → Ok l
/-- a two-place operation -/
def RP (r : R2) (x y : Th) (P : Th → Prop) : Prop := ∀ v u H, Rp K H v x → Rp K H u y → ∀ Q : VK, (∀ w z H2, Ex H H2 → Rp K H2 w z → P z → Q w H2) → r v u H Q
end
section
variable {G : Hp → Hp → Prop} {Ok : Addr → Prop} {K : PySem.W.Frag} (W : Way G Ok) {σ : L2.St} {H H' : Hp} {ta tb te tx : TE} {P P' P'' : Th → Prop} {v : V} {t : Th} {r : R2}
include W
theorem p_mono (e : G H H') (h : EvP G K te σ H P) : EvP G K te σ H' P := fun H1 g Q q => h H1 (W.trans e g) Q q
theorem p_imp (h : EvP G K te σ H P) (k : ∀ t, P t → P' t) : EvP G K te σ H P' := fun H1 g Q q => h H1 g Q fun v t H2 g2 hr hp => q v t H2 g2 hr (k t hp)
theorem p_var {i : Nat} (h : σ[i]? = some (some v)) (hr : Rp K H v t) (hp : P t) : EvP G K (tVar i) σ H P := fun H1 g Q q => ⟨v, h, q v t H1 (W.refl _) (rp_r (W.exr g) hr) hp⟩
theorem p_ci {i : Int} (hp : P (.int i)) : EvP G K (tC (.int i)) σ H P := fun H1 g Q q => q _ _ H1 (W.refl _) (.int i) hp
theorem p_cb {b : Bool} (hp : P (.bool b)) : EvP G K (tC (.bl b)) σ H P := fun H1 g Q q => q _ _ H1 (W.refl _) (.bl b) hp
theorem p_cs {s : Str} (hp : P (.str s)) : EvP G K (tC (.str s)) σ H P := fun H1 g Q q => q _ _ H1 (W.refl _) (.str s) hp
theorem p_cn (hp : P .none) : EvP G K (tC .non) σ H P := fun H1 g Q q => q _ _ H1 (W.refl _) .non hp
theorem p_op (ha : EvP G K ta σ H P) (hb : EvP G K tb σ H P') (hr : ∀ x y, P x → P' y → RP K r x y P'') : EvP G K (tOp r ta tb) σ H P'' := fun H1 g Q q =>
  ha H1 g _ fun v x H2 g2 hv hx => hb H2 (W.trans g g2) _ fun u y H3 g3 hu hy => hr x y hx hy v u H3 (rp_r (W.exr g3) hv) hu Q fun w z H4 e4 hw hz => q w z H4 (W.trans (W.trans g2 g3) (W.ex e4)) hw hz
theorem pa_nilP {Ps : List Th → Prop} (hp : Ps []) : EvPA G K tNil σ H Ps := fun H1 g Q q => q [] [] H1 (W.refl _) .nil hp
theorem pa_consP {Ps Ps' : List Th → Prop} {tr : TA} (h : EvP G K ta σ H P) (hr : EvPA G K tr σ H Ps) (hp : ∀ t ts, P t → Ps ts → Ps' (t :: ts)) : EvPA G K (tCons ta tr) σ H Ps' := fun H1 g Q q =>
  h H1 g _ fun v t H2 g2 hv ht => hr H2 (W.trans g g2) _ fun vs ts H3 g3 hvs hts => q (v :: vs) (t :: ts) H3 (W.trans g2 g3) (.cons (rp_r (W.exr g3) hv) hvs) (hp t ts ht hts)
theorem p_tup {ta : TA} {Ps : List Th → Prop} (h : EvPA G K ta σ H Ps) (hl : ∀ ts, Ps ts → ts.length ≤ 100000) (hp : ∀ ts, Ps ts → P (.tup ts)) : EvP G K (tTup ta) σ H P := fun H1 g Q q =>
  h H1 g _ fun vs ts H2 g2 hv ht => ⟨by rw [ra_len hv]; exact sz_of (hl ts ht), fun p hn => q (.ref p) (.tup ts) _ (W.trans g2 (W.ex (Ex.new hn))) (.tup (st_of upd_same) (ra_mono (Ex.new hn) hv)) (hp ts ht)⟩
theorem p_lst {ta : TA} {Ps : List Th → Prop} (h : EvPA G K ta σ H Ps) (hl : ∀ ts, Ps ts → ts.length ≤ 100000) (hp : P (.odd .lst)) : EvP G K (tLst ta) σ H P := fun H1 g Q q =>
  h H1 g _ fun vs ts H2 g2 hv ht => ⟨by rw [ra_len hv]; exact sz_of (hl ts ht), fun p hn => q (.ref p) (.odd .lst) _ (W.trans g2 (W.ex (Ex.new hn))) (.lst (sq_of upd_same)) hp⟩
theorem p_dict (hp : P (.odd .dct)) : EvP G K tDNewK σ H P := fun H1 g Q q p hn => q (.ref p) (.odd .dct) _ (W.ex (Ex.new hn)) (.dct upd_same) hp
theorem pl_lst {ta : TA} {Ps : List Th → Prop} (fr : Fr G Ok H) (h : EvPA G K ta σ H Ps) (hl : ∀ ts, Ps ts → ts.length ≤ 100000) : EvPL G Ok K (tLst ta) σ H Ps := fun H1 g Q q =>
  h H1 g _ fun vs ts H2 g2 hv ht => ⟨by rw [ra_len hv]; exact sz_of (hl ts ht), fun p hn => q p vs ts _ (W.trans g2 (W.ex (Ex.new hn))) (fr H2 p (W.trans g g2) hn) upd_same (ra_mono (Ex.new hn) hv) ht⟩
theorem fr_mono (e : G H H') (h : Fr G Ok H) : Fr G Ok H' := fun H1 l g n => h H1 l (W.trans e g) n
/-- a list and a list -/
theorem pl_cat {Ps Ps' Pt : List Th → Prop} (fr : Fr G Ok H) (ha : EvPL G Ok K ta σ H Ps) (hb : EvPL G Ok K tb σ H Ps') (hl : ∀ ts us, Ps ts → Ps' us → ts.length + us.length ≤ 100000) (hp : ∀ ts us, Ps ts → Ps' us → Pt (ts ++ us)) : EvPL G Ok K (tOp rCat ta tb) σ H Pt := fun H1 g Q q =>
  ha H1 g _ fun l xs ts H2 g2 ol hx rx ht => hb H2 (W.trans g g2) _ fun m ys us H3 g3 om hy ry hu => by
    have rx3 := ra_r (W.exr g3) rx
    refine ⟨l, m, xs, ys, rfl, rfl, W.kp g3 ol hx, hy, by rw [ra_len rx, ra_len ry]; exact sz_of (hl ts us ht hu), fun p hn => ?_⟩
    have g13 := W.trans g2 g3
    exact q p _ _ _ (W.trans g13 (W.ex (Ex.new hn))) (fr H3 p (W.trans g g13) hn) upd_same (ra_mono (Ex.new hn) (ra_app rx3 ry)) (hp ts us ht hu)
omit W in
theorem rp_tupI {H : Hp} {v : V} {ts : List Th} (h : Rp K H v (.tup ts)) : ∃ a xs, v = .ref a ∧ SqT K H a xs ∧ RpAll K H xs ts := rp_tup h
omit W in
theorem rp_ixT {ts : List Th} {i : Nat} (h : ts[i]? = some t) (hp : P t) : RP K (rIxT K) (.tup ts) (.int (i : Int)) P := fun v u H hv hu Q q => by
  obtain ⟨a, xs, rfl, hs, ha⟩ := rp_tup hv
  obtain ⟨w, hw, hd⟩ := ra_at ha h
  exact ⟨a, xs, i, w, rfl, rp_int hu, hs, atI_nat hw, q w t H (Ex.refl H) hd hp⟩
omit W in
theorem rp_catT {ts us : List Th} (hl : ts.length + us.length ≤ 100000) (hp : P (.tup (ts ++ us))) : RP K (rCatA K) (.tup ts) (.tup us) P := fun v u H hv hu Q q => by
  obtain ⟨a, xs, rfl, hs, ha⟩ := rp_tup hv
  obtain ⟨b, ys, rfl, ht, hb⟩ := rp_tup hu
  refine ⟨a, b, xs, ys, rfl, rfl, hs, ht, by rw [ra_len ha, ra_len hb]; exact sz_of hl, fun h => ?_, fun _ h => ?_, fun _ _ p hn => ?_⟩
  · subst h
    have : ts = [] := by have := ra_len ha; exact List.length_eq_zero_iff.mp this.symm
    subst this
    exact q _ _ H (Ex.refl H) (.tup ht hb) hp
  · subst h
    have : us = [] := by have := ra_len hb; exact List.length_eq_zero_iff.mp this.symm
    subst this
    rw [List.append_nil] at hp
    exact q _ _ H (Ex.refl H) (.tup hs ha) hp
  · exact q _ _ _ (Ex.new hn) (.tup (st_of upd_same) (ra_mono (Ex.new hn) (ra_app ha hb))) hp
omit W in
theorem rp_repT {ts : List Th} {k : Nat} (h0 : ts ≠ []) (h2 : 2 ≤ k) (h3 : k ≤ 1000) (hl : ts.length ≤ 1000) (hp : P (.tup (List.replicate k ts).flatten)) : RP K (rRepT K) (.tup ts) (.int (k : Int)) P := fun v u H hv hu Q q => by
  obtain ⟨a, xs, rfl, hs, ha⟩ := rp_tup hv
  refine ⟨a, k, xs, rfl, rp_int hu, hs, fun z => h0 ?_, by omega, by omega, by rw [ra_len ha]; exact hl, fun p hn => ?_⟩
  · subst z
    exact List.length_eq_zero_iff.mp (ra_len ha).symm
  · rw [Int.toNat_natCast]
    exact q _ _ _ (Ex.new hn) (.tup (st_of upd_same) (ra_mono (Ex.new hn) (ra_rep ha k))) hp
omit W in
theorem rp_I0 {g : Int → Int → Int} {i j : Int} (hp : P (.int (g i j))) : RP K (rI0 fun i j => .int (g i j)) (.int i) (.int j) P := fun v u H hv hu Q q => ⟨i, j, rp_int hv, rp_int hu, q _ _ H (Ex.refl H) (.int _) hp⟩
omit W in
theorem rp_I {C : Int → Int → Prop} {g : Int → Int → Int} {i j : Int} (hc : C i j) (hp : P (.int (g i j))) : RP K (rI C fun i j => .int (g i j)) (.int i) (.int j) P := fun v u H hv hu Q q => ⟨i, j, rp_int hv, rp_int hu, hc, q _ _ H (Ex.refl H) (.int _) hp⟩
/-- x[lo:hi] of a tuple; the parts come to ints -/
theorem p_cut {tl th : TO} {lo hi : Option Int} (h : EvP G K te σ H fun t => ∃ ts, t = .tup ts ∧ P (.tup ((ts.drop (HT.sIx ts.length 0 lo)).take (HT.sIx ts.length ts.length hi - HT.sIx ts.length 0 lo))))
    (hl : ∀ H1, G H H1 → ∀ Q : Option Int → Hp → Prop, (∀ H2, Ex H1 H2 → Q lo H2) → tl σ H1 Q) (hh : ∀ H1, G H H1 → ∀ Q : Option Int → Hp → Prop, (∀ H2, Ex H1 H2 → Q hi H2) → th σ H1 Q) : EvP G K (tSl (rSlA K) te tl th) σ H P := fun H1 g Q q =>
  h H1 g _ fun v t H2 g2 hv ht => hl H2 (W.trans g g2) _ fun H3 e3 => hh H3 (W.trans (W.trans g g2) (W.ex e3)) _ fun H4 e4 => by
    obtain ⟨ts, rfl, hp⟩ := ht
    obtain ⟨a, xs, rfl, hs, ha⟩ := rp_tup (rp_mono (e3.trans e4) hv)
    have hn : xs.length = ts.length := ra_len ha
    have g4 := W.trans g2 (W.ex (e3.trans e4))
    refine ⟨a, xs, rfl, hs, fun hw => ?_, fun hw p hp' => ?_⟩
    · rw [hn] at hw
      rw [hw.1, hw.2, List.drop_zero, Nat.sub_zero, List.take_of_length_le (Nat.le_refl _)] at hp
      exact q _ _ H4 g4 (.tup hs ha) hp
    · refine q _ _ _ (W.trans g4 (W.ex (Ex.new hp'))) (.tup (st_of upd_same) ?_) hp
      unfold cutV
      rw [hn]
      exact ra_mono (Ex.new hp') (ra_take _ (ra_drop _ ha))
/-- tuple(a list) -/
abbrev rTupOf (K : PySem.W.Frag) : List V → Hp → VK → Prop := fun xs H Q => ∃ p ys, xs = [.ref p] ∧ ((SqL K H p ys ∧ ∀ l, H l = none → Q (.ref l) (upd H l (.tup ys))) ∨ (SqT K H p ys ∧ Q (.ref p) H))
theorem p_tupL {Ps : List Th → Prop} (h : EvPL G Ok K te σ H Ps) (hp : ∀ ts, Ps ts → P (.tup ts)) :
    EvP G K (tCB (rTupOf K) (tCons te tNil)) σ H P := fun H1 g Q q =>
  h H1 g _ fun l xs ts H2 g2 _ hl hx ht => ⟨l, xs, rfl, .inl ⟨sq_of hl, fun m hm => q _ _ _ (W.trans g2 (W.ex (Ex.new hm))) (.tup (st_of upd_same) (ra_mono (Ex.new hm) hx)) (hp ts ht)⟩⟩
/-- list(a tuple) -/
theorem p_lstT (h : EvP G K te σ H fun t => ∃ ts, t = .tup ts) (hp : P (.odd .lst)) :
    EvP G K (tCB (fun xs H Q => ∃ p ys, xs = [.ref p] ∧ (SqL K H p ys ∨ SqT K H p ys) ∧ ∀ l, H l = none → Q (.ref l) (upd H l (.lst ys))) (tCons te tNil)) σ H P := fun H1 g Q q =>
  h H1 g _ fun v t H2 g2 hv ht => by
    obtain ⟨ts, rfl⟩ := ht
    obtain ⟨a, xs, rfl, hs, ha⟩ := rp_tup hv
    exact ⟨a, xs, rfl, .inr hs, fun l hn => q _ _ _ (W.trans g2 (W.ex (Ex.new hn))) (.lst (sq_of upd_same)) hp⟩
/-- xs[i], a list of things -/
theorem p_ixL {Ps : List Th → Prop} (ha : EvPL G Ok K ta σ H Ps) (hb : EvP G K tb σ H P') (hp : ∀ ts y, Ps ts → P' y → ∃ (i : Nat) (t : Th), y = .int (i : Int) ∧ ts[i]? = some t ∧ P t) : EvP G K (tOp (rIxL K) ta tb) σ H P := fun H1 g Q q =>
  ha H1 g _ fun l xs ts H2 g2 ol hl hx ht => hb H2 (W.trans g g2) _ fun u y H3 g3 hu hy => by
    obtain ⟨i, t, rfl, hi, hpt⟩ := hp ts y ht hy
    obtain ⟨w, hw, hd⟩ := ra_at (ra_r (W.exr g3) hx) hi
    exact ⟨l, xs, i, w, rfl, rp_int hu, sq_of (W.kp g3 ol hl), atI_nat hw, q w t H3 (W.trans g2 g3) hd hpt⟩
end
end TH

set_option Elab.async false
set_option linter.all false
set_option maxRecDepth 100000
set_option maxHeartbeats 4000000
namespace TH
open PySem PySem.Spec PyProof.Rows L2 Evl DL GX YA EX

/-! ### walks that digits may be drawn in -/
def WkG (G : Hp → Hp → Prop) {α : Type} (S : Hp → V → α → Prop) (J : It) (H : Hp) (as : List α) : Prop := ∃ (Gd : Hp → Prop) (Y : Nat → Hp → V → Hp → Prop), Walk J as.length Gd Y ∧ (∀ H1, G H H1 → Gd H1) ∧
  ∀ i H1 x H2, G H H1 → Y i H1 x H2 → G H1 H2 ∧ ∃ d, as[i]? = some d ∧ S H2 x d
def EvWG (G : Hp → Hp → Prop) {α : Type} (S : Hp → V → α → Prop) (wi : TI) (σ : L2.St) (H : Hp) (as : List α) : Prop := ∀ H1, G H H1 → ∀ R : It → Hp → Prop, (∀ J H2, G H1 H2 → WkG G S J H2 as → R J H2) → wi σ H1 R
section
variable {G : Hp → Hp → Prop} {Ok : Addr → Prop} {K : PySem.W.Frag} (W : Way G Ok) {σ : L2.St} {H H' : Hp} {te tl : TE} {v : V} {wi : TI} {g : TG}
include W
theorem wg_tup {ts : List Th} (h : EvP G K tl σ H fun t => t = .tup ts) : EvWG G (Rp K) (iTup K tl) σ H ts := fun H1 e R q => h H1 e _ fun v t H2 g2 hr ht => by
  subst ht
  obtain ⟨a, xs, rfl, hs, ha⟩ := rp_tup hr
  refine ⟨a, rfl, ⟨xs, hs⟩, q _ H2 g2 ⟨fun H3 => SqT K H3 a xs, YAt xs, by rw [← ra_len ha]; exact walk_tup (xs := xs), fun H3 g3 => hs.imp ((W.exr g3).tup _ _) id, fun i H3 x H4 g3 y => ?_⟩⟩
  obtain ⟨rfl, hx⟩ := y
  exact ⟨W.refl _, ra_get (ra_r (W.exr g3) ha) hx⟩
theorem wg_rng {n : Nat} (hn : n ≤ 100000) (h : EvP G K te σ H fun t => t = .int (n : Int)) : EvWG G (fun _ x (i : Nat) => x = .int (i : Int)) (iRng1 (tCons te tNil)) σ H (List.range n) := fun H1 e R q => h H1 e _ fun v t H2 g2 hr ht => by
  subst ht
  cases rp_int hr
  refine ⟨(n : Int), rfl, by omega, by omega, q _ H2 g2 ⟨fun _ => True, fun i H x H' => H' = H ∧ x = .int ((0 : Int) + (i : Nat)) ∧ i < n, ?_, fun H3 _ => trivial, fun i H3 x H4 e3 y => ?_⟩⟩
  · rw [List.length_range, Int.toNat_natCast]
    exact ⟨fun _ _ hi _ => hi, fun _ _ => Nat.le_refl _, fun _ _ _ _ hi _ y => ⟨y.1, y.2, hi⟩⟩
  · obtain ⟨rfl, rfl, hi⟩ := y
    exact ⟨W.refl _, i, List.getElem?_range hi, by rw [Int.zero_add]⟩
/-- over a list of things, whatever becomes of lists elsewhere: the walked one is ours -/
theorem wg_lst {Ps : List Th → Prop} {ts : List Th} (h : EvPL G Ok K tl σ H fun us => us = ts) : EvWG G (Rp K) (iList K tl) σ H ts := fun H1 e R q => h H1 e _ fun l xs us H2 g2 ol hl ha ht => by
  subst ht
  refine ⟨l, rfl, ⟨xs, sq_of hl⟩, q _ H2 g2 ⟨fun H3 => SqL K H3 l xs, YAt xs, by rw [← ra_len ha]; exact walk_list (xs := xs), fun H3 g3 => sq_of (W.kp g3 ol hl), fun i H3 x H4 g3 y => ?_⟩⟩
  obtain ⟨rfl, hx⟩ := y
  exact ⟨W.refl _, ra_get (ra_r (W.exr g3) ha) hx⟩
/-- [e for x in it], of things -/
theorem pl_lc {α : Type} {S : Hp → V → α → Prop} {vs : List Nat} {as : List α} (Pe : α → Th → Prop) (fr : Fr G Ok H) (hw : EvWG G S wi σ H as) (hz : as.length ≤ 40000)
    (hs : ∀ (i : Nat) (d : α) (x : V) (H1 : Hp), G H H1 → as[i]? = some d → S H1 x d → ∃ σ2, TgD g x (wipe σ vs) H1 σ2 ∧ wipe σ2 vs = wipe σ vs ∧ EvP G K te σ2 H1 (Pe d)) :
    EvPL G Ok K (tLc wi g tYes te vs) σ H (fun ts => ts.length = as.length ∧ ∀ (j : Nat) (t : Th) (d : α), ts[j]? = some t → as[j]? = some d → Pe d t) := fun H0 g0 Q q => hw H0 g0 _ fun J H1 g1 wk D hD => by
  obtain ⟨Gd, Y, wlk, hG, hY⟩ := wk
  have oD : Ok D := fr H1 D (W.trans g0 g1) hD
  refine lc_it (σ := σ) wlk (fun i H' => G H1 H' ∧ ∃ xs ts, H' D = some (.lst xs) ∧ RpAll K H' xs ts ∧ ts.length = i ∧ ∀ (j : Nat) (t : Th) (d : α), ts[j]? = some t → as[j]? = some d → Pe d t)
    ⟨W.ex (Ex.new hD), [], [], upd_same, .nil, rfl, fun j t d h => by simp at h⟩ (fun i H' _ p => hG H' p.1) (fun i x H2 H3 hi p y => ?_) (fun H' p => ?_)
  · obtain ⟨gi, xs, ts, hx, ha, hl, hp⟩ := p
    obtain ⟨gy, d, hd, hS⟩ := hY i H2 x H3 gi y
    obtain ⟨σ2, tg, hwp, he⟩ := hs i d x H3 (W.trans (W.trans g0 g1) (W.trans gi gy)) hd hS
    refine tg H3 (Ex.refl H3) _ ⟨hwp, ?_⟩
    show te σ2 H3 _
    refine he H3 (W.refl H3) _ fun v t H5 g5 hv ht => ?_
    have g35 := W.trans gy g5
    have xD : H5 D = some (.lst xs) := W.kp g35 oD hx
    have hxl : xs.length = i := by rw [ra_len ha, hl]
    refine ⟨xs, xD, sz_lt (by omega), W.put (W.trans gi g35) hD xD, xs ++ [v], ts ++ [t], upd_same, ra_r (exr_upd xD) (ra_app (ra_r (W.exr g35) ha) (.cons hv .nil)), by rw [List.length_append, hl]; rfl, fun j t' d' h1 h2 => ?_⟩
    by_cases hj : j < i
    · rw [List.getElem?_append_left (by omega)] at h1
      exact hp j t' d' h1 h2
    · rw [List.getElem?_append_right (by omega)] at h1
      have hj2 : j = i := by
        cases hh : j - ts.length with
        | zero => omega
        | succ m => rw [hh] at h1; simp at h1
      subst hj2
      rw [hl, Nat.sub_self] at h1
      simp at h1
      subst h1
      rw [hd] at h2
      cases h2
      exact ht
  · obtain ⟨gi, xs, ts, hx, ha, hl, hp⟩ := p
    exact q D xs ts H' (W.trans g1 gi) oD hx ha ⟨hl, hp⟩
end
/-! ### for, over a walk told by a relation -/
section
variable {σ : L2.St} {H : Hp} {wi : TI} {g : TG} {tu tz : TS} {D : Ends} {K : PySem.W.Frag} {te : TE}
theorem q_forW {α : Type} {S : Hp → V → α → Prop} {as : List α} (hw : EvWR S wi σ H as) (Pv : Hp → Nat → L2.St → Hp → Prop) (h0 : ∀ H1, Ex H H1 → Pv H1 0 σ H1) (hx : ∀ H1 i σ' H', Pv H1 i σ' H' → Ex H1 H')
    (hs : ∀ (H1 : Hp) (i : Nat) (d : α) (x : V) (σ' : L2.St) (H' H2 : Hp), Ex H H1 → as[i]? = some d → Pv H1 i σ' H' → Ex H' H2 → S H2 x d → ∃ σ2, TgD g x σ' H2 σ2 ∧ tu { D with nx := Pv H1 (i + 1), ct := Pv H1 (i + 1), bk := tz D } σ2 H2) (hd : ∀ H1 σ' H', Ex H H1 → Pv H1 as.length σ' H' → tz D σ' H') :
    tSeq (tFor wi g tu) tz D σ H := hw H (Ex.refl H) _ fun J H1 e1 wk => by
  obtain ⟨Gd, Y, wlk, hG, hY⟩ := wk
  refine for_it (D := { D with nx := tz D }) wlk (Pv H1) (h0 H1 e1) (fun i σ' H' _ p => hG H' (hx _ _ _ _ p)) (fun i x σ' H2 H3 hi p y => ?_) (fun σ' H' p => hd H1 σ' H' e1 p)
  obtain ⟨ey, d, hd', hS⟩ := hY i H2 x H3 (hx _ _ _ _ p) y
  obtain ⟨σ2, tg, hu⟩ := hs H1 i d x σ' H2 H3 e1 hd' p ey hS
  exact tg H3 (Ex.refl H3) _ hu
/-- [e for x in it], of data -/
theorem ed_lcR {α : Type} {S : Hp → V → α → Prop} {vs : List Nat} {as : List α} (f : α → PyData) (hw : EvWR S wi σ H as) (hz : as.length ≤ 40000)
    (hs : ∀ (i : Nat) (d : α) (x : V) (H1 : Hp), Ex H H1 → as[i]? = some d → S H1 x d → ∃ σ2, TgD g x (wipe σ vs) H1 σ2 ∧ wipe σ2 vs = wipe σ vs ∧ noL (f d) = true ∧ EvD K te σ2 H1 (f d)) :
    EvD K (tLc wi g tYes te vs) σ H (.list (as.map f)) := fun H0 e0 Q q => hw H0 e0 _ fun J H1 e1 wk D hD => by
  obtain ⟨Gd, Y, wlk, hG, hY⟩ := wk
  refine lc_it (σ := σ) wlk (fun i H' => Ex H1 H' ∧ noLs ((as.take i).map f) = true ∧ ∃ xs, H' D = some (.lst xs) ∧ xs.length ≤ i ∧ DpAll K H' xs ((as.take i).map f))
    ⟨Ex.new hD, rfl, [], upd_same, Nat.le_refl _, .nil⟩ (fun i H' _ p => hG H' p.1) (fun i x H2 H3 hi p y => ?_) (fun H' p => ?_)
  · obtain ⟨ex, hn, xs, hx, hl, ha⟩ := p
    obtain ⟨ey, d, hd, hS⟩ := hY i H2 x H3 ex y
    obtain ⟨σ2, tg, hwp, hno, he⟩ := hs i d x H3 ((e0.trans e1).trans (ex.trans ey)) hd hS
    refine tg H3 (Ex.refl H3) _ ⟨hwp, ?_⟩
    show te σ2 H3 _
    refine he H3 (Ex.refl H3) _ fun v H5 e5 hv => ?_
    have tk : as.take (i + 1) = as.take i ++ [d] := by rw [List.take_add_one, hd]; rfl
    have xD : H5 D = some (.lst xs) := e5 _ _ (ey _ _ hx)
    refine ⟨xs, xD, sz_lt (by omega), Ex.mut (ex.trans (ey.trans e5)) hD, ?_, xs ++ [v], upd_same, by rw [List.length_append]; show xs.length + 1 ≤ i + 1; omega, ?_⟩
    · rw [tk, List.map_append]
      exact noLs_snoc hn hno
    · rw [tk, List.map_append]
      exact da_monoT (ext_upd xD) (noLs_snoc hn hno) (da_snoc (da_mono (ey.trans e5) ha) hv)
  · obtain ⟨ex, hn, xs, hx, hl, ha⟩ := p
    rw [List.take_of_length_le (Nat.le_refl _)] at ha
    exact q (.ref D) H' (e1.trans ex) (.lst (sq_of hx) ha)
/-- all([e for x in it]) -/
theorem ev_allL {α : Type} {S : Hp → V → α → Prop} {vs : List Nat} {as : List α} (f : α → Bool) (hw : EvWR S wi σ H as) (hz : as.length ≤ 40000)
    (hs : ∀ (i : Nat) (d : α) (x : V) (H1 : Hp), Ex H H1 → as[i]? = some d → S H1 x d → ∃ σ2, TgD g x (wipe σ vs) H1 σ2 ∧ wipe σ2 vs = wipe σ vs ∧ Ev te σ2 H1 (.bl (f d))) :
    Ev (tCB (rAll K) (tCons (tLc wi g tYes te vs) tNil)) σ H (.bl (as.all f)) := by
  have z := ed_lcR (K := K) (g := g) (te := te) (vs := vs) (fun d => .bool (f d)) hw hz fun i d x H1 e hd hS => by
    obtain ⟨σ2, a, b, c⟩ := hs i d x H1 e hd hS
    exact ⟨σ2, a, b, rfl, ed_bool c⟩
  have e : as.map (fun d => PyData.bool (f d)) = (as.map f).map .bool := by rw [List.map_map]; rfl
  rw [e] at z
  have r := ev_bool (ed_cbt (eda_cons z eda_nil) rdc_all)
  rwa [List.all_map] at r
end
end TH

set_option Elab.async false
set_option linter.all false
set_option maxRecDepth 100000
set_option maxHeartbeats 4000000
/-! What is asked of things of any kind, in plain words. -/
namespace TV
open PySem PySem.Spec PyProof.Rows L2 Evl DL GX YA EX TH
/-! ### what is asked -/
def isWhole : Th → Bool
  | .int _ => true
  | _ => false
def asInt : Th → Int
  | .int i => i
  | _ => 0
def isWithin (t : Th) (lo hi : Int) : Bool := isWhole t && (decide (lo ≤ asInt t) && decide (asInt t ≤ hi))
def parts : Th → List Th
  | .tup ts => ts
  | _ => []
def isTup (t : Th) : Bool := isIn t "tuple"
def isTupleOf (t : Th) (lo hi : Int) : Bool := isTup t && (decide (lo ≤ ((parts t).length : Int)) && decide (((parts t).length : Int) ≤ hi))
theorem whole_in (t : Th) : (isIn t "int" && !isIn t "bool") = isWhole t := by
  cases t with
  | odd o => cases o <;> rfl
  | _ => rfl
theorem tup_of {t : Th} (h : isTup t = true) : ∃ ts, t = .tup ts := by
  cases t with
  | tup ts => exact ⟨ts, rfl⟩
  | odd o => cases o <;> cases h
  | _ => cases h
theorem int_of {t : Th} (h : isWhole t = true) : ∃ i, t = .int i := by
  cases t with
  | int i => exact ⟨i, rfl⟩
  | _ => cases h
theorem int_within {t : Th} {lo hi : Int} (h : isWithin t lo hi = true) : ∃ i, t = .int i ∧ lo ≤ i ∧ i ≤ hi := by
  unfold isWithin at h
  rw [Bool.and_eq_true, Bool.and_eq_true] at h
  obtain ⟨i, rfl⟩ := int_of h.1
  exact ⟨i, rfl, of_decide_eq_true h.2.1, of_decide_eq_true h.2.2⟩
theorem tup_len {t : Th} {lo hi : Int} (h : isTupleOf t lo hi = true) : ∃ ts, t = .tup ts ∧ lo ≤ (ts.length : Int) ∧ (ts.length : Int) ≤ hi := by
  unfold isTupleOf at h
  rw [Bool.and_eq_true, Bool.and_eq_true] at h
  obtain ⟨ts, rfl⟩ := tup_of h.1
  exact ⟨ts, rfl, of_decide_eq_true h.2.1, of_decide_eq_true h.2.2⟩
def Tb (Ps : List Addr) (H : Hp) : Prop := ∀ P ∈ Ps, H P = some (TabE P)
theorem Tb.ex {Ps : List Addr} {H H' : Hp} (e : Ex H H') (h : Tb Ps H) : Tb Ps H' := fun P hp => e _ _ (h P hp)
/-- a def of things that tells a truth, where F says which -/
def spF (K : PySem.W.Frag) (Ps : List Addr) (F : List Th → Option Bool) : Sp := fun vs H Q _ => ∃ ts b, RpAll K H vs ts ∧ F ts = some b ∧ Tb Ps H ∧ ∀ H', Ex H H' → Q (.bl b) H'
section
variable {K : PySem.W.Frag} {Ps : List Addr} {σ : L2.St} {H : Hp} {te : TE} {D : Ends}
theorem ev_callF {F : List Th → Option Bool} {ta : TA} {E : XK} {vs : List V} {ts : List Th} {b : Bool} (ha : EvA ta σ H vs) (hr : RpAll K H vs ts) (hF : F ts = some b) (hT : Tb Ps H) : Ev (tCall (spF K Ps F) [] E ta) σ H (.bl b) := fun H1 e Q q =>
  ha H1 e _ fun H2 e2 => ⟨ts, b, by rw [List.append_nil]; exact ra_mono (e.trans e2) hr, hF, hT.ex (e.trans e2), fun H3 e3 => q H3 (e2.trans e3)⟩
theorem sr_ret {v : V} (h : Ev te σ H v) (k : ∀ H1, Ex H H1 → D.rt v H1) : tRet te D σ H := h H (Ex.refl H) _ fun H1 e => k H1 e
theorem len_spF {F : List Th → Option Bool} {n : Nat} (hn : ∀ ts b, F ts = some b → ts.length = n) : ∀ vs H Q E, spF K Ps F vs H Q E → vs.length = n := fun vs H Q E h => by
  obtain ⟨ts, b, hr, hF, _⟩ := h
  rw [ra_len hr]
  exact hn ts b hF
end
theorem f3_is {g : Th → Int → Int → Bool} {F : List Th → Option Bool} (hF : ∀ ts, F ts = match ts with | [t, .int a, .int b] => some (g t a b) | _ => none) {ts : List Th} {b : Bool} (h : F ts = some b) : ∃ t lo hi, ts = [t, .int lo, .int hi] ∧ b = g t lo hi := by
  rw [hF] at h
  split at h
  · exact ⟨_, _, _, rfl, (Option.some.inj h).symm⟩
  · cases h
theorem f2_is {g : Th → Int → Bool} {F : List Th → Option Bool} (hF : ∀ ts, F ts = match ts with | [t, .int a] => some (g t a) | _ => none) {ts : List Th} {b : Bool} (h : F ts = some b) : ∃ t n, ts = [t, .int n] ∧ b = g t n := by
  rw [hF] at h
  split at h
  · exact ⟨_, _, rfl, (Option.some.inj h).symm⟩
  · cases h
theorem f1_is {g : Th → Bool} {F : List Th → Option Bool} (hF : ∀ ts, F ts = match ts with | [t] => some (g t) | _ => none) {ts : List Th} {b : Bool} (h : F ts = some b) : ∃ t, ts = [t] ∧ b = g t := by
  rw [hF] at h
  split at h
  · exact ⟨_, rfl, (Option.some.inj h).symm⟩
  · cases h
def fn1 (g : Th → Bool) : List Th → Option Bool := fun ts => match ts with | [t] => some (g t) | _ => none
def fn2 (g : Th → Int → Bool) : List Th → Option Bool := fun ts => match ts with | [t, .int a] => some (g t a) | _ => none
def fn3 (g : Th → Int → Int → Bool) : List Th → Option Bool := fun ts => match ts with | [t, .int a, .int b] => some (g t a b) | _ => none
theorem fn1_is {g : Th → Bool} {ts : List Th} {b : Bool} (h : fn1 g ts = some b) : ∃ t, ts = [t] ∧ b = g t := f1_is (fun _ => rfl) h
theorem fn2_is {g : Th → Int → Bool} {ts : List Th} {b : Bool} (h : fn2 g ts = some b) : ∃ t n, ts = [t, .int n] ∧ b = g t n := f2_is (fun _ => rfl) h
theorem fn3_is {g : Th → Int → Int → Bool} {ts : List Th} {b : Bool} (h : fn3 g ts = some b) : ∃ t lo hi, ts = [t, .int lo, .int hi] ∧ b = g t lo hi := f3_is (fun _ => rfl) h
section
variable {K : PySem.W.Frag}
theorem ra1 {H : Hp} {vs : List V} {t : Th} (h : RpAll K H vs [t]) : ∃ v, vs = [v] ∧ Rp K H v t := by
  cases h with
  | cons h1 h2 =>
    cases h2
    exact ⟨_, rfl, h1⟩
theorem ra2 {H : Hp} {vs : List V} {t u : Th} (h : RpAll K H vs [t, u]) : ∃ v w, vs = [v, w] ∧ Rp K H v t ∧ Rp K H w u := by
  cases h with
  | cons h1 h2 =>
    obtain ⟨w, rfl, h3⟩ := ra1 h2
    exact ⟨_, w, rfl, h1, h3⟩
theorem ra3 {H : Hp} {vs : List V} {t u x : Th} (h : RpAll K H vs [t, u, x]) : ∃ v w y, vs = [v, w, y] ∧ Rp K H v t ∧ Rp K H w u ∧ Rp K H y x := by
  cases h with
  | cons h1 h2 =>
    obtain ⟨w, y, rfl, h3, h4⟩ := ra2 h2
    exact ⟨_, w, y, rfl, h1, h3, h4⟩
end
theorem all_no {α : Type} {as : List α} {f : α → Bool} {i : Nat} {d : α} (h : as[i]? = some d) (hf : f d = false) : as.all f = false := by
  rw [List.all_eq_false]
  exact ⟨d, List.mem_of_getElem? h, by rw [hf]; exact Bool.false_ne_true⟩
theorem all_take {α : Type} {as : List α} {f : α → Bool} {i : Nat} {d : α} (h : as[i]? = some d) (h0 : (as.take i).all f = true) (hf : f d = true) : (as.take (i + 1)).all f = true := by
  rw [List.take_add_one, h, List.all_append, h0]
  simp [hf]
theorem tb_nil {H : Hp} : Tb [] H := fun P h => nomatch h
end TV

set_option Elab.async false
set_option linter.all false
set_option maxRecDepth 100000
set_option maxHeartbeats 4000000
/-! t[::-1], t a tuple. -/
namespace EX
open PySem PySem.Spec PyProof.Rows L2 Evl DL GX YA TH
section
variable {prog : Program} {w : World} {A : Around} {E : Value → Shared → Prop} {s : Shared}
theorem turned_pick (xs : Array Value) : ((List.range xs.size).filterMap fun (m : Nat) => xs[(((xs.size : Int) - 1) + (m : Int) * -1).toNat]?).toArray = xs.toList.reverse.toArray := by
  have e0 : (List.range xs.size).map (fun (m : Nat) => (((xs.size : Int) - 1) + (m : Int) * -1).toNat) = (List.range xs.size).map fun m => xs.size - 1 - m := List.map_congr_left fun m hm => by
    have hl := List.mem_range.mp hm
    omega
  have e1 : (List.range xs.size).filterMap (fun (m : Nat) => xs[(((xs.size : Int) - 1) + (m : Int) * -1).toNat]?) = ((List.range xs.size).map fun (m : Nat) => (((xs.size : Int) - 1) + (m : Int) * -1).toNat).filterMap (xs[·]?) := by rw [List.filterMap_map]; rfl
  rw [e1, e0, PySem.W.krv_range, List.filterMap_reverse, PySem.W.krv_all]
theorem applied_turned {sl : Addr} {vl vu vs : Value} {n : Nat} {Q : Int × Int × Nat → Shared → Prop} (hs : s.heap.IsSliceOf sl vl vu vs) (pl : IsPart vl none) (pu : IsPart vu none) (ps : IsPart vs (some (-1))) (h : Q ((n : Int) - 1, -1, n) s) :
    wpAny (model prog w) A (Builtin.Slice.sliceApplied (.ref sl) (pure (n : Int))) Q E s := by
  obtain ⟨os, hos, hcs, hds⟩ := id hs
  unfold Builtin.Slice.sliceApplied Builtin.Slice.sliceFields
  refine wpAny_bind (wpAny_bind (wpAny_field hos hds (x := vl) rfl (wpAny_bind (wpAny_field hos hds (x := vu) rfl (wpAny_bind (wpAny_field hos hds (x := vs) rfl (wpAny_pure ?_)))))))
  refine wpAny_bind (HT.slicePart_ ps ?_)
  show wpAny _ _ (if ((-1 : Int) == 0) = true then _ else _) _ _ s
  rw [if_neg (by decide)]
  refine wpAny_bind (HT.slicePart_ pl (wpAny_bind (HT.slicePart_ pu (wpAny_bind (wpAny_pure ?_)))))
  have e1 : Builtin.Slice.sliceAdjust none none (-1) (n : Int) = ((n : Int) - 1, -1) := rfl
  show wpAny _ _ (match Builtin.Slice.sliceAdjust none none (-1) (n : Int) with | (lo, hi) => pure (lo, (-1 : Int), Builtin.Slice.slicePlaces lo hi (-1))) _ _ s
  rw [e1]
  have e2 : Builtin.Slice.slicePlaces ((n : Int) - 1) (-1) (-1) = n := by
    unfold Builtin.Slice.slicePlaces
    rw [if_neg (by decide)]
    by_cases hn : (n : Int) - 1 > -1
    · rw [if_pos hn, show (- -1 : Int) = 1 by decide, Int.ediv_one]
      omega
    · rw [if_neg hn]
      omega
  show wpAny _ _ (pure ((n : Int) - 1, (-1 : Int), Builtin.Slice.slicePlaces ((n : Int) - 1) (-1) (-1))) _ _ s
  rw [e2]
  exact wpAny_pure h
theorem tuple_turned {t sl : Addr} {items : Array Value} {vl vu vs : Value} {Q : Value → Shared → Prop} (ht : IsTup s.heap t items) (hs : s.heap.IsSliceOf sl vl vu vs) (pl : IsPart vl none) (pu : IsPart vu none) (ps : IsPart vs (some (-1)))
    (h : Q (.ref s.heap.objs.size) { s with heap := s.heap.push { cls := .type "tuple", data := .seq items.toList.reverse.toArray } }) (hsz : items.size ≤ sizeLine) : wpAny (model prog w) A (getItem (.ref t) (.ref sl)) Q E s := by
  have fits : sizeOk (.seq items.toList.reverse.toArray) := by
    show items.toList.reverse.toArray.size ≤ sizeLine
    rw [List.size_toArray, List.length_reverse, Array.length_toList]
    exact hsz
  obtain ⟨os, hos, hcs, hds⟩ := id hs
  have hTs : s.TypeIs (.ref sl) "slice" := ⟨os, hos, hcs⟩
  unfold getItem
  try with_reducible refine wpAny_holding ?_
  first | refine wpAny_bind (wpAny_pure ?_) | skip
  refine wpAny_bind (wpAny_sequenceKey ht.typeIs (by decide) (wpAny_bind (wpAny_callSpecial?_slot (name := Str.ofString "__getitem__") ht.typeIs PyProof.Rows.slot_tuple_getitem
    (wpAny_call_entry PyProof.Rows.slot_tuple_getitem ht.typeIs entry_tuple_getitem ?_ (args_tuple_getitem _ _)))))
  show wpAny _ _ (Builtin.Tuple.tupleItemsOf (.ref t) >>= _) _ _ s
  refine wpAny_bind (tupleItemsOf_ ht (wpAny_bind (wpAny_typeOf hTs ?_)))
  rw [if_pos (by decide)]
  refine wpAny_bind (applied_turned hs pl pu ps ?_)
  show wpAny _ _ (if (((items.size : Int) - 1) == 0 && (-1 : Int) == 1 && items.size == items.size) = true then _ else _) _ _ s
  rw [if_neg (by simp), turned_pick]
  first
    | exact wpAny_bind (m := Builtin.Tuple.tupleExact _) (wpAny_newObj_type (wpAny_pure ⟨_, rfl, wpAny_pure h⟩) fits)
    | exact wpAny_bind (m := Builtin.Tuple.tupleExact _) (wpAny_newObj_type (wpAny_bind (wpAny_pure (wpAny_pure ⟨_, rfl, wpAny_pure h⟩))) fits)
    | exact wpAny_bind (wpAny_bind (m := Builtin.Tuple.tupleExact _) (wpAny_newObj_type (wpAny_pure (wpAny_pure ⟨_, rfl, wpAny_pure h⟩)) fits))
    | exact wpAny_bind (wpAny_bind (m := Builtin.Tuple.tupleExact _) (wpAny_newObj_type (wpAny_pure ⟨_, rfl, wpAny_pure h⟩) fits))
end
def tRevT (K : PySem.W.Frag) (te : TE) : TE := fun σ H Q => te σ H fun x H1 => ∃ a xs, x = .ref a ∧ SqT K H1 a xs ∧ ∀ p, H1 p = none → Q (.ref p) (upd H1 p (.tup xs.reverse))
theorem pe_revT {X : Cx} {e : Expr} {te : TE} {k : Nat} {p1 p2 p3 pos : Pos} (he : PE X e te) : PE X (.Subscript e (.Slice none none (some (.UnaryOp .USub (.Constant (.int 1) k p1) p2)) p3) pos) (tRevT X.K te) := by
  refine ⟨fun pins s σ H Q I h => Subscript_ (thn (he.run pins s σ H _ I h) fun v s1 ⟨x, H1, I1, r1, a, xs, ex, hx, q⟩ => ?_)⟩
  subst ex
  cases r1
  have back : PO X (some (.UnaryOp .USub (.Constant (.int 1) k p1) p2)) (tPart (tUn (rU fun i => .int (-i)) (tC (.int 1)))) := po_some (pe_un un_neg pe_int)
  refine wpAny_Slice (thn (po_none.run pins s1 σ H1 (fun o H2 => o = none ∧ H2 = H1) I1 ⟨rfl, rfl⟩) fun vl s2 ⟨l, H2, I2, pl, el, e2⟩ => ?_)
  subst el e2
  refine thn (po_none.run pins s2 σ H2 (fun o H3 => o = none ∧ H3 = H2) I2 ⟨rfl, rfl⟩) fun vu s3 ⟨u, H3, I3, pu, eu, e3⟩ => ?_
  subst eu e3
  refine thn (back.run pins s3 σ H3 (fun o H4 => o = some (-1) ∧ H4 = H3) I3 ⟨1, rfl, -1, rfl, rfl, rfl⟩) fun vs s4 ⟨o, H4, I4, ps, eo, e4⟩ => ?_
  subst eo e4
  have I5 : Inv X pins σ H4 { s4 with heap := s4.heap.push { cls := .type "slice", data := .fields #[vl, vu, vs] } } := I4.kept (t' := s4.toks) fun b ob z => Heap.get?_push_of_some _ z
  obtain ⟨its, r, ht, hz⟩ := I5.tuple hx
  have hlen : its.length = xs.length := r.length.symm
  show wpAny (model X.prog X.w) X.A (subscriptTail e (.Slice none none (some (.UnaryOp .USub (.Constant (.int 1) k p1) p2)) p3) (.ref a) (.ref s4.heap.objs.size)) (EP X pins σ Q) X.xe { s4 with heap := s4.heap.push { cls := .type "slice", data := .fields #[vl, vu, vs] } }
  refine tail_any (ops := [.ref a, .ref s4.heap.objs.size]) ht.typeIs (PyProof.Rows.slot_tuple_getitem.lookup) ?_ (by with_unfolding_all rfl)
  refine tuple_turned ht (Heap.IsSliceOf.new _ vl vu vs) pl pu ps ?_ (by rw [List.size_toArray]; omega)
  refine ⟨.ref _, _, I5.laid (t' := s4.toks) (o := .tup xs.reverse) (fun b ob z => Heap.get?_push_of_some _ z) (Nat.le_refl _) ?_, rfl, q _ (I5.hok.fresh (Nat.le_refl _))⟩
  exact ⟨by rw [List.length_reverse]; exact hz, _, r.reverse, IsTup.new _ _⟩
theorem p_rev {G : Hp → Hp → Prop} {Ok : Addr → Prop} {K : PySem.W.Frag} (W : Way G Ok) {σ : L2.St} {H : Hp} {te : TE} {P : Th → Prop} (h : EvP G K te σ H fun t => ∃ ts, t = .tup ts ∧ P (.tup ts.reverse)) : EvP G K (tRevT K te) σ H P := fun H1 g Q q =>
  h H1 g _ fun v t H2 g2 hv ht => by
    obtain ⟨ts, rfl, hp⟩ := ht
    obtain ⟨a, xs, rfl, hs, ha⟩ := rp_tup hv
    exact ⟨a, xs, rfl, hs, fun p hn => q _ _ _ (W.trans g2 (W.ex (Ex.new hn))) (.tup (st_of upd_same) (ra_mono (Ex.new hn) (ra_rev ha))) hp⟩
end EX

set_option Elab.async false
set_option linter.all false
set_option maxRecDepth 100000
set_option maxHeartbeats 4000000
namespace TH
open PySem PySem.Spec PyProof.Rows L2 Evl DL GX YA EX TV

/-! ### pure things and their data -/
def okN : Nat → Th → Bool
  | 0, _ => false
  | _ + 1, .none => true
  | _ + 1, .bool _ => true
  | _ + 1, .int _ => true
  | _ + 1, .str s => PyData.strOk s
  | n + 1, .tup ts => decide (ts.length ≤ 20) && ts.all (okN n)
  | _ + 1, .odd _ => false
mutual
def thD : Th → PyData
  | .none => .none
  | .bool b => .bool b
  | .int i => .int i
  | .str s => .str s
  | .tup ts => .tuple (thDs ts)
  | .odd _ => .none
def thDs : List Th → List PyData
  | [] => []
  | t :: ts => thD t :: thDs ts
end
theorem dp_of {K : PySem.W.Frag} {H : Hp} : ∀ (n : Nat) {t : Th} {v : V}, okN n t = true → Rp K H v t → Dp K H v (thD t)
  | 0, _, _, h, _ => nomatch h
  | n + 1, t, v, h, hr => by
    cases hr with
    | non => exact .non
    | bl b => exact .bl b
    | int i => exact .int i
    | str s => exact .str s
    | @tup a xs ts hs ha =>
      have h2 : ts.all (okN n) = true := by
        have z : (decide (ts.length ≤ 20) && ts.all (okN n)) = true := h
        exact (Bool.and_eq_true_iff.mp z).2
      refine .tup hs ?_
      clear h hs
      induction ts generalizing xs with
      | nil => cases ha; exact .nil
      | cons t ts ih =>
        rw [List.all_cons, Bool.and_eq_true] at h2
        cases ha with
        | cons h1 hrest => exact .cons (dp_of n h2.1 h1) (ih hrest h2.2)
    | lst hs => nomatch h
    | dct hs => nomatch h
    | dctT hs => nomatch h
theorem lay_of : ∀ (n : Nat) {t : Th}, okN n t = true → PyData.canLay0 (thD t) = true ∧ (thD t).depth ≤ n
  | 0, _, h => nomatch h
  | n + 1, t, h => by
    cases t with
    | none => exact ⟨rfl, Nat.zero_le _⟩
    | bool b => exact ⟨rfl, Nat.zero_le _⟩
    | int i => exact ⟨rfl, Nat.zero_le _⟩
    | str s => exact ⟨h, Nat.zero_le _⟩
    | tup ts =>
      have h2 : ts.all (okN n) = true := by
        have z : (decide (ts.length ≤ 20) && ts.all (okN n)) = true := h
        exact (Bool.and_eq_true_iff.mp z).2
      have all : PyData.canLayAll0 (thDs ts) = true ∧ PyData.depthAll (thDs ts) ≤ n := by
        clear h
        induction ts with
        | nil => exact ⟨rfl, Nat.zero_le _⟩
        | cons t ts ih =>
          rw [List.all_cons, Bool.and_eq_true] at h2
          obtain ⟨a, b⟩ := lay_of n h2.1
          obtain ⟨c, d⟩ := ih h2.2
          refine ⟨?_, ?_⟩
          · show (PyData.canLay0 (thD t) && PyData.canLayAll0 (thDs ts)) = true
            rw [a, c]
            rfl
          · show max (thD t).depth (PyData.depthAll (thDs ts)) ≤ n
            omega
      exact ⟨all.1, Nat.succ_le_succ all.2⟩
    | odd o => nomatch h
theorem shaped_of {n : Nat} {t : Th} (h : okN n t = true) (hn : n ≤ 64) : SeqAt.shaped (thD t) = true := by
  obtain ⟨a, b⟩ := lay_of n h
  unfold SeqAt.shaped
  rw [a, decide_eq_true (show (thD t).depth ≤ 64 by omega)]
  rfl
/-! ### sum of a tuple of ints -/
def rSumT (K : PySem.W.Frag) : List V → Hp → VK → Prop := fun vs H Q => ∃ (a : Addr) (ns : List Int), vs = [V.ref a] ∧ SqT K H a (ns.map V.int) ∧ Q (.int ns.sum) H
theorem cr_sumT {X : Cx} (hc : X.calm = true) : CallR X (.builtin "sum") (rSumT X.K) := by
  intro pins s σ H vs us Q I rel h
  obtain ⟨a, ns, rfl, hs, q⟩ := h
  obtain ⟨its, rv, hT, _⟩ := I.tuple hs
  rw [Vals.ref1 rel]
  have hi : IntsAre its ns := rv.ints
  have hl : s.heap.IsTuple a its.toArray := hT
  obtain ⟨xs, e⟩ := hi.allInts.items
  have hn : numsOf (intItems xs).toList = ns := by
    rw [← e]
    exact hi.numsOf
  rw [nums_intItems] at hn
  rw [e] at hl
  refine PySem.W.ktm_sumG (I.ok.hd hc) hl fun h' tk t' hk => ?_
  rw [preSum_eq, List.take_of_length_le (by simp), hn]
  exact ⟨.int _, H, I.kept hk, ⟨_, rfl⟩, q⟩
/-! ### tests, steps -/
def EvTG (G : Hp → Hp → Prop) (tt : TT) (σ : L2.St) (H : Hp) (P : Bool → Prop) : Prop := ∀ H1, G H H1 → ∀ Q : Bool → Hp → Prop, (∀ b H2, G H1 H2 → P b → Q b H2) → tt σ H1 Q
section
variable {G : Hp → Hp → Prop} {Ok : Addr → Prop} {K : PySem.W.Frag} (W : Way G Ok) {σ : L2.St} {H H' : Hp} {te : TE} {P : Th → Prop} {t u : TT} {Pa Pb Pc : Bool → Prop} {v : V} {D : Ends} {tu tw tz : TS}
theorem tg_B (h : EvP G K te σ H fun t => ∃ b, t = .bool b ∧ Pa b) : EvTG G (tB te) σ H Pa := fun H1 g Q q => h H1 g _ fun v t H2 g2 hr hp => by
  obtain ⟨b, rfl, hb⟩ := hp
  cases hr
  exact ⟨b, rfl, q b H2 g2 hb⟩
theorem tg_T (h : EvP G K te σ H fun t => ∃ b, t = .bool b ∧ Pa b) : EvTG G (tTest te) σ H Pa := fun H1 g Q q => h H1 g _ fun v t H2 g2 hr hp => by
  obtain ⟨b, rfl, hb⟩ := hp
  cases hr
  exact ⟨b, rfl, q b H2 g2 hb⟩
include W
theorem tg_and (h1 : EvTG G t σ H Pa) (h2 : Pa true → EvTG G u σ H Pb) (k1 : ∀ b, Pa true → Pb b → Pc b) (k2 : Pa false → Pc false) : EvTG G (tAnd t u) σ H Pc := fun H1 g Q q => h1 H1 g _ fun b H2 g2 hb => by
  cases b with
  | true =>
    show u σ H2 Q
    exact h2 hb H2 (W.trans g g2) Q fun b H3 g3 hb3 => q b H3 (W.trans g2 g3) (k1 b hb hb3)
  | false => exact q false H2 g2 (k2 hb)
theorem q_whenG (h : EvTG G t σ H Pa) (h1 : ∀ H1, G H H1 → Pa true → tu { D with nx := tz D } σ H1) (h2 : ∀ H1, G H H1 → Pa false → tz D σ H1) : tSeq (tIfS t tu tNext) tz D σ H := h H (W.refl H) _ fun b H1 g hb => by
  cases b with
  | true => exact h1 H1 g hb
  | false => exact h2 H1 g hb
theorem q_asgP {i : Nat} (h : EvP G K te σ H P) (k : ∀ v t H1, G H H1 → Rp K H1 v t → P t → tz D (σ.set i (some v)) H1) : tSeq (tAsg te (gName i)) tz D σ H := h H (W.refl H) _ fun v t H1 g hr hp => k v t H1 g hr hp
theorem q_asgPL {i : Nat} {Ps : List Th → Prop} (h : EvPL G Ok K te σ H Ps) (k : ∀ l xs ts H1, G H H1 → Ok l → H1 l = some (.lst xs) → RpAll K H1 xs ts → Ps ts → tz D (σ.set i (some (.ref l))) H1) : tSeq (tAsg te (gName i)) tz D σ H := h H (W.refl H) _ fun l xs ts H1 g o hl hx hp => k l xs ts H1 g o hl hx hp
theorem s_retP (h : EvP G K te σ H P) (k : ∀ v t H1, G H H1 → Rp K H1 v t → P t → D.rt v H1) : tRet te D σ H := h H (W.refl H) _ fun v t H1 g hr hp => k v t H1 g hr hp
theorem pl_var {i : Nat} {l : Addr} {xs : List V} {ts : List Th} {Ps : List Th → Prop} (h : σ[i]? = some (some (.ref l))) (o : Ok l) (hl : H l = some (.lst xs)) (hx : RpAll K H xs ts) (hp : Ps ts) : EvPL G Ok K (tVar i) σ H Ps := fun H1 g Q q =>
  ⟨.ref l, h, q l xs ts H1 (W.refl _) o (W.kp g o hl) (ra_r (W.exr g) hx) hp⟩
theorem p_isi {C : String} (h : EvP G K te σ H fun t => P (.bool (isIn t C))) (hC : C ∈ ["int", "bool", "str", "tuple"]) : EvP G K (tCB (rIsi K) (tCons te (tCons (tC (.ty C)) tNil))) σ H P := fun H1 g Q q => h H1 g _ fun v t H2 g2 hr hp => by
  obtain ⟨h1, h2⟩ := rp_ty hr
  exact ⟨v, .ty C, .type t.ty, .type C, isIn t C, rfl, .ty _, h1, kit_ty (kit_in h2 hC), q _ _ H2 g2 (.bl _) hp⟩
theorem p_len (h : EvP G K te σ H fun t => ∃ ts, t = .tup ts ∧ P (.int (ts.length : Int))) : EvP G K (tCB (rLenS K) (tCons te tNil)) σ H P := fun H1 g Q q => h H1 g _ fun v t H2 g2 hr hp => by
  obtain ⟨ts, rfl, hp⟩ := hp
  obtain ⟨a, xs, rfl, hs, ha⟩ := rp_tup hr
  exact ⟨a, xs, rfl, .inr hs, by rw [ra_len ha]; exact q _ _ H2 g2 (.int _) hp⟩
omit W in
theorem rp_ne0 {n : Nat} {x : Th} (hx : okN n x = true) (hn : n ≤ 64) (hp : P (.bool (!PyData.eqv (thD x) (.tuple [])))) : RP K (rNeD K) x (.tup []) P := fun v w H hv hw Q q => by
  refine ⟨thD x, .tuple [], dp_of n hx hv, ?_, shaped_of hx hn, by decide +kernel, q _ _ H (Ex.refl H) (.bl _) hp⟩
  obtain ⟨a, xs, rfl, hs, ha⟩ := rp_tup hw
  cases ha
  exact .tup hs .nil
omit W in
theorem rp_gt {i j : Int} (hp : P (.bool (decide (i > j)))) : RP K (rI0 fun i j => .bl (decide (i > j))) (.int i) (.int j) P := fun v u H hv hu Q q => ⟨i, j, rp_int hv, rp_int hu, q _ _ H (Ex.refl H) (.bl _) hp⟩
end
end TH

set_option Elab.async false
set_option linter.all false
set_option maxRecDepth 100000
set_option maxHeartbeats 4000000
namespace K34
open PySem PySem.Spec PyProof.Rows L2 Evl DL GX YA EX TH TV
def topS (i : Nat) : Stmt := PySem.Challenge.pw_doffyard_k34_what_small_yards_are.main.body.getD i (.Pass ⟨0, 0, 0, 0⟩)
abbrev s_law_pool : Stmt := topS 59
theorem sc_law_pool : FnScope ["_law_script", "_law_k", "_law_cell", "_law_more", "_law_found", "_law_turn"] ["_law_script", "_law_k"] (defScope s_law_pool) := ⟨rfl, rfl, rfl, by decide +kernel, rfl, by decide +kernel, by decide +kernel⟩
abbrev s_law_take : Stmt := topS 60
theorem sc_law_take : FnScope ["_law_pool_here", "_law_many", "_law_digit"] ["_law_pool_here", "_law_many"] (defScope s_law_take) := ⟨rfl, rfl, rfl, by decide +kernel, rfl, by decide +kernel, by decide +kernel⟩
structure Bi (mg : Str → Option Value) : Prop where
  len : mg "len" = none
  sum : mg "sum" = none
  abs : mg "abs" = none
  min : mg "min" = none
  max : mg "max" = none
  divmod : mg "divmod" = none
  all : mg "all" = none
  isinstance : mg "isinstance" = none
  tuple : mg "tuple" = none
  int : mg "int" = none
  bool : mg "bool" = none
  range : mg "range" = none
  enumerate : mg "enumerate" = none
  list : mg "list" = none
  str : mg "str" = none
  ValueError : mg "ValueError" = none
structure Df (K : PySem.W.Frag) (mg : Str → Option Value) (x : Str) (st : Stmt) (ps : List Str) (f : Addr) (fd : FuncData) : Prop where
  F : Fun K x x st f fd
  b : Binds K fd ps []
  g : mg x = some (.ref f)
section
variable {P : Program} {w : World} {K : PySem.W.Frag} {mg : Str → Option Value} {base : Heap}
theorem cdivp {n m : Int} (h0 : 0 < m) (h1 : m ≤ 10 ^ 40) : CDivP n m := by
  refine ⟨h0, PyProof.noPylong_of_log2 (Nat.lt_of_lt_of_le (PySem.Flt.log2_lt_of (show 0 < 200 by decide) ?_) (show 200 ≤ 9000 by decide))⟩
  have h2 : m.natAbs ≤ 10 ^ 40 := by omega
  exact Nat.lt_of_le_of_lt h2 (by decide)
theorem ev_run {te : TE} {σ : L2.St} {H : Hp} {v : V} {Q : VK} (h : Ev te σ H v) (k : ∀ H1, Ex H H1 → Q v H1) : te σ H Q := h H (Ex.refl H) Q k
theorem pos384 : (0 : Int) < 10 ^ Int.toNat 64 * 10 ^ Int.toNat 64 * 10 ^ Int.toNat 64 * 10 ^ Int.toNat 64 * 10 ^ Int.toNat 64 * 10 ^ Int.toNat 64 := by decide +kernel
theorem mulW {i j : Int} (hi : -(10 ^ 500) ≤ i ∧ i ≤ 10 ^ 500) (hj : -(10 ^ 500) ≤ j ∧ j ≤ 10 ^ 500) : CMulW i j := wide_mul (a := 2000) (b := 2000)
  (Nat.lt_of_le_of_lt (show i.natAbs ≤ 10 ^ 500 by omega) (by decide +kernel)) (Nat.lt_of_le_of_lt (show j.natAbs ≤ 10 ^ 500 by omega) (by decide +kernel)) (by decide) (by decide) (by decide)
theorem mulF {i j : Int} (hi : 0 ≤ i ∧ i < 10 ^ 11000) (hj : 0 ≤ j ∧ j ≤ 10 ^ 500) : CMulW i j := wide_mul (a := 40000) (b := 2000)
  (Nat.lt_of_lt_of_le (show i.natAbs < 10 ^ 11000 by have h2 := hi.2; have h1 := hi.1; exact_mod_cast (show ((i.natAbs : Nat) : Int) < ((10 ^ 11000 : Nat) : Int) by rw [Int.natAbs_of_nonneg h1]; exact_mod_cast h2)) (by decide +kernel))
  (Nat.lt_of_le_of_lt (show j.natAbs ≤ 10 ^ 500 by omega) (by decide +kernel)) (by decide) (by decide) (by decide)
def spTake : Sp := fun vs H Q _ => ∃ (a : Addr) (n m : Int), vs = [.ref a, .int m] ∧ H a = some (.lst [.int n]) ∧ (0 < m ∧ m ≤ 10 ^ 40) ∧ ∀ t, H t = none → Q (.int (n % m)) (upd (upd H t (.tup [.int (n / m), .int (n % m)])) a (.lst [.int (n / m)]))
theorem ok_take {f : Addr} {fd : FuncData} {k : Nat} (T : Bi mg) (D : Df K mg "_law_take" s_law_take ["_law_pool_here", "_law_many"] f fd) : FnOk P w K mg base CX0 (k + 1) f fd ["_law_pool_here", "_law_many"] spTake := by
  refine D.F.ok sc_law_take (fun vs H Q E h => ?_) (fun cdv A outer s H vs Q E hr h => ?_)
  · obtain ⟨a, n, m, rfl, _⟩ := h
    rfl
  · obtain ⟨a, n, m, rfl, ha, hc, q⟩ := h
    refine ⟨_, (pss_cons (ps_asg (pe_callB call_divmodW (by rfl) T.divmod boot_divmod (pa_cons (pe_ix (r := rIxL K) ix_list (pv 0) pe_int (fun _ _ => rfl)) (pa_cons (pv 1) pa_nil))) (pg_tup rfl (pgs_cons (pg_sub (pv 0) pe_int set_list) (pgs_cons (pg_name (i := 2) sc_law_take.nd rfl (.inl rfl)) pgs_nil))))
      (pss_one (ps_ret (pv 2)))), ?_⟩
    refine ⟨.ref a, rfl, a, _, 0, .int n, rfl, rfl, sq_of ha, rfl, .int m, rfl, n, m, rfl, cdivp hc.1 hc.2, fun t ht => ?_⟩
    have hat : a ≠ t := ne_of_none ha ht
    refine ⟨t, [.int (n / m), .int (n % m)], rfl, .inl (.inl upd_same), rfl, _, _, rfl, .ref a, rfl, a, [.int n], 0, 0, rfl, rfl, ?_, rfl, _, _, rfl, rfl, .int (n % m), rfl, q t ht⟩
    rw [upd_ne hat]
    exact ha
theorem cut_ints (ns : List Int) (lo hi : Option Int) : ∃ ms : List Int, cutV (ns.map V.int) lo hi = ms.map V.int := by
  refine ⟨(ns.drop (HT.sIx ns.length 0 lo)).take (HT.sIx ns.length ns.length hi - HT.sIx ns.length 0 lo), ?_⟩
  unfold cutV
  rw [List.length_map, List.map_take, List.map_drop]
/-- the digits' pool: a new list of one int from 0 on -/
def spPool (K : PySem.W.Frag) : Sp := fun vs H Q _ => ∃ (s : Addr) (ns : List Int) (k : Int), vs = [.ref s, .int k] ∧ SqL K H s (ns.map V.int) ∧ (0 ≤ k ∧ k ≤ 1000) ∧ ∀ p H' n, Ex H H' → H p = none → H' p = some (.lst [.int n]) → 0 ≤ n → Q (.ref p) H'
theorem ok_pool {f : Addr} {fd : FuncData} {k : Nat} (T : Bi mg) (D : Df K mg "_law_pool" s_law_pool ["_law_script", "_law_k"] f fd) : FnOk P w K mg base CX0 (k + 1) f fd ["_law_script", "_law_k"] (spPool K) := by
  refine D.F.ok sc_law_pool (fun vs H Q E h => ?_) (fun cdv A outer s H vs Q E hr h => ?_)
  · obtain ⟨a, n, m, rfl, _⟩ := h
    rfl
  · obtain ⟨a, ns, kk, rfl, hS, hk, q⟩ := h
    refine ⟨_, (pss_cons (ps_set (i := 2) sc_law_pool.nd rfl (.inl rfl) (pe_callB (r := rSum K) (cr_sum rfl) (by rfl) T.sum boot_sum (pa_cons (pe_slice sl_list (pv 0) (po_some (pv 1)) (po_some (pe_op op_add (pv 1) pe_int))) pa_nil)))
      (pss_cons (ps_if (PW.pt (pw_or (pt_cmpR op_lt (pv 2) pe_int (nomark _)) (pw_or1 (pt_cmpR op_ge (pv 2) (pe_op op_pow pe_int pe_int) (nomark _))))) (pss_one (ps_ret (pe_lst (pa_cons (pe_op op_mod (pe_callB call_abs (by rfl) T.abs boot_abs (pa_cons (pv 2) pa_nil)) (pe_op op_mulW (pe_op op_mulW (pe_op op_mulW (pe_op op_mulW (pe_op op_mulW (pe_op op_pow pe_int pe_int) (pe_op op_pow pe_int pe_int)) (pe_op op_pow pe_int pe_int)) (pe_op op_pow pe_int pe_int)) (pe_op op_pow pe_int pe_int)) (pe_op op_pow pe_int pe_int))) pa_nil)))) pss_nil)
      (pss_cons (ps_set (i := 3) sc_law_pool.nd rfl (.inl rfl) (pe_op op_add (pe_op op_add (pe_op op_mulW (pv 2) pe_int) (pe_op op_mulW (pe_op op_mulW pe_int (pv 1)) (pv 1))) pe_int))
      (pss_cons (ps_set (i := 4) sc_law_pool.nd rfl (.inl rfl) pe_int)
      (pss_cons (ps_for PassesOwn.never rfl (pi_range1 rfl T.range (pa_cons pe_int pa_nil)) (pg_name (i := 5) sc_law_pool.nd rfl (.inl rfl)) (pss_cons (ps_set (i := 3) sc_law_pool.nd rfl (.inl rfl) (pe_op op_mod (pe_op op_add (pe_op op_add (pe_op op_mulW (pe_op op_mod (pv 3) pe_int) pe_int) (pe_op op_mulW pe_int (pv 5))) pe_int) pe_int))
      (pss_one (ps_set (i := 4) sc_law_pool.nd rfl (.inl rfl) (pe_op op_add (pe_op op_mulW (pv 4) (pe_op op_pow pe_int pe_int)) (pe_op op_mod (pe_op op_mulW (pv 3) (pe_op op_add (pe_op op_mod (pv 3) pe_int) pe_int)) pe_int))))))
      (pss_one (ps_ret (pe_lst (pa_cons (pv 4) pa_nil))))))))), ?_⟩
    refine ⟨.ref a, rfl, .int kk, rfl, kk, rfl, .int kk, rfl, kk, 1, rfl, rfl, kk + 1, rfl, a, _, rfl, hS, fun c hc => ?_⟩
    obtain ⟨ms, hms⟩ := cut_ints ns (some kk) (some (kk + 1))
    refine ⟨c, ms, rfl, .inl (.inl (by rw [← hms]; exact upd_same)), ?_⟩
    generalize ms.sum = cell
    have e1 : Ex H (upd H c (.lst (cutV (ns.map V.int) (some kk) (some (kk + 1))))) := Ex.new hc
    generalize upd H c (.lst (cutV (ns.map V.int) (some kk) (some (kk + 1)))) = H1 at e1
    dsimp only [gName]
    refine q_when (et_or (et_test (ev_op (ev_var rfl) ev_c rv_I0)) (fun _ => (et_test (ev_op (ev_var rfl) (ev_op ev_c ev_c (rv_I ?_)) rv_I0)))) (fun _ H2 e2 => ?_) (fun hb H2 e2 => ?_)
    · exact ⟨by decide, by decide, by decide⟩
    · -- the cell's own digits
      refine ⟨.int cell, rfl, cell, rfl, ?_⟩
      dsimp only
      refine ev_run (ev_op (ev_op (ev_op (ev_op (ev_op (ev_op ev_c ev_c (rv_I ?_)) (ev_op ev_c ev_c (rv_I ?_)) (rv_I ?_)) (ev_op ev_c ev_c (rv_I ?_)) (rv_I ?_)) (ev_op ev_c ev_c (rv_I ?_)) (rv_I ?_)) (ev_op ev_c ev_c (rv_I ?_)) (rv_I ?_)) (ev_op ev_c ev_c (rv_I ?_)) (rv_I ?_)) fun H3 e3 => ?_
      all_goals first
        | exact ⟨by decide, by decide, by decide⟩
        | (refine mulW ?_ ?_ <;> decide +kernel)
        | skip
      refine ⟨_, _, rfl, rfl, pos384, by show 1 ≤ sizeLine; decide, fun p hp => ?_⟩
      have e13 := (e1.trans e2).trans e3
      exact q p _ _ (e13.trans (Ex.new hp)) (fresh_back e13 hp) upd_same (Int.emod_nonneg _ (Int.ne_of_gt pos384))
    · have hb' : ¬ cell < 0 ∧ ¬ (10 : Int) ^ 18 ≤ cell := by simpa using hb
      refine q_asg (ev_op (ev_op (ev_op (ev_var rfl) ev_c (rv_I ?_)) (ev_op (ev_op ev_c (ev_var rfl) (rv_I ?_)) (ev_var rfl) (rv_I ?_)) rv_I0) ev_c rv_I0) fun H3 e3 => ?_
      · exact mulW (by omega) (by omega)
      · exact mulW (by omega) (by omega)
      · exact mulW (by omega) (by omega)
      refine q_asg ev_c fun H4 e4 => ?_
      refine q_forR1 (ea_cons ev_c ea_nil) ⟨by decide, by decide⟩ (fun i σ' H' => Ex H H' ∧ i ≤ 1000 ∧ ∃ more found y5, σ' = [some (.ref a), some (.int kk), some (.int cell), some (.int more), some (.int found), y5] ∧ 0 ≤ found ∧ found < 10 ^ (11 * i)) (fun H5 e5 => ?_) (fun i σ' H' hi p => ?_) (fun σ' H' p => ?_)
      · exact ⟨(((e1.trans e2).trans e3).trans e4).trans e5, by omega, _, 0, _, rfl, by decide, by decide⟩
      · obtain ⟨ex, h9, more, found, y5, rfl, h0, h1⟩ := p
        have m1 : 0 ≤ more % 999999999989 ∧ more % 999999999989 < 999999999989 := ⟨Int.emod_nonneg _ (by decide), Int.emod_lt_of_pos _ (by decide)⟩
        refine q_asg (ev_op (ev_op (ev_op (ev_op (ev_op (ev_var rfl) ev_c (rv_I ?_)) ev_c (rv_I ?_)) (ev_op ev_c (ev_var rfl) (rv_I ?_)) rv_I0) ev_c rv_I0) ev_c (rv_I ?_)) fun H5 e5 => ?_
        · show (0 : Int) < _; decide
        · exact mulW (by omega) (by omega)
        · exact mulW (by omega) (by omega)
        · show (0 : Int) < _; decide
        generalize hm : (more % 999999999989 * 69621 + 40503 * (i : Int) + 271) % 999999999989 = m2
        have m3 : 0 ≤ m2 ∧ m2 < 999999999989 := by rw [← hm]; exact ⟨Int.emod_nonneg _ (by decide), Int.emod_lt_of_pos _ (by decide)⟩
        have m4 : 0 ≤ m2 % 65537 ∧ m2 % 65537 < 65537 := ⟨Int.emod_nonneg _ (by decide), Int.emod_lt_of_pos _ (by decide)⟩
        have f1 : found < 10 ^ 11000 := Int.lt_of_lt_of_le h1 (by
          have z : (10 : Int) ^ (11 * i) ≤ 10 ^ 11000 := by exact_mod_cast Nat.pow_le_pow_right (by decide) (by omega)
          exact z)
        refine s_asg (ev_op (ev_op (ev_var rfl) (ev_op ev_c ev_c (rv_I ?_)) (rv_I ?_)) (ev_op (ev_op (ev_var rfl) (ev_op (ev_op (ev_var rfl) ev_c (rv_I ?_)) ev_c rv_I0) (rv_I ?_)) ev_c (rv_I ?_)) rv_I0) fun H6 e6 => ?_
        · exact ⟨by decide, by decide, by decide⟩
        · exact mulF ⟨h0, f1⟩ ⟨by decide, by decide⟩
        · show (0 : Int) < _; decide
        · exact mulW (by omega) (by omega)
        · show (0 : Int) < _; decide
        have m5 : 0 ≤ m2 * (m2 % 65537 + 3) % 99999999977 ∧ m2 * (m2 % 65537 + 3) % 99999999977 < 99999999977 := ⟨Int.emod_nonneg _ (by decide), Int.emod_lt_of_pos _ (by decide)⟩
        generalize m2 * (m2 % 65537 + 3) % 99999999977 = r at m5
        refine ⟨(ex.trans e5).trans e6, by have : (i : Int) < 27 := hi; omega, m2, _, _, rfl, ?_, ?_⟩
        · show 0 ≤ found * 10 ^ 11 + r
          omega
        · show found * 10 ^ 11 + r < 10 ^ (11 * (i + 1))
          have e : (10 : Int) ^ (11 * (i + 1)) = 10 ^ (11 * i) * 10 ^ 11 := by rw [Nat.mul_add, Int.pow_add]
          rw [e]
          omega
      · obtain ⟨ex, _, more, found, y5, rfl, h0, h1⟩ := p
        refine ⟨.int found, rfl, by show 1 ≤ sizeLine; decide, fun p hp => ?_⟩
        exact q p _ found (ex.trans (Ex.new hp)) (fresh_back ex hp) upd_same h0
end
/-! ### the pool, wherever it stands -/
theorem exb_refl (a : Addr) (H : Hp) : ExB a H H := fun _ _ _ h => h
theorem exb_of {a : Addr} {H H' : Hp} (e : Ex H H') : ExB a H H' := fun b o _ h => e b o h
theorem pool_ex {H H' : Hp} {a : Addr} (e : Ex H H') (p : PoolAt H a) : PoolAt H' a := by
  obtain ⟨n, h⟩ := p
  exact ⟨n, e _ _ h⟩
theorem pool_ne {H : Hp} {a t : Addr} (p : PoolAt H a) (h : H t = none) : a ≠ t := by
  obtain ⟨n, q⟩ := p
  exact ne_of_none q h
theorem exb_fresh {a t : Addr} {H H' : Hp} (e : ExB a H H') (p : PoolAt H a) (h : H' t = none) (hp : PoolAt H' a) : H t = none := by
  cases q : H t with
  | none => rfl
  | some o =>
    by_cases z : t = a
    · obtain ⟨n, k⟩ := hp
      rw [z, k] at h
      cases h
    · rw [e t o z q] at h
      cases h
theorem take_run {a : Addr} {σ : L2.St} {H : Hp} {te : TE} {i : Nat} {m : Int} {E : XK} {Q : VK} (hv : σ[i]? = some (some (.ref a))) (hp : PoolAt H a) (he : Ev te σ H (.int m)) (h0 : 0 < m ∧ m ≤ 10 ^ 40)
    (k : ∀ r H', 0 ≤ r ∧ r < m → ExB a H H' → PoolAt H' a → Q (.int r) H') : tCall spTake [] E (tCons (tVar i) (tCons te tNil)) σ H Q := by
  obtain ⟨n, hn⟩ := hp
  refine ⟨.ref a, hv, he H (Ex.refl H) _ fun H1 e1 => ⟨a, n, m, rfl, e1 _ _ hn, h0, fun t ht => k _ _ ⟨Int.emod_nonneg _ (by omega), Int.emod_lt_of_pos _ h0.1⟩ (fun b o nb hb => ?_) ⟨_, upd_same⟩⟩⟩
  rw [upd_ne nb, upd_ne (ne_of_none (e1 _ _ hb) ht)]
  exact e1 _ _ hb
theorem pick {ns : List Int} {r : Int} (h : 0 ≤ r ∧ r < ns.length) : ∃ w ∈ ns, atI (ns.map V.int) r = some (.int w) := by
  obtain ⟨k, rfl⟩ : ∃ k : Nat, r = (k : Int) := ⟨r.toNat, by omega⟩
  have hk : k < ns.length := by omega
  exact ⟨ns[k], List.getElem_mem hk, atI_nat (by rw [List.getElem?_map, List.getElem?_eq_getElem hk]; rfl)⟩
end K34

set_option Elab.async false
set_option linter.all false
set_option maxRecDepth 100000
set_option maxHeartbeats 4000000
namespace K34
open PySem PySem.Spec PyProof.Rows L2 Evl DL GX YA EX TH TV
abbrev s_law_number : Stmt := topS 64
theorem sc_law_number : FnScope ["_law_thing", "_law_low", "_law_high"] ["_law_thing", "_law_low", "_law_high"] (defScope s_law_number) := ⟨rfl, rfl, rfl, by decide +kernel, rfl, by decide +kernel, by decide +kernel⟩
abbrev s_law_are_frames : Stmt := topS 65
theorem sc_law_are_frames : FnScope ["_law_thing", "_law_many", "_law_frame"] ["_law_thing"] (defScope s_law_are_frames) := ⟨rfl, rfl, rfl, by decide +kernel, rfl, by decide +kernel, by decide +kernel⟩
abbrev s_law_are_walks : Stmt := topS 66
theorem sc_law_are_walks : FnScope ["_law_thing", "_law_many", "_law_f", "_law_row", "_law_one"] ["_law_thing", "_law_many"] (defScope s_law_are_walks) := ⟨rfl, rfl, rfl, by decide +kernel, rfl, by decide +kernel, by decide +kernel⟩
abbrev s_law_is_small : Stmt := topS 67
theorem sc_law_is_small : FnScope ["_law_thing", "_law_one"] ["_law_thing"] (defScope s_law_is_small) := ⟨rfl, rfl, rfl, by decide +kernel, rfl, by decide +kernel, by decide +kernel⟩
def len3 (t : Th) : Bool := isTup t && decide ((parts t).length = 3)
def smFrame (t : Th) : Bool := match parts t with
  | [k, n, m] => isTup t && (isWithin k 0 1 && (isWithin n 1 3 && isWithin m 0 (asInt n - 1)))
  | _ => false
def threads (t : Th) : Int := asInt ((parts t).getD 1 .none)
def smFrames (t : Th) : Bool := isTup t && (decide (1 ≤ ((parts t).length : Int)) && decide (((parts t).length : Int) ≤ 3)) && ((parts t).all smFrame && decide (((parts t).map threads).sum ≤ 3))
def smWalk (many : Int) (p : Nat × Th) : Bool := isTup p.2 && (decide (((parts p.2).length : Int) = many) && ((parts p.2).all (fun x => isWithin x 0 3) && decide (asInt ((parts p.2).getD p.1 .none) = 0)))
def smWalks (t : Th) (many : Int) : Bool := isTup t && (decide (((parts t).length : Int) = many) && (nums (parts t)).all (smWalk many))
def isRule : Th → Bool
  | .str s => inV (.str s) [.str "near", .str "old", .str "sort"]
  | _ => false
def smPieces (t : Th) : Bool := isTup t && (decide ((parts t).length = 2) && (parts t).all (fun x => isWithin x 1 3))
def isSmall (t : Th) : Bool := match parts t with
  | [f, w, p, r, g] => isTup t && (smFrames f && (smWalks w ((parts f).length : Int) && (smPieces p && (isWithin g 0 2 && isRule r))))
  | _ => false
def fNum : List Th → Option Bool := fn3 isWithin
section
variable {P : Program} {w : World} {K : PySem.W.Frag} {mg : Str → Option Value} {base : Heap}
theorem dec_i {i j : Int} : decide (V.int i = V.int j) = decide (i = j) := by
  by_cases h : i = j
  · subst h
    simp
  · rw [decide_eq_false h, decide_eq_false fun q => h (V.int.inj q)]
theorem ok_number {f : Addr} {fd : FuncData} {k : Nat} (T : Bi mg) (D : Df K mg "_law_number" s_law_number ["_law_thing", "_law_low", "_law_high"] f fd) : FnOk P w K mg base CX0 (k + 1) f fd ["_law_thing", "_law_low", "_law_high"] (spF K [] fNum) := by
  refine D.F.ok sc_law_number (len_spF fun ts b h => by obtain ⟨_, _, _, rfl, _⟩ := fn3_is h; rfl) (fun cdv A outer s H vs Q E hr h => ?_)
  obtain ⟨ts, b, hv, hF, hT, q⟩ := h
  obtain ⟨t, lo, hi, rfl, rfl⟩ := fn3_is hF
  obtain ⟨v, v2, v3, rfl, hr1, hr2, hr3⟩ := ra3 hv
  cases rp_int hr2
  cases rp_int hr3
  refine ⟨_, (pss_one (ps_ret (pe_and (pe_callB (r := rIsi K) call_isi (by rfl) T.isinstance boot_isinstance (pa_cons (pv 0) (pa_cons (pe_bltn (by rfl) T.int boot_int (v := .ty "int") rfl) pa_nil))) (pe_and (pe_not (pe_callB (r := rIsi K) call_isi (by rfl) T.isinstance boot_isinstance (pa_cons (pv 0) (pa_cons (pe_bltn (by rfl) T.bool boot_bool (v := .ty "bool") rfl) pa_nil)))) (pe_one (pe_chain op_le op_le (pv 1) (pv 0) (pv 2))))))), ?_⟩
  have e : isWithin t lo hi = (isIn t "int" && (!isIn t "bool" && (decide (lo ≤ asInt t) && decide (asInt t ≤ hi)))) := by
    rw [← Bool.and_assoc, whole_in]
    rfl
  rw [e] at q
  refine sr_ret (ev_andV (ev_isi (ev_var rfl) hr1 (by decide)) fun h1 => ev_andV (ev_notV (ev_isi (ev_var rfl) hr1 (by decide))) fun h2 => ?_) q
  have hw : isWhole t = true := by rw [← whole_in, h1, h2]; rfl
  obtain ⟨i, rfl⟩ := int_of hw
  cases rp_int hr1
  exact ev_chain (ev_var rfl) (ev_var rfl) (ev_var rfl) rv_I0 rv_I0
theorem ev_num {σ : L2.St} {H : Hp} {ta tb tc : TE} {E : XK} {v : V} {t : Th} {lo hi : Int} (h : Ev ta σ H v) (hr : Rp K H v t) (hl : Ev tb σ H (.int lo)) (hh : Ev tc σ H (.int hi)) : Ev (tCall (spF K [] fNum) [] E (tCons ta (tCons tb (tCons tc tNil)))) σ H (.bl (isWithin t lo hi)) :=
  ev_callF (F := fNum) (ea_cons h (ea_cons hl (ea_cons hh ea_nil))) (.cons hr (.cons (.int lo) (.cons (.int hi) .nil))) rfl tb_nil
theorem ev_at {H : Hp} {v : V} {ts : List Th} {t : Th} {i : Nat} (hr : Rp K H v (.tup ts)) (ht : ts[i]? = some t) : ∃ u, Rp K H u t ∧ ∀ {σ : L2.St} {ta tb : TE}, Ev ta σ H v → Ev tb σ H (.int (i : Int)) → Ev (tOp (rIxT K) ta tb) σ H u := by
  obtain ⟨a, xs, rfl, hs, ha⟩ := rp_tup hr
  obtain ⟨u, hu, hd⟩ := ra_at ha ht
  exact ⟨u, hd, fun h hi => ev_op h hi (rv_ixT hs (atI_nat hu))⟩
theorem not_no {b : Bool} (h : (!b) = false) : b = true := by cases b <;> simp_all
theorem ok_are_frames {f f1 : Addr} {fd fd1 : FuncData} {k : Nat} (T : Bi mg) (D : Df K mg "_law_are_frames" s_law_are_frames ["_law_thing"] f fd) (D_law_number : Df K mg "_law_number" s_law_number ["_law_thing", "_law_low", "_law_high"] f1 fd1) :
    FnOk P w K mg base CX0 (k + 2) f fd ["_law_thing"] (spF K [] (fn1 smFrames)) := by
  have G_law_number : FnOk P w K mg base CX0 1 f1 fd1 ["_law_thing", "_law_low", "_law_high"] (spF K [] fNum) := ok_number T D_law_number
  refine D.F.ok sc_law_are_frames (len_spF fun ts b h => by obtain ⟨_, rfl, _⟩ := fn1_is h; rfl) (fun cdv A outer s H vs Q E hr h => ?_)
  obtain ⟨ts, b, hv, hF, hT, q⟩ := h
  obtain ⟨t, rfl, rfl⟩ := fn1_is hF
  obtain ⟨v, rfl, hr1⟩ := ra1 hv
  refine ⟨_, (pss_cons (ps_if (PW.pt (pw_or (pt_not (pt_val (pe_callB (r := rIsi K) call_isi (by rfl) T.isinstance boot_isinstance (pa_cons (pv 0) (pa_cons (pe_bltn (by rfl) T.tuple boot_tuple (v := .ty "tuple") rfl) pa_nil))))) (pw_or1 (pt_not (pt_chain op_le op_le pe_int (pe_callB (r := rLenS K) call_len_seq (by rfl) T.len PySem.boot_len (pa_cons (pv 0) pa_nil)) pe_int))))) (pss_one (ps_ret pe_bl)) pss_nil)
      (pss_cons (ps_set (i := 1) sc_law_are_frames.nd rfl (.inl rfl) pe_int)
      (pss_cons (ps_for PassesOwn.never rfl (pi_tup (pv 0)) (pg_name (i := 2) sc_law_are_frames.nd rfl (.inl rfl)) (pss_cons (ps_if (PW.pt (pw_or (pt_not (pt_val (pe_callB (r := rIsi K) call_isi (by rfl) T.isinstance boot_isinstance (pa_cons (pv 2) (pa_cons (pe_bltn (by rfl) T.tuple boot_tuple (v := .ty "tuple") rfl) pa_nil))))) (pw_or (pt_cmpR op_ne (pe_callB (r := rLenS K) call_len_seq (by rfl) T.len PySem.boot_len (pa_cons (pv 2) pa_nil)) pe_int (nomark _)) (pw_or1 (pt_not (pt_val (pe_call G_law_number (hr.mono (by omega)) (by rfl) D_law_number.g D_law_number.F.kp D_law_number.b .nil pass0 (pa_cons (pe_ix (r := rIxT K) ix_tup (pv 2) pe_int (fun _ _ => rfl)) (pa_cons pe_int (pa_cons pe_int pa_nil)))))))))) (pss_one (ps_ret pe_bl)) pss_nil)
      (pss_cons (ps_if (PW.pt (pw_or (pt_not (pt_val (pe_call G_law_number (hr.mono (by omega)) (by rfl) D_law_number.g D_law_number.F.kp D_law_number.b .nil pass0 (pa_cons (pe_ix (r := rIxT K) ix_tup (pv 2) pe_int (fun _ _ => rfl)) (pa_cons pe_int (pa_cons pe_int pa_nil)))))) (pw_or1 (pt_not (pt_val (pe_call G_law_number (hr.mono (by omega)) (by rfl) D_law_number.g D_law_number.F.kp D_law_number.b .nil pass0 (pa_cons (pe_ix (r := rIxT K) ix_tup (pv 2) pe_int (fun _ _ => rfl)) (pa_cons pe_int (pa_cons (pe_op op_sub (pe_ix (r := rIxT K) ix_tup (pv 2) pe_int (fun _ _ => rfl)) pe_int) pa_nil))))))))) (pss_one (ps_ret pe_bl)) pss_nil)
      (pss_one (ps_set (i := 1) sc_law_are_frames.nd rfl (.inl rfl) (pe_op op_add (pv 1) (pe_ix (r := rIxT K) ix_tup (pv 2) pe_int (fun _ _ => rfl))))))))
      (pss_one (ps_ret (pe_cmpR op_le (pv 1) pe_int (nomark _))))))), ?_⟩
  refine q_when (b := !isTup t || !(decide (1 ≤ ((parts t).length : Int)) && decide (((parts t).length : Int) ≤ 3))) (et_or (et_not (et_B (ev_isi (ev_var rfl) hr1 (by decide)))) fun h => et_not (et_test ?_)) (fun hb H1 e1 => ?_) (fun hb H1 e1 => ?_)
  · obtain ⟨us, rfl⟩ := tup_of (by simpa using h)
    exact ev_chain ev_c (ev_lenR (ev_var rfl) hr1) ev_c rv_I0 rv_I0
  · have hz : smFrames t = false := by
      unfold smFrames
      generalize isTup t = x at hb ⊢
      generalize (decide (1 ≤ ((parts t).length : Int)) && decide (((parts t).length : Int) ≤ 3)) = y at hb ⊢
      cases x <;> cases y <;> simp_all
    rw [hz] at q
    exact q H1 e1
  · have hb' : isTup t = true ∧ (decide (1 ≤ ((parts t).length : Int)) && decide (((parts t).length : Int) ≤ 3)) = true := by
      generalize isTup t = x at hb ⊢
      generalize (decide (1 ≤ ((parts t).length : Int)) && decide (((parts t).length : Int) ≤ 3)) = y at hb ⊢
      cases x <;> cases y <;> simp_all
    obtain ⟨us, rfl⟩ := tup_of hb'.1
    have hq : ∀ H', Ex H1 H' → Q (.bl (us.all smFrame && decide ((us.map threads).sum ≤ 3))) H' := fun H' e' => by
      have z := q H' (e1.trans e')
      unfold smFrames at z
      rw [hb'.1, hb'.2] at z
      exact z
    have hr1' := rp_mono e1 hr1
    refine q_asg ev_c fun H2 e2 => ?_
    refine q_forW (α := Th) (as := us) (ewr_tup (ev_var (i := 0) rfl) (rp_mono e2 hr1')) (fun H3 i σ' H' => Ex H3 H' ∧ ∃ y, σ' = [some v, some (.int ((us.take i).map threads).sum), y] ∧ (us.take i).all smFrame = true)
      (fun H3 e3 => ⟨Ex.refl H3, _, rfl, rfl⟩) (fun _ _ _ _ p => p.1) (fun H3 i d x σ' H4 H5 e3 hd p e5 hx => ?_) (fun H3 σ' H4 e3 p => ?_)
    · obtain ⟨e4, y, rfl, hall⟩ := p
      have e15 : Ex H1 H5 := ((e2.trans e3).trans e4).trans e5
      refine ⟨_, tg_name, ?_⟩
      have bad : smFrame d = false → ∀ H', Ex H5 H' → Q (.bl false) H' := fun hf H' e' => by
        have z := hq H' (e15.trans e')
        rw [all_no hd hf] at z
        exact z
      refine q_when (b := !isTup d || (!decide (((parts d).length : Int) = 3) || !isWithin ((parts d).getD 0 .none) 0 1)) (et_or (et_not (et_B (ev_isi (ev_var rfl) hx (by decide)))) fun h => et_or (et_test (ev_is (ev_op (ev_lenR (ts := parts d) (ev_var rfl) ?_) ev_c (rv_ne rfl)) (by rw [dec_i]))) fun h2 => et_not (et_B ?_)) (fun hb H6 e6 => ?_) (fun hb H6 e6 => ?_)
      · obtain ⟨ws, rfl⟩ := tup_of (t := d) (by simpa using h)
        exact hx
      · obtain ⟨ws, rfl⟩ := tup_of (t := d) (by simpa using h)
        have hl : ws.length = 3 := by
          have : decide (((ws.length : Nat) : Int) = 3) = true := not_no h2
          have := of_decide_eq_true this
          omega
        match ws, hl with
        | [a, b, c], _ =>
          obtain ⟨u, hu, hev⟩ := ev_at (i := 0) (t := a) hx rfl
          exact ev_num (hev (ev_var rfl) ev_c) hu ev_c ev_c
      · refine bad ?_ H6 e6
        unfold smFrame
        split
        · rename_i a b c hp
          rw [hp] at hb
          generalize isTup d = x at hb ⊢
          have hb2 : (!x || (!decide (((3 : Nat) : Int) = 3) || !isWithin a 0 1)) = true := hb
          generalize isWithin a 0 1 = y at hb2 ⊢
          cases x <;> cases y <;> simp_all
        · rfl
      · have hbt : isTup d = true := by
          generalize isTup d = x at hb ⊢
          cases x <;> simp_all
        obtain ⟨ws, rfl⟩ := tup_of hbt
        have hl : ws.length = 3 := by
          have z : decide (((ws.length : Nat) : Int) = 3) = true := by
            generalize hz : decide (((ws.length : Nat) : Int) = 3) = x
            have hb' : (!isTup (.tup ws) || (!decide (((ws.length : Nat) : Int) = 3) || !isWithin (ws.getD 0 .none) 0 1)) = false := hb
            rw [hz, hbt] at hb'
            cases x <;> simp_all
          have := of_decide_eq_true z
          omega
        match ws, hl with
        | [a, b, c], _ =>
          have ha1 : isWithin a 0 1 = true := by
            have hb' : (!isTup (.tup [a, b, c]) || (!decide (((3 : Nat) : Int) = 3) || !isWithin a 0 1)) = false := hb
            rw [hbt] at hb'
            simpa using hb'
          have hx6 := rp_mono e6 hx
          obtain ⟨ub, hub, evb⟩ := ev_at (i := 1) (t := b) hx6 rfl
          obtain ⟨uc, huc, evc⟩ := ev_at (i := 2) (t := c) hx6 rfl
          have sm : smFrame (.tup [a, b, c]) = (isWithin b 1 3 && isWithin c 0 (asInt b - 1)) := by
            show (isTup (.tup [a, b, c]) && (isWithin a 0 1 && (isWithin b 1 3 && isWithin c 0 (asInt b - 1)))) = _
            rw [hbt, ha1, Bool.true_and, Bool.true_and]
          refine q_when (b := !isWithin b 1 3 || !isWithin c 0 (asInt b - 1)) (et_or (et_not (et_B (ev_num (evb (ev_var rfl) ev_c) hub ev_c ev_c))) fun h => et_not (et_B (ev_num (evc (ev_var rfl) ev_c) huc ev_c ?_))) (fun hb H7 e7 => ?_) (fun hb H7 e7 => ?_)
          · obtain ⟨n, rfl, _, _⟩ := int_within (t := b) (by simpa using h)
            cases rp_int hub
            exact ev_op (evb (ev_var rfl) ev_c) ev_c rv_I0
          · refine bad ?_ H7 (e6.trans e7)
            rw [sm]
            generalize isWithin b 1 3 = x at hb ⊢
            generalize isWithin c 0 (asInt b - 1) = y at hb ⊢
            cases x <;> cases y <;> simp_all
          · have hok : smFrame (.tup [a, b, c]) = true := by
              rw [sm]
              generalize isWithin b 1 3 = x at hb ⊢
              generalize isWithin c 0 (asInt b - 1) = y at hb ⊢
              cases x <;> cases y <;> simp_all
            have hb1 : isWithin b 1 3 = true := by
              generalize isWithin b 1 3 = x at hb ⊢
              cases x <;> simp_all
            obtain ⟨n, rfl, _, _⟩ := int_within hb1
            cases rp_int hub
            refine s_asg (ev_op (ev_var rfl) (Ev.mono e7 (evb (ev_var rfl) ev_c)) rv_I0) fun H8 e8 => ⟨(e4.trans e5).trans ((e6.trans e7).trans e8), some x, ?_, all_take hd hall hok⟩
            rw [List.take_add_one, hd, List.map_append, List.sum_append]
            show _ = [some v, some (.int (((us.take i).map threads).sum + ([threads (.tup [a, .int n, c])] : List Int).sum)), some x]
            rw [show ([threads (.tup [a, .int n, c])] : List Int).sum = n by simp [threads, parts, asInt]]
            rfl
    · obtain ⟨e4, y, rfl, hall⟩ := p
      rw [List.take_of_length_le (Nat.le_refl _)] at hall
      rw [List.take_of_length_le (Nat.le_refl _)]
      refine sr_ret (ev_op (ev_var rfl) ev_c rv_I0) fun H5 e5 => ?_
      have z := hq H5 (((e2.trans e3).trans e4).trans e5)
      rw [hall, Bool.true_and] at z
      exact z
end
end K34

set_option Elab.async false
set_option linter.all false
set_option maxRecDepth 100000
set_option maxHeartbeats 4000000
namespace K34
open PySem PySem.Spec PyProof.Rows L2 Evl DL GX YA EX TH TV
theorem b3 {a b c : Bool} (h : (!a || (!b || !c)) = false) : a = true ∧ b = true ∧ c = true := by cases a <;> cases b <;> cases c <;> simp_all
theorem b2 {a b : Bool} (h : (!a || !b) = false) : a = true ∧ b = true := by cases a <;> cases b <;> simp_all
theorem b3n {a b c : Bool} (h : (!a || (!b || !c)) = true) : (a && (b && c)) = false := by cases a <;> cases b <;> cases c <;> simp_all
theorem b2n {a b : Bool} (h : (!a || !b) = true) : (a && b) = false := by cases a <;> cases b <;> simp_all
theorem or3 {a b c : Bool} : ((!a || !b) || !c) = (!a || (!b || !c)) := Bool.or_assoc _ _ _
def fWalks : List Th → Option Bool
  | [t, .int m] => if m ≤ 1000 then some (smWalks t m) else none
  | _ => none
theorem fWalks_is {ts : List Th} {b : Bool} (h : fWalks ts = some b) : ∃ t m, ts = [t, .int m] ∧ m ≤ 1000 ∧ b = smWalks t m := by
  unfold fWalks at h
  split at h
  · split at h
    · rename_i hc
      exact ⟨_, _, rfl, hc, (Option.some.inj h).symm⟩
    · cases h
  · cases h
section
variable {P : Program} {w : World} {K : PySem.W.Frag} {mg : Str → Option Value} {base : Heap}
theorem ev_lenP {σ : L2.St} {H : Hp} {te : TE} {v : V} {t : Th} (h : Ev te σ H v) (hr : Rp K H v t) (ht : isTup t = true) : Ev (tCB (rLenS K) (tCons te tNil)) σ H (.int ((parts t).length : Int)) := by
  obtain ⟨us, rfl⟩ := tup_of ht
  exact ev_lenR h hr
theorem ok_are_walks {f f1 : Addr} {fd fd1 : FuncData} {k : Nat} (T : Bi mg) (D : Df K mg "_law_are_walks" s_law_are_walks ["_law_thing", "_law_many"] f fd) (D_law_number : Df K mg "_law_number" s_law_number ["_law_thing", "_law_low", "_law_high"] f1 fd1) :
    FnOk P w K mg base CX0 (k + 2) f fd ["_law_thing", "_law_many"] (spF K [] fWalks) := by
  have G_law_number : FnOk P w K mg base CX0 1 f1 fd1 ["_law_thing", "_law_low", "_law_high"] (spF K [] fNum) := ok_number T D_law_number
  refine D.F.ok sc_law_are_walks (len_spF fun ts b h => by obtain ⟨_, _, rfl, _⟩ := fWalks_is h; rfl) (fun cdv A outer s H vs Q E hr h => ?_)
  obtain ⟨ts, b, hv, hF, hT, q⟩ := h
  obtain ⟨t, many, rfl, hmany, rfl⟩ := fWalks_is hF
  obtain ⟨v, v2, rfl, hr1, hr2⟩ := ra2 hv
  cases rp_int hr2
  refine ⟨_, (pss_cons (ps_if (PW.pt (pw_or (pt_not (pt_val (pe_callB (r := rIsi K) call_isi (by rfl) T.isinstance boot_isinstance (pa_cons (pv 0) (pa_cons (pe_bltn (by rfl) T.tuple boot_tuple (v := .ty "tuple") rfl) pa_nil))))) (pw_or1 (pt_cmpR op_ne (pe_callB (r := rLenS K) call_len_seq (by rfl) T.len PySem.boot_len (pa_cons (pv 0) pa_nil)) (pv 1) (nomark _))))) (pss_one (ps_ret pe_bl)) pss_nil)
      (pss_cons (ps_for PassesOwn.never rfl (pi_enumT (by rfl) T.enumerate (pa_cons (pv 0) pa_nil)) (pg_tup rfl (pgs_cons (pg_name (i := 2) sc_law_are_walks.nd rfl (.inl rfl)) (pgs_cons (pg_name (i := 3) sc_law_are_walks.nd rfl (.inl rfl)) pgs_nil))) (pss_cons (ps_if (PW.pt (pw_or (pt_not (pt_val (pe_callB (r := rIsi K) call_isi (by rfl) T.isinstance boot_isinstance (pa_cons (pv 3) (pa_cons (pe_bltn (by rfl) T.tuple boot_tuple (v := .ty "tuple") rfl) pa_nil))))) (pw_or (pt_cmpR op_ne (pe_callB (r := rLenS K) call_len_seq (by rfl) T.len PySem.boot_len (pa_cons (pv 3) pa_nil)) (pv 1) (nomark _)) (pw_or1 (pt_not (pt_val (pe_callB (r := rAll K) (cr_all rfl) (by rfl) T.all boot_all (pa_cons (pe_lc (own := [("_law_one", 4)]) (g := (gName 4)) rfl sc_law_are_walks.nd (pi_tup (pv 3)) (blkOk_by (N := ["_law_thing", "_law_many", "_law_f", "_law_row", "_law_one"]) (sc := defScope s_law_are_walks) (by decide +kernel)) (fun _ _ _ _ _ => (pg_name (i := 4) sc_law_are_walks.nd rfl (.inl rfl))) (fun _ _ _ _ _ => pts_nil) (fun _ _ _ _ _ => (pe_call G_law_number (hr.mono (by omega)) (by rfl) D_law_number.g D_law_number.F.kp D_law_number.b .nil pass0 (pa_cons (pv 4) (pa_cons pe_int (pa_cons pe_int pa_nil)))))) pa_nil)))))))) (pss_one (ps_ret pe_bl)) pss_nil)
      (pss_one (ps_if (pt_cmpR op_ne (pe_ix (r := rIxT K) ix_tup (pv 3) (pv 2) (fun _ _ => rfl)) pe_int (nomark _)) (pss_one (ps_ret pe_bl)) pss_nil))))
      (pss_one (ps_ret pe_bl)))), ?_⟩
  refine q_when (b := !isTup t || !decide (((parts t).length : Int) = many)) (et_or (et_not (et_B (ev_isi (ev_var rfl) hr1 (by decide)))) fun h => et_test (ev_is (ev_op (ev_lenP (ev_var rfl) hr1 (not_no h)) (ev_var rfl) (rv_ne rfl)) (by rw [dec_i]))) (fun hb H1 e1 => ?_) (fun hb H1 e1 => ?_)
  · have hz : smWalks t many = false := by
      unfold smWalks
      rw [← Bool.and_assoc, b2n hb]
      rfl
    rw [hz] at q
    exact q H1 e1
  · obtain ⟨h1, h2⟩ := b2 hb
    obtain ⟨us, rfl⟩ := tup_of h1
    have hl : (us.length : Int) = many := of_decide_eq_true h2
    have hq : ∀ H', Ex H1 H' → Q (.bl ((nums us).all (smWalk many))) H' := fun H' e' => by
      have z := q H' (e1.trans e')
      unfold smWalks at z
      rw [h1, h2] at z
      exact z
    have hr1' := rp_mono e1 hr1
    refine q_forW (α := Nat × Th) (as := nums us) (ewr_enum (ev_var (i := 0) rfl) hr1') (fun H3 i σ' H' => Ex H3 H' ∧ ∃ y2 y3 y4, σ' = [some v, some (.int many), y2, y3, y4] ∧ ((nums us).take i).all (smWalk many) = true)
      (fun H3 e3 => ⟨Ex.refl H3, _, _, _, rfl, rfl⟩) (fun _ _ _ _ p => p.1) (fun H3 i d x σ' H4 H5 e3 hd p e5 hx => ?_) (fun H3 σ' H4 e3 p => ?_)
    · obtain ⟨e4, y2, y3, y4, rfl, hall⟩ := p
      have e15 : Ex H1 H5 := (e3.trans e4).trans e5
      obtain ⟨a, u, rfl, hs, hu⟩ := hx
      have hil : i < us.length := by
        have := (List.getElem?_eq_some_iff.mp hd).1
        rw [nums_len] at this
        exact this
      have hdi : d.1 = i := by
        have z := nums_at (List.getElem?_eq_getElem hil)
        rw [hd] at z
        rw [Option.some.inj z]
      obtain ⟨di, dt⟩ := d
      have hdi : di = i := hdi
      subst hdi
      have hu : Rp K H5 u dt := hu
      refine ⟨_, tg_pair hs, ?_⟩
      have bad : smWalk many (di, dt) = false → ∀ H', Ex H5 H' → Q (.bl false) H' := fun hf H' e' => by
        have z := hq H' (e15.trans e')
        rw [all_no hd hf] at z
        exact z
      refine q_when (b := !isTup dt || (!decide (((parts dt).length : Int) = many) || !(parts dt).all fun x => isWithin x 0 3)) (et_or (et_not (et_B (ev_isi (ev_var rfl) hu (by decide)))) fun h => et_or (et_test (ev_is (ev_op (ev_lenP (ev_var rfl) hu (not_no h)) (ev_var rfl) (rv_ne rfl)) (by rw [dec_i]))) fun h2 => et_not (et_B ?_)) (fun hb H6 e6 => ?_) (fun hb H6 e6 => ?_)
      · obtain ⟨ws, rfl⟩ := tup_of (not_no h)
        have hwl : (ws.length : Int) = many := of_decide_eq_true (not_no h2)
        refine ev_allL (fun x => isWithin x 0 3) (ewr_tup (ev_var rfl) hu) (by show ws.length ≤ 40000; omega) fun j d' x' H6 e6 hd' hx' => ⟨_, tg_name, rfl, ev_num (ev_var rfl) hx' ev_c ev_c⟩
      · refine bad ?_ H6 e6
        show (isTup dt && (decide (((parts dt).length : Int) = many) && ((parts dt).all (fun x => isWithin x 0 3) && decide (asInt ((parts dt).getD di .none) = 0)))) = false
        have z := b3n hb
        generalize isTup dt = x1 at z ⊢
        generalize decide (((parts dt).length : Int) = many) = x2 at z ⊢
        generalize ((parts dt).all fun x => isWithin x 0 3) = x3 at z ⊢
        cases x1 <;> cases x2 <;> cases x3 <;> simp_all
      · obtain ⟨k1, k2, k3⟩ := b3 hb
        obtain ⟨ws, rfl⟩ := tup_of k1
        have hwl : (ws.length : Int) = many := of_decide_eq_true k2
        have hdw : di < ws.length := by omega
        obtain ⟨n, hn, _, _⟩ := int_within (List.all_eq_true.mp k3 _ (List.getElem_mem hdw))
        have hat : ws[di]? = some (.int n) := by rw [List.getElem?_eq_getElem hdw, hn]
        have sm : smWalk many (di, .tup ws) = decide (n = 0) := by
          show (isTup (.tup ws) && (decide (((parts (.tup ws)).length : Int) = many) && ((parts (.tup ws)).all (fun x => isWithin x 0 3) && decide (asInt (ws.getD di .none) = 0)))) = _
          rw [k1, k2, k3, List.getD_eq_getElem?_getD, hat]
          rfl
        obtain ⟨un, hun, evn⟩ := ev_at (i := di) (rp_mono e6 hu) hat
        cases rp_int hun
        refine s_if (et_test (ev_is (ev_op (evn (ev_var rfl) (ev_var rfl)) ev_c (rv_ne rfl)) (by rw [dec_i]))) (fun hb H7 e7 => ?_) (fun hb H7 e7 => ?_)
        · refine bad ?_ H7 (e6.trans e7)
          rw [sm]
          simpa using hb
        · refine ⟨(e4.trans e5).trans (e6.trans e7), _, _, _, rfl, all_take hd hall ?_⟩
          rw [sm]
          exact not_no hb
    · obtain ⟨e4, y2, y3, y4, rfl, hall⟩ := p
      rw [List.take_of_length_le (Nat.le_refl _)] at hall
      refine sr_ret ev_c fun H5 e5 => ?_
      have z := hq H5 ((e3.trans e4).trans e5)
      rw [hall] at z
      exact z
theorem five {us : List Th} (h : us.length = 5) : ∃ a b c d e, us = [a, b, c, d, e] := by
  match us, h with
  | [a, b, c, d, e], _ => exact ⟨a, b, c, d, e, rfl⟩
theorem ok_is_small {f f1 f2 f3 : Addr} {fd fd1 fd2 fd3 : FuncData} (T : Bi mg) (D : Df K mg "_law_is_small" s_law_is_small ["_law_thing"] f fd) (D_law_number : Df K mg "_law_number" s_law_number ["_law_thing", "_law_low", "_law_high"] f1 fd1)
    (D_law_are_frames : Df K mg "_law_are_frames" s_law_are_frames ["_law_thing"] f2 fd2) (D_law_are_walks : Df K mg "_law_are_walks" s_law_are_walks ["_law_thing", "_law_many"] f3 fd3) : FnOk P w K mg base CX0 3 f fd ["_law_thing"] (spF K [] (fn1 isSmall)) := by
  have G_law_number : FnOk P w K mg base CX0 1 f1 fd1 ["_law_thing", "_law_low", "_law_high"] (spF K [] fNum) := ok_number T D_law_number
  have G_law_are_frames : FnOk P w K mg base CX0 2 f2 fd2 ["_law_thing"] (spF K [] (fn1 smFrames)) := ok_are_frames T D_law_are_frames D_law_number
  have G_law_are_walks : FnOk P w K mg base CX0 2 f3 fd3 ["_law_thing", "_law_many"] (spF K [] fWalks) := ok_are_walks T D_law_are_walks D_law_number
  refine D.F.ok sc_law_is_small (len_spF fun ts b h => by obtain ⟨_, rfl, _⟩ := fn1_is h; rfl) (fun cdv A outer s H vs Q E hr h => ?_)
  obtain ⟨ts, b, hv, hF, hT, q⟩ := h
  obtain ⟨t, rfl, rfl⟩ := fn1_is hF
  obtain ⟨v, rfl, hr1⟩ := ra1 hv
  refine ⟨_, (pss_cons (ps_if (PW.pt (pw_or (pt_not (pt_val (pe_callB (r := rIsi K) call_isi (by rfl) T.isinstance boot_isinstance (pa_cons (pv 0) (pa_cons (pe_bltn (by rfl) T.tuple boot_tuple (v := .ty "tuple") rfl) pa_nil))))) (pw_or (pt_cmpR op_ne (pe_callB (r := rLenS K) call_len_seq (by rfl) T.len PySem.boot_len (pa_cons (pv 0) pa_nil)) pe_int (nomark _)) (pw_or1 (pt_not (pt_val (pe_call G_law_are_frames (hr.mono (by omega)) (by rfl) D_law_are_frames.g D_law_are_frames.F.kp D_law_are_frames.b .nil pass0 (pa_cons (pe_ix (r := rIxT K) ix_tup (pv 0) pe_int (fun _ _ => rfl)) pa_nil)))))))) (pss_one (ps_ret pe_bl)) pss_nil)
      (pss_cons (ps_if (PW.pt (pw_or (pt_not (pt_val (pe_call G_law_are_walks (hr.mono (by omega)) (by rfl) D_law_are_walks.g D_law_are_walks.F.kp D_law_are_walks.b .nil pass0 (pa_cons (pe_ix (r := rIxT K) ix_tup (pv 0) pe_int (fun _ _ => rfl)) (pa_cons (pe_callB (r := rLenS K) call_len_seq (by rfl) T.len PySem.boot_len (pa_cons (pe_ix (r := rIxT K) ix_tup (pv 0) pe_int (fun _ _ => rfl)) pa_nil)) pa_nil))))) (pw_or (pt_not (pt_val (pe_callB (r := rIsi K) call_isi (by rfl) T.isinstance boot_isinstance (pa_cons (pe_ix (r := rIxT K) ix_tup (pv 0) pe_int (fun _ _ => rfl)) (pa_cons (pe_bltn (by rfl) T.tuple boot_tuple (v := .ty "tuple") rfl) pa_nil))))) (pw_or1 (pt_cmpR op_ne (pe_callB (r := rLenS K) call_len_seq (by rfl) T.len PySem.boot_len (pa_cons (pe_ix (r := rIxT K) ix_tup (pv 0) pe_int (fun _ _ => rfl)) pa_nil)) pe_int (nomark _)))))) (pss_one (ps_ret pe_bl)) pss_nil)
      (pss_cons (ps_if (PW.pt (pw_or (pt_not (pt_val (pe_callB (r := rAll K) (cr_all rfl) (by rfl) T.all boot_all (pa_cons (pe_lc (own := [("_law_one", 1)]) (g := (gName 1)) rfl sc_law_is_small.nd (pi_tup (pe_ix (r := rIxT K) ix_tup (pv 0) pe_int (fun _ _ => rfl))) (blkOk_by (N := ["_law_thing", "_law_one"]) (sc := defScope s_law_is_small) (by decide +kernel)) (fun _ _ _ _ _ => (pg_name (i := 1) sc_law_is_small.nd rfl (.inl rfl))) (fun _ _ _ _ _ => pts_nil) (fun _ _ _ _ _ => (pe_call G_law_number (hr.mono (by omega)) (by rfl) D_law_number.g D_law_number.F.kp D_law_number.b .nil pass0 (pa_cons (pv 1) (pa_cons pe_int (pa_cons pe_int pa_nil)))))) pa_nil)))) (pw_or1 (pt_not (pt_val (pe_call G_law_number (hr.mono (by omega)) (by rfl) D_law_number.g D_law_number.F.kp D_law_number.b .nil pass0 (pa_cons (pe_ix (r := rIxT K) ix_tup (pv 0) pe_int (fun _ _ => rfl)) (pa_cons pe_int (pa_cons pe_int pa_nil))))))))) (pss_one (ps_ret pe_bl)) pss_nil)
      (pss_one (ps_ret (pe_and (pe_callB (r := rIsi K) call_isi (by rfl) T.isinstance boot_isinstance (pa_cons (pe_ix (r := rIxT K) ix_tup (pv 0) pe_int (fun _ _ => rfl)) (pa_cons (pe_bltn (by rfl) T.str boot_str (v := .ty "str") rfl) pa_nil))) (pe_one (pe_cmpR (r := rIn K false) op_in_seq (pe_ix (r := rIxT K) ix_tup (pv 0) pe_int (fun _ _ => rfl)) (pe_lst (pa_cons pe_str (pa_cons pe_str (pa_cons pe_str pa_nil)))) rfl)))))))), ?_⟩
  refine q_when (b := !isTup t || (!decide (((parts t).length : Int) = 5) || !smFrames ((parts t).getD 0 .none))) (et_or (et_not (et_B (ev_isi (ev_var rfl) hr1 (by decide)))) fun h => et_or (et_test (ev_is (ev_op (ev_lenP (ev_var rfl) hr1 (not_no h)) ev_c (rv_ne rfl)) (by rw [dec_i]))) fun h2 => et_not (et_B ?_)) (fun hb H1 e1 => ?_) (fun hb H1 e1 => ?_)
  · obtain ⟨us, rfl⟩ := tup_of (not_no h)
    obtain ⟨f0, w0, p0, r0, g0, rfl⟩ := five (us := us) (by have := of_decide_eq_true (not_no h2); have : (us.length : Int) = 5 := this; omega)
    obtain ⟨u, hu, hev⟩ := ev_at (i := 0) (t := f0) hr1 rfl
    exact ev_callF (F := fn1 smFrames) (ea_cons (hev (ev_var rfl) ev_c) ea_nil) (.cons hu .nil) rfl tb_nil
  · have hz : isSmall t = false := by
      unfold isSmall
      split
      · rename_i f0 w0 p0 r0 g0 hp
        rw [hp] at hb
        have hb : (!isTup t || (!decide (((5 : Nat) : Int) = 5) || !smFrames f0)) = true := hb
        generalize isTup t = x at hb ⊢
        generalize smFrames f0 = y at hb ⊢
        cases x <;> cases y <;> simp_all
      · rfl
    rw [hz] at q
    exact q H1 e1
  · obtain ⟨h1, h2, h3⟩ := b3 hb
    obtain ⟨us, rfl⟩ := tup_of h1
    obtain ⟨f0, w0, p0, r0, g0, rfl⟩ := five (us := us) (by have := of_decide_eq_true h2; have : (us.length : Int) = 5 := this; omega)
    have h3 : smFrames f0 = true := h3
    have hft : isTup f0 = true := by
      unfold smFrames at h3
      generalize isTup f0 = x at h3 ⊢
      cases x <;> simp_all
    have hfl : ((parts f0).length : Int) ≤ 3 := by
      unfold smFrames at h3
      rw [hft] at h3
      have z : decide (((parts f0).length : Int) ≤ 3) = true := by
        generalize decide (((parts f0).length : Int) ≤ 3) = x at h3 ⊢
        cases x <;> simp_all
      exact of_decide_eq_true z
    have hq : ∀ H', Ex H1 H' → Q (.bl (smWalks w0 ((parts f0).length : Int) && (smPieces p0 && (isWithin g0 0 2 && isRule r0)))) H' := fun H' e' => by
      have z := q H' (e1.trans e')
      have e : isSmall (.tup [f0, w0, p0, r0, g0]) = (isTup (.tup [f0, w0, p0, r0, g0]) && (smFrames f0 && (smWalks w0 ((parts f0).length : Int) && (smPieces p0 && (isWithin g0 0 2 && isRule r0))))) := rfl
      rw [e, h1, h3] at z
      exact z
    have hr' := rp_mono e1 hr1
    obtain ⟨u0, hu0, ev0⟩ := ev_at (i := 0) (t := f0) hr' rfl
    obtain ⟨u1, hu1, ev1⟩ := ev_at (i := 1) (t := w0) hr' rfl
    obtain ⟨u2, hu2, ev2⟩ := ev_at (i := 2) (t := p0) hr' rfl
    refine q_when (b := !smWalks w0 ((parts f0).length : Int) || (!isTup p0 || !decide (((parts p0).length : Int) = 2))) (et_or (et_not (et_B (ev_callF (F := fWalks) (ea_cons (ev1 (ev_var rfl) ev_c) (ea_cons (ev_lenP (ev0 (ev_var rfl) ev_c) hu0 hft) ea_nil)) (.cons hu1 (.cons (.int _) .nil)) (by
        show (if ((parts f0).length : Int) ≤ 1000 then _ else _) = _
        rw [if_pos (by omega)]) tb_nil))) fun h => et_or (et_not (et_B (ev_isi (ev2 (ev_var rfl) ev_c) hu2 (by decide)))) fun h2 => et_test (ev_is (ev_op (ev_lenP (ev2 (ev_var rfl) ev_c) hu2 (not_no h2)) ev_c (rv_ne rfl)) (by rw [dec_i]))) (fun hb H2 e2 => ?_) (fun hb H2 e2 => ?_)
    · have z := hq H2 e2
      have zz : (smWalks w0 ((parts f0).length : Int) && (smPieces p0 && (isWithin g0 0 2 && isRule r0))) = false := by
        have e : smPieces p0 = (isTup p0 && (decide (((parts p0).length : Int) = 2) && (parts p0).all (fun x => isWithin x 1 3))) := by
          unfold smPieces
          congr 2
          by_cases h : (parts p0).length = 2
          · rw [decide_eq_true h, decide_eq_true (show ((parts p0).length : Int) = 2 by omega)]
          · rw [decide_eq_false h, decide_eq_false (show ¬ ((parts p0).length : Int) = 2 by omega)]
        rw [e]
        have k := b3n hb
        generalize smWalks w0 ((parts f0).length : Int) = x1 at k ⊢
        generalize isTup p0 = x2 at k ⊢
        generalize decide (((parts p0).length : Int) = 2) = x3 at k ⊢
        cases x1 <;> cases x2 <;> cases x3 <;> simp_all
      rw [zz] at z
      exact z
    · obtain ⟨k1, k2, k3⟩ := b3 hb
      obtain ⟨ps, rfl⟩ := tup_of k2
      have hpl : ps.length = 2 := by
        have := of_decide_eq_true k3
        have : (ps.length : Int) = 2 := this
        omega
      have hq2 : ∀ H', Ex H2 H' → Q (.bl ((ps.all (fun x => isWithin x 1 3)) && (isWithin g0 0 2 && isRule r0))) H' := fun H' e' => by
        have z := hq H' (e2.trans e')
        have e : smPieces (.tup ps) = ps.all (fun x => isWithin x 1 3) := by
          show (isTup (.tup ps) && (decide (ps.length = 2) && ps.all (fun x => isWithin x 1 3))) = _
          rw [k2, decide_eq_true hpl, Bool.true_and, Bool.true_and]
        rw [k1, e, Bool.true_and] at z
        exact z
      have hr2 := rp_mono e2 hr'
      obtain ⟨u2', hu2', ev2'⟩ := ev_at (i := 2) (t := .tup ps) hr2 rfl
      obtain ⟨u3, hu3, ev3⟩ := ev_at (i := 3) (t := r0) hr2 rfl
      obtain ⟨u4, hu4, ev4⟩ := ev_at (i := 4) (t := g0) hr2 rfl
      refine q_when (b := !(ps.all fun x => isWithin x 1 3) || !isWithin g0 0 2) (et_or (et_not (et_B (ev_allL (fun x => isWithin x 1 3) (ewr_tup (ev2' (ev_var rfl) ev_c) hu2') (by omega) fun j d' x' H6 e6 hd' hx' => ⟨_, tg_name, rfl, ev_num (ev_var rfl) hx' ev_c ev_c⟩))) fun h => et_not (et_B (ev_num (ev4 (ev_var rfl) ev_c) hu4 ev_c ev_c))) (fun hb H3 e3 => ?_) (fun hb H3 e3 => ?_)
      · have z := hq2 H3 e3
        have k := b2n hb
        rw [← Bool.and_assoc, k] at z
        exact z
      · obtain ⟨j1, j2⟩ := b2 hb
        have hr3 := rp_mono e3 hr2
        obtain ⟨u3', hu3', ev3'⟩ := ev_at (i := 3) (t := r0) hr3 rfl
        have hq3 : ∀ H', Ex H3 H' → Q (.bl (isIn r0 "str" && isRule r0)) H' := fun H' e' => by
          have z := hq2 H' (e3.trans e')
          rw [j1, j2, Bool.true_and, Bool.true_and] at z
          have e : isRule r0 = (isIn r0 "str" && isRule r0) := by
            cases r0 with
            | str s => rfl
            | odd o => cases o <;> rfl
            | _ => rfl
          rw [e] at z
          exact z
        refine sr_ret (ev_andV (ev_isi (ev3' (ev_var rfl) ev_c) hu3' (by decide)) fun hs => ?_) hq3
        cases r0 with
        | str s =>
          cases hu3'
          exact ev_opL (ev3' (ev_var rfl) ev_c) (el_lst (ea_cons ev_c (ea_cons ev_c (ea_cons ev_c ea_nil))) (by decide)) fun p H4 hp e4 => rv_isL (sq_of hp) rfl rfl
        | odd o => cases o <;> cases hs
        | _ => cases hs
end
end K34

set_option Elab.async false
set_option linter.all false
set_option maxRecDepth 100000
set_option maxHeartbeats 4000000
namespace K34
open PySem PySem.Spec PyProof.Rows L2 Evl DL GX YA EX TH TV
abbrev s_law_sort : Stmt := topS 62
theorem sc_law_sort : FnScope ["_law_e", "_law_kinds", "_law_words"] ["_law_e"] (defScope s_law_sort) := ⟨rfl, rfl, rfl, by decide +kernel, rfl, by decide +kernel, by decide +kernel⟩
abbrev s_law_asked : Stmt := topS 68
theorem sc_law_asked : FnScope ["_law_door", "_law_thing", "_law_story", "_law_e"] ["_law_door", "_law_thing", "_law_story"] (defScope s_law_asked) := ⟨rfl, rfl, rfl, by decide +kernel, rfl, by decide +kernel, by decide +kernel⟩
abbrev s_law_right : Stmt := topS 69
theorem sc_law_right : FnScope ["_law_thing", "_law_story", "_law_due", "_law_found"] ["_law_thing", "_law_story"] (defScope s_law_right) := ⟨rfl, rfl, rfl, by decide +kernel, rfl, by decide +kernel, by decide +kernel⟩

def errs : List Str := ["NoCalls", "NoDoffs", "NoFrame", "NoHand", "NoMany", "NoMinds", "NoMoment", "NoPlain", "NoRow", "NoSmall", "NoSpun", "NoStory", "NoStray", "NoStrike", "NoText", "NoThread", "NoWait", "NoYard", "TooMany"]
def bits (nm : Str) : List Bool := errs.map fun n => n == nm
theorem bootVE : bootBuiltins "ValueError" = some (.type "ValueError") := by decide +kernel
/-- where the classes of errors stand -/
structure Ec (mg : Str → Option Value) (C : Str → Addr) : Prop where
  g : ∀ n ∈ ("DoffError" :: errs : List Str), mg n = some (.ref (C n))
/-- what is asked of one of them -/
structure E1 (K : PySem.W.Frag) (C : Str → Addr) (nm : Str) : Prop where
  is : ExcC K (C nm)
  kit : ∀ n ∈ errs, PySem.W.kitOne K (.ref (C nm)) (.ref (C n)) = some (n == nm)
  ve : PySem.W.kitOne K (.ref (C nm)) (.type "ValueError") = some true
  ex : PySem.W.exmOne K (.ref (C nm)) (.ref (C "DoffError")) = some true
section
variable {K : PySem.W.Frag} {σ : L2.St} {H : Hp} {ta tb te : TE}
theorem ev_isG {D a : Addr} {c : V} {cv : Value} {b : Bool} (h : Ev te σ H (.ref a)) (ha : H a = some (ExG (.ref D) none a)) (hc : ClsV c cv) (hk : PySem.W.kitOne K (.ref D) cv = some b) : Ev (tCB (rIsG K D) (tCons te (tCons (tC c) tNil))) σ H (.bl b) := fun H1 e Q q =>
  h H1 e _ fun H2 e2 => ⟨a, c, cv, b, rfl, e2 _ _ (e _ _ ha), hc, hk, q H2 e2⟩
theorem el_catV {l : Addr} {xs ys : List V} (h : Ev ta σ H (.ref l)) (hl : H l = some (.lst xs)) (hb : EvL tb σ H ys) (hz : xs.length + ys.length ≤ 100000) : EvL (tOp rCat ta tb) σ H (xs ++ ys) := fun H1 e Q q =>
  h H1 e _ fun H2 e2 => hb H2 (e.trans e2) _ fun p H3 hp e3 hp3 => ⟨l, p, xs, ys, rfl, rfl, e3 _ _ (e2 _ _ (e _ _ hl)), hp3, sz_of hz, fun r hr => q r _ (fresh_back (e2.trans e3) hr) ((e2.trans e3).trans (Ex.new hr)) upd_same⟩
end
def spSort (C : Str → Addr) (nm word : Str) : Sp := fun vs H Q _ => ∃ a, vs = [.ref a] ∧ H a = some (ExG (.ref (C nm)) none a) ∧ ∀ H', Ex H H' → Q (.str word) H'
section
variable {P : Program} {w : World} {K : PySem.W.Frag} {mg : Str → Option Value} {base : Heap} {C : Str → Addr}
theorem ok_sort {f : Addr} {fd : FuncData} {k : Nat} (T : Bi mg) (hC : Ec mg C) (hE : E1 K C "NoSmall") (D : Df K mg "_law_sort" s_law_sort ["_law_e"] f fd) : FnW P w K mg base (k + 1) f fd ["_law_e"] (spSort C "NoSmall" "small") := by
  refine fn_ofW D.F sc_law_sort (fun vs H Q E h => by obtain ⟨_, rfl, _⟩ := h; rfl) (fun cdv A outer s H vs Q E hr h => ?_)
  obtain ⟨a, rfl, ha, q⟩ := h
  refine ⟨_, (pss_cons (ps_set (i := 1) sc_law_sort.nd rfl (.inl rfl) (pe_lst (pa_cons (pe_callB (r := rIsG K (C "NoSmall")) (call_isG hE.is) (by rfl) T.isinstance boot_isinstance (pa_cons (pv 0) (pa_cons (pe_glob (v := .ref (C "NoCalls")) (by rfl) (hC.g "NoCalls" (by decide)) rfl) pa_nil))) (pa_cons (pe_callB (r := rIsG K (C "NoSmall")) (call_isG hE.is) (by rfl) T.isinstance boot_isinstance (pa_cons (pv 0) (pa_cons (pe_glob (v := .ref (C "NoDoffs")) (by rfl) (hC.g "NoDoffs" (by decide)) rfl) pa_nil))) (pa_cons (pe_callB (r := rIsG K (C "NoSmall")) (call_isG hE.is) (by rfl) T.isinstance boot_isinstance (pa_cons (pv 0) (pa_cons (pe_glob (v := .ref (C "NoFrame")) (by rfl) (hC.g "NoFrame" (by decide)) rfl) pa_nil))) (pa_cons (pe_callB (r := rIsG K (C "NoSmall")) (call_isG hE.is) (by rfl) T.isinstance boot_isinstance (pa_cons (pv 0) (pa_cons (pe_glob (v := .ref (C "NoHand")) (by rfl) (hC.g "NoHand" (by decide)) rfl) pa_nil))) pa_nil))))))
      (pss_cons (ps_set (i := 1) sc_law_sort.nd rfl (.inl rfl) (pe_op op_cat (pv 1) (pe_lst (pa_cons (pe_callB (r := rIsG K (C "NoSmall")) (call_isG hE.is) (by rfl) T.isinstance boot_isinstance (pa_cons (pv 0) (pa_cons (pe_glob (v := .ref (C "NoMany")) (by rfl) (hC.g "NoMany" (by decide)) rfl) pa_nil))) (pa_cons (pe_callB (r := rIsG K (C "NoSmall")) (call_isG hE.is) (by rfl) T.isinstance boot_isinstance (pa_cons (pv 0) (pa_cons (pe_glob (v := .ref (C "NoMinds")) (by rfl) (hC.g "NoMinds" (by decide)) rfl) pa_nil))) (pa_cons (pe_callB (r := rIsG K (C "NoSmall")) (call_isG hE.is) (by rfl) T.isinstance boot_isinstance (pa_cons (pv 0) (pa_cons (pe_glob (v := .ref (C "NoMoment")) (by rfl) (hC.g "NoMoment" (by decide)) rfl) pa_nil))) (pa_cons (pe_callB (r := rIsG K (C "NoSmall")) (call_isG hE.is) (by rfl) T.isinstance boot_isinstance (pa_cons (pv 0) (pa_cons (pe_glob (v := .ref (C "NoPlain")) (by rfl) (hC.g "NoPlain" (by decide)) rfl) pa_nil))) pa_nil)))))))
      (pss_cons (ps_set (i := 1) sc_law_sort.nd rfl (.inl rfl) (pe_op op_cat (pv 1) (pe_lst (pa_cons (pe_callB (r := rIsG K (C "NoSmall")) (call_isG hE.is) (by rfl) T.isinstance boot_isinstance (pa_cons (pv 0) (pa_cons (pe_glob (v := .ref (C "NoRow")) (by rfl) (hC.g "NoRow" (by decide)) rfl) pa_nil))) (pa_cons (pe_callB (r := rIsG K (C "NoSmall")) (call_isG hE.is) (by rfl) T.isinstance boot_isinstance (pa_cons (pv 0) (pa_cons (pe_glob (v := .ref (C "NoSmall")) (by rfl) (hC.g "NoSmall" (by decide)) rfl) pa_nil))) (pa_cons (pe_callB (r := rIsG K (C "NoSmall")) (call_isG hE.is) (by rfl) T.isinstance boot_isinstance (pa_cons (pv 0) (pa_cons (pe_glob (v := .ref (C "NoSpun")) (by rfl) (hC.g "NoSpun" (by decide)) rfl) pa_nil))) (pa_cons (pe_callB (r := rIsG K (C "NoSmall")) (call_isG hE.is) (by rfl) T.isinstance boot_isinstance (pa_cons (pv 0) (pa_cons (pe_glob (v := .ref (C "NoStory")) (by rfl) (hC.g "NoStory" (by decide)) rfl) pa_nil))) pa_nil)))))))
      (pss_cons (ps_set (i := 1) sc_law_sort.nd rfl (.inl rfl) (pe_op op_cat (pv 1) (pe_lst (pa_cons (pe_callB (r := rIsG K (C "NoSmall")) (call_isG hE.is) (by rfl) T.isinstance boot_isinstance (pa_cons (pv 0) (pa_cons (pe_glob (v := .ref (C "NoStray")) (by rfl) (hC.g "NoStray" (by decide)) rfl) pa_nil))) (pa_cons (pe_callB (r := rIsG K (C "NoSmall")) (call_isG hE.is) (by rfl) T.isinstance boot_isinstance (pa_cons (pv 0) (pa_cons (pe_glob (v := .ref (C "NoStrike")) (by rfl) (hC.g "NoStrike" (by decide)) rfl) pa_nil))) (pa_cons (pe_callB (r := rIsG K (C "NoSmall")) (call_isG hE.is) (by rfl) T.isinstance boot_isinstance (pa_cons (pv 0) (pa_cons (pe_glob (v := .ref (C "NoText")) (by rfl) (hC.g "NoText" (by decide)) rfl) pa_nil))) (pa_cons (pe_callB (r := rIsG K (C "NoSmall")) (call_isG hE.is) (by rfl) T.isinstance boot_isinstance (pa_cons (pv 0) (pa_cons (pe_glob (v := .ref (C "NoThread")) (by rfl) (hC.g "NoThread" (by decide)) rfl) pa_nil))) pa_nil)))))))
      (pss_cons (ps_set (i := 1) sc_law_sort.nd rfl (.inl rfl) (pe_op op_cat (pv 1) (pe_lst (pa_cons (pe_callB (r := rIsG K (C "NoSmall")) (call_isG hE.is) (by rfl) T.isinstance boot_isinstance (pa_cons (pv 0) (pa_cons (pe_glob (v := .ref (C "NoWait")) (by rfl) (hC.g "NoWait" (by decide)) rfl) pa_nil))) (pa_cons (pe_callB (r := rIsG K (C "NoSmall")) (call_isG hE.is) (by rfl) T.isinstance boot_isinstance (pa_cons (pv 0) (pa_cons (pe_glob (v := .ref (C "NoYard")) (by rfl) (hC.g "NoYard" (by decide)) rfl) pa_nil))) (pa_cons (pe_callB (r := rIsG K (C "NoSmall")) (call_isG hE.is) (by rfl) T.isinstance boot_isinstance (pa_cons (pv 0) (pa_cons (pe_glob (v := .ref (C "TooMany")) (by rfl) (hC.g "TooMany" (by decide)) rfl) pa_nil))) pa_nil))))))
      (pss_cons (ps_if (PW.pt (pw_or (pt_cmpR op_ne (pe_bm PySem.F.plainAttrs_list PySem.F.slot_list_count PySem.F.type_list_count (by exact mt_cntB hr.units) (pv 1) (pa_cons pe_bl pa_nil)) pe_int (nomark _)) (pw_or1 (pt_not (pt_val (pe_callB (r := rIsG K (C "NoSmall")) (call_isG hE.is) (by rfl) T.isinstance boot_isinstance (pa_cons (pv 0) (pa_cons (pe_bltn (by rfl) T.ValueError bootVE (v := .ty "ValueError") rfl) pa_nil)))))))) (pss_one (ps_ret pe_str)) pss_nil)
      (pss_cons (ps_set (i := 2) sc_law_sort.nd rfl (.inl rfl) (pe_lst (pa_cons pe_str (pa_cons pe_str (pa_cons pe_str (pa_cons pe_str (pa_cons pe_str (pa_cons pe_str (pa_cons pe_str (pa_cons pe_str (pa_cons pe_str (pa_cons pe_str (pa_cons pe_str (pa_cons pe_str pa_nil))))))))))))))
      (pss_one (ps_ret (pe_ix (r := rIxL K) ix_list (pe_op op_cat (pv 2) (pe_lst (pa_cons pe_str (pa_cons pe_str (pa_cons pe_str (pa_cons pe_str (pa_cons pe_str (pa_cons pe_str (pa_cons pe_str pa_nil))))))))) (pe_bm PySem.F.plainAttrs_list PySem.F.slot_list_index PySem.F.type_list_index (by exact mt_index) (pv 1) (pa_cons pe_bl pa_nil)) (fun _ _ => rfl))))))))))), ?_⟩
  have one : ∀ {σ : L2.St} {H1 : Hp} {te : TE} (n : Str) (hn : n ∈ errs), Ex H H1 → Ev te σ H1 (.ref a) → Ev (tCB (rIsG K (C "NoSmall")) (tCons te (tCons (tC (.ref (C n))) tNil))) σ H1 (.bl (n == "NoSmall")) := fun n hn e h => ev_isG h (e _ _ ha) (.own _) (hE.kit n hn)
  have e0 : Ex H H := Ex.refl H
  refine q_asgL (el_lst (ea_cons (one "NoCalls" (by decide) e0 (ev_var rfl)) (ea_cons (one "NoDoffs" (by decide) e0 (ev_var rfl)) (ea_cons (one "NoFrame" (by decide) e0 (ev_var rfl)) (ea_cons (one "NoHand" (by decide) e0 (ev_var rfl)) ea_nil)))) (by show 4 ≤ 100000; decide)) fun l1 H1 _ e1 hl1 => ?_
  refine q_asgL (el_catV (ev_var rfl) hl1 (el_lst (ea_cons (one "NoMany" (by decide) e1 (ev_var rfl)) (ea_cons (one "NoMinds" (by decide) e1 (ev_var rfl)) (ea_cons (one "NoMoment" (by decide) e1 (ev_var rfl)) (ea_cons (one "NoPlain" (by decide) e1 (ev_var rfl)) ea_nil)))) (by show 4 ≤ 100000; decide)) (by show 8 ≤ 100000; decide)) fun l2 H2 _ e2' hl2 => ?_
  have e2 := e1.trans e2'
  refine q_asgL (el_catV (ev_var rfl) hl2 (el_lst (ea_cons (one "NoRow" (by decide) e2 (ev_var rfl)) (ea_cons (one "NoSmall" (by decide) e2 (ev_var rfl)) (ea_cons (one "NoSpun" (by decide) e2 (ev_var rfl)) (ea_cons (one "NoStory" (by decide) e2 (ev_var rfl)) ea_nil)))) (by show 4 ≤ 100000; decide)) (by show 12 ≤ 100000; decide)) fun l3 H3 _ e3' hl3 => ?_
  have e3 := e2.trans e3'
  refine q_asgL (el_catV (ev_var rfl) hl3 (el_lst (ea_cons (one "NoStray" (by decide) e3 (ev_var rfl)) (ea_cons (one "NoStrike" (by decide) e3 (ev_var rfl)) (ea_cons (one "NoText" (by decide) e3 (ev_var rfl)) (ea_cons (one "NoThread" (by decide) e3 (ev_var rfl)) ea_nil)))) (by show 4 ≤ 100000; decide)) (by show 16 ≤ 100000; decide)) fun l4 H4 _ e4' hl4 => ?_
  have e4 := e3.trans e4'
  refine q_asgL (el_catV (ev_var rfl) hl4 (el_lst (ea_cons (one "NoWait" (by decide) e4 (ev_var rfl)) (ea_cons (one "NoYard" (by decide) e4 (ev_var rfl)) (ea_cons (one "TooMany" (by decide) e4 (ev_var rfl)) ea_nil))) (by show 3 ≤ 100000; decide)) (by show 19 ≤ 100000; decide)) fun l5 H5 _ e5' hl5 => ?_
  have e5 := e4.trans e5'
  have hl : H5 l5 = some (.lst ((bits "NoSmall").map V.bl)) := hl5
  refine q_when (b := false) (et_is (et_or (a := false) (b := false) (et_test (ev_is (v := .bl (!decide (V.int ((bits "NoSmall").count true : Nat) = V.int 1))) (fun H6 e6 Q6 q6 => ?_) ?_)) fun _ => et_is (et_not (et_B (ev_isG (ev_var rfl) (e5 _ _ ha) (.ty _) hE.ve))) rfl) rfl) (fun h => nomatch h) (fun _ H6 e6 => ?_)
  · exact ⟨.ref l5, rfl, .inl ⟨rfl, _, .inl (.inl (e6 _ _ hl))⟩, l5, _, true, rfl, rfl, sq_of (e6 _ _ hl), rfl, q6 H6 (Ex.refl H6)⟩
  · exact congrArg V.bl (by decide +kernel)
  refine q_asgL (el_lst (ea_cons ev_c (ea_cons ev_c (ea_cons ev_c (ea_cons ev_c (ea_cons ev_c (ea_cons ev_c (ea_cons ev_c (ea_cons ev_c (ea_cons ev_c (ea_cons ev_c (ea_cons ev_c (ea_cons ev_c ea_nil)))))))))))) (by show 12 ≤ 100000; decide)) fun m1 H7 _ e7 hm1 => ?_
  refine (el_catV (ev_var (i := 2) rfl) hm1 (el_lst (ea_cons ev_c (ea_cons ev_c (ea_cons ev_c (ea_cons ev_c (ea_cons ev_c (ea_cons ev_c (ea_cons ev_c ea_nil))))))) (by show 7 ≤ 100000; decide)) (by show 19 ≤ 100000; decide)) H7 (Ex.refl H7) _ fun m2 H8 _ e8 hm2 => ?_
  have hl8 : H8 l5 = some (.lst ((bits "NoSmall").map V.bl)) := e8 _ _ (e7 _ _ (e6 _ _ hl))
  refine ⟨.ref l5, rfl, .inl ⟨rfl, _, .inl (.inl hl8)⟩, l5, _, .bl true, 9, .bl true, rfl, rfl, sq_of hl8, rfl, by decide +kernel, by decide +kernel, rfl, fun m z hm hz => ?_, m2, _, 9, .str "small", rfl, rfl, sq_of hm2, rfl, q H8 (((e5.trans e6).trans e7).trans e8)⟩
  rcases m with _ | _ | _ | _ | _ | _ | _ | _ | _ | m
  all_goals first
    | (cases hz; rfl)
    | (exfalso; omega)
end
end K34

set_option Elab.async false
set_option linter.all false
set_option maxRecDepth 100000
set_option maxHeartbeats 4000000
namespace K34
open PySem PySem.Spec PyProof.Rows L2 Evl DL GX YA EX TH TV
/-- a def that refuses such things with the class at C -/
def spNo (K : PySem.W.Frag) (Ps : List Addr) (C : Addr) (F : List Th → Prop) : Sp := fun vs H _ E => ∃ ts, RpAll K H vs ts ∧ F ts ∧ Tb Ps H ∧ ∀ H', Ex H H' → E (.ref C) none H'
def spAsked (K : PySem.W.Frag) (Ps : List Addr) : Sp := fun vs H Q _ => ∃ (i : Int) (t u : Th), RpAll K H vs [.int i, t, u] ∧ isSmall t = false ∧ Tb Ps H ∧ ∀ H', Ex H H' → Q (.str "small") H'
def spRight (K : PySem.W.Frag) (Ps : List Addr) : Sp := fun vs H Q _ => ∃ t u, RpAll K H vs [t, u] ∧ Tb Ps H ∧ ∀ H', Ex H H' → Q (.bl true) H'
def noSmall1 (ts : List Th) : Prop := ∃ t, ts = [t] ∧ isSmall t = false
def noSmall2 (ts : List Th) : Prop := ∃ t u, ts = [t, u] ∧ isSmall t = false
section
variable {P : Program} {w : World} {K : PySem.W.Frag} {mg : Str → Option Value} {base : Heap} {C : Str → Addr} {Ps : List Addr}
theorem ok_asked {f f1 f2 f3 : Addr} {fd fd1 fd2 fd3 : FuncData} {j : Nat} {st2 st3 : Stmt} (T : Bi mg) (hC : Ec mg C) (hE : E1 K C "NoSmall") (D : Df K mg "_law_asked" s_law_asked ["_law_door", "_law_thing", "_law_story"] f fd) (D_law_sort : Df K mg "_law_sort" s_law_sort ["_law_e"] f1 fd1)
    (D_played : Df K mg "played" st2 ["small", "story"] f2 fd2) (G_played : FnOk P w K mg base (L2.CX P w) j f2 fd2 ["small", "story"] (spNo K Ps (C "NoSmall") noSmall2))
    (D_worst_story : Df K mg "worst_story" st3 ["small"] f3 fd3) (G_worst_story : FnOk P w K mg base (L2.CX P w) j f3 fd3 ["small"] (spNo K Ps (C "NoSmall") noSmall1)) :
    FnOk P w K mg base CX0 (j + 2) f fd ["_law_door", "_law_thing", "_law_story"] (spAsked K Ps) := by
  have G_law_sort : FnW P w K mg base 1 f1 fd1 ["_law_e"] (spSort C "NoSmall" "small") := ok_sort T hC hE D_law_sort
  refine D.F.ok sc_law_asked (fun vs H Q E h => by obtain ⟨i, t, u, hr, _⟩ := h; rw [ra_len hr]; rfl) (fun cdv A outer s H vs Q E hr h => ?_)
  obtain ⟨i, t, u, hv, hno, hT, q⟩ := h
  obtain ⟨v1, v2, v3, rfl, r1, r2, r3⟩ := ra3 hv
  cases rp_int r1
  refine ⟨_, (pss_cons (ps_try_tr (i := 3) rfl rfl sc_law_asked.nd rfl rfl ⟨rfl, by decide, .inl (hC.g "DoffError" (by decide))⟩ (fun W pn xe tk _ => (pss_one (ps_if (pt_cmpR op_eq (pv 0) pe_int (nomark _)) (pss_one (ps_expr (pe_callS G_played (hr.mono (by omega)) (by rfl) D_played.g D_played.F.kp D_played.b (fun σ => passAt tk σ) (pa_cons (pv 1) (pa_cons (pv 2) pa_nil))))) (pss_one (ps_expr (pe_callS G_worst_story (hr.mono (by omega)) (by rfl) D_worst_story.g D_worst_story.F.kp D_worst_story.b (fun σ => passAt tk σ) (pa_cons (pv 1) pa_nil))))))) (fun a cls d pn => (pss_one (ps_ret (pe_callW G_law_sort (room_mark (j := 1) hr (by omega)) (by rfl) D_law_sort.g D_law_sort.F.kp D_law_sort.b (pa_cons (pv 3) pa_nil))))))
      (pss_one (ps_ret pe_str))), ?_⟩
  have out : ∀ {D : Ends} {σ : L2.St} {H1 : Hp}, Ex H H1 → (∀ v H', D.rt v H' = Q v H') → σ.length = 4 → wTr K (.ref (C "DoffError")) 3 (fun a cls d => tRet (tCall (spSort C "NoSmall" "small") [] E0 (tCons (tVar 3) tNil))) D (.ref (C "NoSmall")) none σ H1 := fun {D σ H1} e hD hl => by
    refine ⟨hE.ex, fun a ha => ⟨.ref a, by rw [List.getElem?_set_self (by omega)], a, rfl, upd_same, fun H2 e2 => ?_⟩⟩
    show D.rt _ _
    rw [hD]
    exact q H2 (e.trans ((Ex.new ha).trans e2))
  refine s_if (et_test (ev_is (ev_op (ev_var rfl) ev_c (rv_eq rfl)) (by rw [dec_i]))) (fun hb H1 e1 => ?_) (fun hb H1 e1 => ?_)
  · exact ⟨v2, rfl, v3, rfl, [t, u], .cons (rp_mono e1 r2) (.cons (rp_mono e1 r3) .nil), ⟨t, u, rfl, hno⟩, hT.ex e1, fun H2 e2 => out (e1.trans e2) (fun _ _ => rfl) rfl⟩
  · exact ⟨v2, rfl, [t], .cons (rp_mono e1 r2) .nil, ⟨t, rfl, hno⟩, hT.ex e1, fun H2 e2 => out (e1.trans e2) (fun _ _ => rfl) rfl⟩
theorem ok_right {f f0 f1 f2 : Addr} {fd fd0 fd1 fd2 : FuncData} {j : Nat} {st1 : Stmt} (hj : 1 ≤ j) (T : Bi mg) (D : Df K mg "_law_right" s_law_right ["_law_thing", "_law_story"] f fd) (D_law_is_small : Df K mg "_law_is_small" s_law_is_small ["_law_thing"] f0 fd0) (G_law_is_small : FnOk P w K mg base CX0 3 f0 fd0 ["_law_thing"] (spF K [] (fn1 isSmall)))
    (D_is_small : Df K mg "is_small" st1 ["thing"] f1 fd1) (G_is_small : FnOk P w K mg base CX0 j f1 fd1 ["thing"] (spF K Ps (fn1 isSmall)))
    (D_law_asked : Df K mg "_law_asked" s_law_asked ["_law_door", "_law_thing", "_law_story"] f2 fd2) (G_law_asked : FnOk P w K mg base CX0 (j + 2) f2 fd2 ["_law_door", "_law_thing", "_law_story"] (spAsked K Ps)) :
    FnOk P w K mg base CX0 (j + 3) f fd ["_law_thing", "_law_story"] (spRight K Ps) := by
  refine D.F.ok sc_law_right (fun vs H Q E h => by obtain ⟨t, u, hr, _⟩ := h; rw [ra_len hr]; rfl) (fun cdv A outer s H vs Q E hr h => ?_)
  obtain ⟨t, u, hv, hT, q⟩ := h
  obtain ⟨v1, v2, rfl, r1, r2⟩ := ra2 hv
  refine ⟨_, (pss_cons (ps_set (i := 2) sc_law_right.nd rfl (.inl rfl) (pe_call G_law_is_small (hr.mono (by omega)) (by rfl) D_law_is_small.g D_law_is_small.F.kp D_law_is_small.b .nil pass0 (pa_cons (pv 0) pa_nil)))
      (pss_cons (ps_set (i := 3) sc_law_right.nd rfl (.inl rfl) (pe_call G_is_small (hr.mono (by omega)) (by rfl) D_is_small.g D_is_small.F.kp D_is_small.b .nil pass0 (pa_cons (pv 0) pa_nil)))
      (pss_cons (ps_if (PW.pt (pw_or (pt_not (pt_val (pe_callB (r := rIsi K) call_isi (by rfl) T.isinstance boot_isinstance (pa_cons (pv 3) (pa_cons (pe_bltn (by rfl) T.bool boot_bool (v := .ty "bool") rfl) pa_nil))))) (pw_or1 (pt_cmpR op_ne (pv 3) (pv 2) (nomark _))))) (pss_one (ps_ret pe_bl)) pss_nil)
      (pss_one (ps_ret (pe_or (pv 2) (pe_one (pe_and (pe_cmpR op_eq (pe_call G_law_asked (hr.mono (by omega)) (by rfl) D_law_asked.g D_law_asked.F.kp D_law_asked.b .nil pass0 (pa_cons pe_int (pa_cons (pv 0) (pa_cons (pv 1) pa_nil)))) pe_str (nomark _)) (pe_one (pe_cmpR op_eq (pe_call G_law_asked (hr.mono (by omega)) (by rfl) D_law_asked.g D_law_asked.F.kp D_law_asked.b .nil pass0 (pa_cons pe_int (pa_cons (pv 0) (pa_cons pe_non pa_nil)))) pe_str (nomark _))))))))))), ?_⟩
  refine q_asg (ev_callF (F := fn1 isSmall) (ea_cons (ev_var rfl) ea_nil) (.cons r1 .nil) rfl tb_nil) fun H1 e1 => ?_
  refine q_asg (ev_callF (F := fn1 isSmall) (ea_cons (ev_var rfl) ea_nil) (.cons (rp_mono e1 r1) .nil) rfl (hT.ex e1)) fun H2 e2 => ?_
  refine q_when (b := false) (et_is (et_or (et_not (et_B (ev_isi (K := K) (t := .bool (isSmall t)) (ev_var rfl) (.bl _) (by decide)))) fun _ => et_test (ev_is (ev_op (ev_var rfl) (ev_var rfl) (rv_ne rfl)) (by rw [dec_bl]))) (by
      rw [beq_self_eq_true]
      rfl)) (fun h => nomatch h) (fun _ H3 e3 => ?_)
  have e13 := (e1.trans e2).trans e3
  refine sr_ret (ev_is (ev_orV (b := true) (ev_var rfl) fun hs => ev_is (ev_andV (a := true) (b := true) (ev_is (ev_op (x := .str "small") (fun H4 e4 Q4 q4 => ?_) ev_c (rv_eq rfl)) rfl) fun _ => ev_is (ev_op (x := .str "small") (fun H4 e4 Q4 q4 => ?_) ev_c (rv_eq rfl)) rfl) rfl) (by rw [Bool.or_true])) fun H4 e4 => q H4 (e13.trans e4)
  · exact ⟨v1, rfl, v2, rfl, 0, t, u, .cons (.int 0) (.cons (rp_mono (e13.trans e4) r1) (.cons (rp_mono (e13.trans e4) r2) .nil)), hs, hT.ex (e13.trans e4), fun H5 e5 => q4 H5 e5⟩
  · exact ⟨v1, rfl, 1, t, .none, .cons (.int 1) (.cons (rp_mono (e13.trans e4) r1) (.cons .non .nil)), hs, hT.ex (e13.trans e4), fun H5 e5 => q4 H5 e5⟩
end
end K34

set_option Elab.async false
set_option linter.all false
set_option maxRecDepth 100000
set_option maxHeartbeats 4000000
namespace K34
open PySem PySem.Spec PyProof.Rows L2 Evl DL GX YA EX TH TV
abbrev s_law_bent : Stmt := topS 63
theorem sc_law_bent : FnScope ["_law_pool_here", "_law_thing", "_law_at", "_law_some"] ["_law_pool_here", "_law_thing"] (defScope s_law_bent) := ⟨rfl, rfl, rfl, by decide +kernel, rfl, by decide +kernel, by decide +kernel⟩
section
variable {P : Program} {w : World} {K : PySem.W.Frag} {mg : Str → Option Value} {base : Heap}
theorem p_take {p : Addr} {σ : L2.St} {H : Hp} {te : TE} {i : Nat} {m : Int} {E : XK} (hv : σ[i]? = some (some (.ref p))) (hp : PoolAt H p) (h0 : 0 < m ∧ m ≤ 10 ^ 40) (he : EvP (GP p) K te σ H fun t => t = .int m) :
    EvP (GP p) K (tCall spTake [] E (tCons (tVar i) (tCons te tNil))) σ H (fun t => ∃ r, t = .int r ∧ 0 ≤ r ∧ r < m) := fun H1 g Q q => ⟨.ref p, hv, he H1 g _ fun v t H2 g2 hr ht => by
  subst ht
  cases rp_int hr
  have hp2 := ((way_pool p).trans g g2).p hp
  obtain ⟨n, hn⟩ := id hp2
  refine ⟨p, n, m, rfl, hn, h0, fun t ht => ?_⟩
  refine q _ _ _ ((way_pool p).trans g2 (gp_of (fun b o nb hb => ?_) hp2 ⟨_, upd_same⟩)) (.int _) ⟨_, rfl, Int.emod_nonneg _ (by omega), Int.emod_lt_of_pos _ h0.1⟩
  rw [upd_ne nb, upd_ne (ne_of_none hb ht)]
  exact hb⟩
theorem fr_pool {p : Addr} {H : Hp} (hp : PoolAt H p) : Fr (GP p) (fun l => l ≠ p) H := fun H1 l g hn z => by
  obtain ⟨n, h⟩ := g.p hp
  rw [z, h] at hn
  cases hn
/-- the thing bent at a place: some thing -/
def spBent (K : PySem.W.Frag) (n : Nat) : Sp := fun vs H Q _ => ∃ (p : Addr) (v : V) (t : Th), vs = [.ref p, v] ∧ PoolAt H p ∧ Rp K H v t ∧ okN n t = true ∧ ∀ v' t' H', GP p H H' → Rp K H' v' t' → Q v' H'
theorem po_cut {G : Hp → Hp → Prop} {σ : L2.St} {H : Hp} {te : TE} {i : Int} (h : ∀ H, Ev te σ H (.int i)) : ∀ H1, G H H1 → ∀ Q : Option Int → Hp → Prop, (∀ H2, Ex H1 H2 → Q (some i) H2) → tPart te σ H1 Q := fun H1 _ Q q => h H1 H1 (Ex.refl H1) _ fun H2 e2 => ⟨i, rfl, q H2 e2⟩
theorem po_none' {G : Hp → Hp → Prop} {σ : L2.St} {H : Hp} : ∀ H1, G H H1 → ∀ Q : Option Int → Hp → Prop, (∀ H2, Ex H1 H2 → Q none H2) → tNoPart σ H1 Q := fun H1 _ Q q => q H1 (Ex.refl H1)
theorem tup_ok {n : Nat} {ts : List Th} (h : okN (n + 1) (.tup ts) = true) : ts.length ≤ 20 ∧ ∀ t ∈ ts, okN n t = true := by
  have z : (decide (ts.length ≤ 20) && ts.all (okN n)) = true := h
  rw [Bool.and_eq_true] at z
  exact ⟨of_decide_eq_true z.1, fun t ht => List.all_eq_true.mp z.2 t ht⟩
def anyT : Th → Prop := fun _ => True
def tupL (k : Nat) : Th → Prop := fun t => ∃ ts, t = .tup ts ∧ ts.length ≤ k
theorem cut_len (ts : List Th) (i j : Nat) : ((ts.drop i).take j).length ≤ ts.length := by
  rw [List.length_take, List.length_drop]
  omega
theorem ok_bent {f f1 : Addr} {fd fd1 : FuncData} (T : Bi mg) (D_law_bent : Df K mg "_law_bent" s_law_bent ["_law_pool_here", "_law_thing"] f fd) (D_law_take : Df K mg "_law_take" s_law_take ["_law_pool_here", "_law_many"] f1 fd1) :
    ∀ n, n ≤ 60 → FnOk P w K mg base CX0 (n + 1) f fd ["_law_pool_here", "_law_thing"] (spBent K n)
  | 0, _ => ⟨fun vs H Q E h => (by obtain ⟨_, _, _, _, _, _, z, _⟩ := h; cases z), fun A outer s H args us vs Q E _ _ _ _ h => (by obtain ⟨_, _, _, _, _, _, z, _⟩ := h; cases z)⟩
  | n + 1, hn60 => by
    have G_law_take : FnOk P w K mg base CX0 1 f1 fd1 ["_law_pool_here", "_law_many"] spTake := ok_take T D_law_take
    have G_law_bent := ok_bent T D_law_bent D_law_take n (by omega)
    refine D_law_bent.F.ok sc_law_bent (fun vs H Q E h => by obtain ⟨_, _, _, rfl, _⟩ := h; rfl) (fun cdv A outer s H vs Q E hr h => ?_)
    obtain ⟨p, v, t, rfl, hp, hrt, hok, q⟩ := h
    have W := way_pool p
    refine ⟨_, (pss_cons (ps_if (PW.pt (pw_and (pt_val (pe_callB (r := rIsi K) call_isi (by rfl) T.isinstance boot_isinstance (pa_cons (pv 1) (pa_cons (pe_bltn (by rfl) T.tuple boot_tuple (v := .ty "tuple") rfl) pa_nil)))) (pw_and (pt_cmpR (r := rNeD K) (op_neD hr.units) (pv 1) (pe_tup pa_nil) (nomark _)) (pw_and1 (pt_cmpR op_gt (pe_call G_law_take (hr.mono (by omega)) (by rfl) D_law_take.g D_law_take.F.kp D_law_take.b .nil pass0 (pa_cons (pv 0) (pa_cons pe_int pa_nil))) pe_int (nomark _)))))) (pss_cons (ps_set (i := 2) sc_law_bent.nd rfl (.inl rfl) (pe_call G_law_take (hr.mono (by omega)) (by rfl) D_law_take.g D_law_take.F.kp D_law_take.b .nil pass0 (pa_cons (pv 0) (pa_cons (pe_callB (r := rLenS K) call_len_seq (by rfl) T.len PySem.boot_len (pa_cons (pv 1) pa_nil)) pa_nil))))
      (pss_one (ps_ret (pe_op op_catA (pe_op op_catA (pe_slice sl_tupA (pv 1) po_none (po_some (pv 2))) (pe_tup (pa_cons (pe_call G_law_bent (hr.mono (by omega)) (by rfl) D_law_bent.g D_law_bent.F.kp D_law_bent.b .nil pass0 (pa_cons (pv 0) (pa_cons (pe_ix (r := rIxT K) ix_tup (pv 1) (pv 2) (fun _ _ => rfl)) pa_nil))) pa_nil))) (pe_slice sl_tupA (pv 1) (po_some (pe_op op_add (pv 2) pe_int)) po_none))))) pss_nil)
      (pss_cons (ps_if (pt_val (pe_callB (r := rIsi K) call_isi (by rfl) T.isinstance boot_isinstance (pa_cons (pv 1) (pa_cons (pe_bltn (by rfl) T.tuple boot_tuple (v := .ty "tuple") rfl) pa_nil)))) (pss_cons (ps_set (i := 2) sc_law_bent.nd rfl (.inl rfl) (pe_call G_law_take (hr.mono (by omega)) (by rfl) D_law_take.g D_law_take.F.kp D_law_take.b .nil pass0 (pa_cons (pv 0) (pa_cons (pe_op op_add (pe_callB (r := rLenS K) call_len_seq (by rfl) T.len PySem.boot_len (pa_cons (pv 1) pa_nil)) pe_int) pa_nil))))
      (pss_cons (ps_set (i := 3) sc_law_bent.nd rfl (.inl rfl) (pe_lst (pa_cons (pe_op op_catA (pe_slice sl_tupA (pv 1) po_none (po_some (pv 2))) (pe_slice sl_tupA (pv 1) (po_some (pe_op op_add (pv 2) pe_int)) po_none)) (pa_cons (pe_op op_catA (pv 1) (pe_slice sl_tupA (pv 1) po_none (po_some pe_int))) (pa_cons (pe_op op_catA (pe_op op_catA (pe_slice sl_tupA (pv 1) po_none (po_some (pv 2))) (pe_slice sl_tupA (pv 1) (po_some (pv 2)) (po_some (pe_op op_add (pv 2) pe_int)))) (pe_slice sl_tupA (pv 1) (po_some (pv 2)) po_none)) (pa_cons (pe_callTy call_list_of (by rfl) T.list boot_list (pa_cons (pv 1) pa_nil)) pa_nil))))))
      (pss_one (ps_ret (pe_ix (r := rIxL K) ix_list (pe_op op_cat (pv 3) (pe_lst (pa_cons (pe_revT (pv 1)) (pa_cons (pe_tup (pa_cons (pv 1) pa_nil)) (pa_cons pe_non (pa_cons (pe_tup pa_nil) pa_nil)))))) (pe_call G_law_take (hr.mono (by omega)) (by rfl) D_law_take.g D_law_take.F.kp D_law_take.b .nil pass0 (pa_cons (pv 0) (pa_cons pe_int pa_nil))) (fun _ _ => rfl)))))) pss_nil)
      (pss_cons (ps_set (i := 3) sc_law_bent.nd rfl (.inl rfl) (pe_lst (pa_cons pe_non (pa_cons pe_bl (pa_cons pe_bl (pa_cons pe_int (pa_cons pe_int (pa_cons pe_int (pa_cons pe_int (pa_cons pe_int (pa_cons (pe_un un_neg pe_int) (pa_cons pe_str (pa_cons pe_str (pa_cons pe_str (pa_cons pe_str (pa_cons (pe_lst pa_nil) (pa_cons pe_dnewK (pa_cons (pe_tup pa_nil) (pa_cons (pe_lst (pa_cons (pv 1) pa_nil)) (pa_cons (pe_tup (pa_cons (pv 1) pa_nil)) (pa_cons (pe_op op_pow pe_int pe_int) pa_nil)))))))))))))))))))))
      (pss_one (ps_ret (pe_ix (r := rIxL K) ix_list (pv 3) (pe_call G_law_take (hr.mono (by omega)) (by rfl) D_law_take.g D_law_take.F.kp D_law_take.b .nil pass0 (pa_cons (pv 0) (pa_cons pe_int pa_nil))) (fun _ _ => rfl))))))), ?_⟩
    refine q_whenG W (Pa := fun b => b = true → ∃ ts, t = .tup ts ∧ ts ≠ []) (tg_and W (Pa := fun b => b = isTup t) (Pb := fun b => b = true → t ≠ .tup []) (tg_B (p_isi W (p_var W rfl hrt ⟨_, rfl, rfl⟩) (by decide))) (fun ht => tg_and W (Pa := fun b => b = !PyData.eqv (thD t) (.tuple [])) (Pb := fun _ => True)
        (tg_T (p_op W (P := fun x => x = t) (P' := fun y => y = .tup []) (p_var W rfl hrt rfl) (p_tup W (pa_nilP W (Ps := fun ts => ts = []) rfl) (fun ts h => by rw [h]; exact Nat.zero_le _) (fun ts h => by rw [h])) (fun x y hx hy => by rw [hx, hy]; exact rp_ne0 hok (by omega) ⟨_, rfl, rfl⟩)))
        (fun _ => tg_T (K := K) (p_op W (p_take rfl hp ⟨by decide, by decide⟩ (p_ci W rfl)) (P' := fun y => y = .int 0) (p_ci W rfl) (fun x y hx hy => by obtain ⟨r, rfl, _⟩ := hx; rw [hy]; exact rp_gt ⟨_, rfl, trivial⟩)))
        (fun b hb _ _ z => by rw [z] at hb; exact absurd hb (by decide +kernel)) (fun hb h => nomatch h)) (fun b ht hb h => ?_) (fun _ h => nomatch h)) (fun H1 g1 hb => ?_) (fun H1 g1 hb => ?_)
    · obtain ⟨ts, rfl⟩ := tup_of ht.symm
      exact ⟨ts, rfl, fun z => hb h (by rw [z])⟩
    · -- one part bent
      obtain ⟨ts, rfl, hne⟩ := hb rfl
      obtain ⟨hl, hall⟩ := tup_ok hok
      have hl1 : 0 < ts.length := List.length_pos_iff.mpr hne
      have hp1 := g1.p hp
      have hr1 := rp_r g1.r hrt
      refine q_asgP W (p_take rfl hp1 (m := (ts.length : Int)) ⟨by omega, by omega⟩ (p_len W (p_var W rfl hr1 ⟨ts, rfl, rfl⟩))) fun va ta H2 g2 hra hta => ?_
      obtain ⟨r, rfl, h0, hlt⟩ := hta
      cases rp_int hra
      obtain ⟨i, rfl⟩ : ∃ i : Nat, r = (i : Int) := ⟨r.toNat, by omega⟩
      have hi : i < ts.length := by omega
      have hp2 := g2.p hp1
      have hr2 := rp_r g2.r hr1
      refine s_retP W (P := anyT) (p_op W (P := tupL 21) (P' := tupL 20) (p_op W (P := tupL 20) (P' := tupL 1) ?_ ?_ ?_) ?_ ?_) fun v' t' H3 g3 hr3 _ => q v' t' H3 (W.trans g1 (W.trans g2 g3)) hr3
      · exact p_cut W (lo := none) (hi := some (i : Int)) (p_var W rfl hr2 ⟨ts, rfl, _, rfl, Nat.le_trans (cut_len _ _ _) hl⟩) po_none' (po_cut fun H => ev_var rfl)
      · refine p_tup W (Ps := fun ts => ts.length = 1) (pa_consP W (P := anyT) ?_ (pa_nilP W (Ps := fun ts => ts = []) rfl) (fun t ts _ h => by rw [h]; rfl)) (fun ts h => by rw [h]; decide) (fun ts h => ⟨ts, rfl, by rw [h]; exact Nat.le_refl _⟩)
        intro H3 g3 Q3 q3
        have hr3 := rp_r g3.r hr2
        obtain ⟨a, xs, rfl, hs, ha⟩ := rp_tup hr3
        obtain ⟨u, hu, hd⟩ := ra_at ha (List.getElem?_eq_getElem hi)
        exact ⟨.ref p, rfl, .ref a, rfl, .int (i : Int), rfl, a, xs, i, u, rfl, rfl, hs, atI_nat hu, p, u, _, rfl, g3.p hp2, hd, hall _ (List.getElem_mem hi), fun v' t' H4 g4 hr4 => q3 v' t' H4 g4 hr4 trivial⟩
      · rintro x y ⟨xs, rfl, hx⟩ ⟨ys, rfl, hy⟩
        exact rp_catT (by omega) ⟨_, rfl, by rw [List.length_append]; omega⟩
      · exact p_cut W (lo := some ((i : Int) + 1)) (hi := none) (p_var W rfl hr2 ⟨ts, rfl, _, rfl, Nat.le_trans (cut_len _ _ _) hl⟩) (po_cut fun H => ev_op (ev_var rfl) ev_c rv_I0) po_none'
      · rintro x y ⟨xs, rfl, hx⟩ ⟨ys, rfl, hy⟩
        exact rp_catT (by omega) trivial
    · have hp1 := g1.p hp
      have hr1 := rp_r g1.r hrt
      have add : ∀ (k : Nat) {σ : L2.St} {H' : Hp} {ta : TE} {tr : TA}, EvP (GP p) K ta σ H' anyT → EvPA (GP p) K tr σ H' (fun ts => ts.length = k) → EvPA (GP p) K (tCons ta tr) σ H' (fun ts => ts.length = k + 1) := fun k {σ H' ta tr} h1 h2 => pa_consP W h1 h2 (fun t ts _ h => (by rw [List.length_cons, h] : (t :: ts).length = k + 1))
      refine q_whenG W (Pa := fun b => b = isTup t) (tg_B (p_isi W (p_var W rfl hr1 ⟨_, rfl, rfl⟩) (by decide))) (fun H2 g2 ht => ?_) (fun H2 g2 ht => ?_)
      · -- a tuple put otherwise
        obtain ⟨ts, rfl⟩ := tup_of ht.symm
        obtain ⟨hl, hall⟩ := tup_ok hok
        have hp2 := g2.p hp1
        have hr2 := rp_r g2.r hr1
        refine q_asgP W (p_take rfl hp2 (m := (ts.length : Int) + 1) ⟨by omega, by omega⟩ (p_op W (P := fun x => x = .int (ts.length : Int)) (P' := fun y => y = .int 1) (p_len W (p_var W rfl hr2 ⟨ts, rfl, rfl⟩)) (p_ci W rfl) (fun x y hx hy => by rw [hx, hy]; exact rp_I0 rfl))) fun va ta H3 g3 hra hta => ?_
        obtain ⟨r, rfl, h0, hlt⟩ := hta
        cases rp_int hra
        have hp3 := g3.p hp2
        have hr3 := rp_r g3.r hr2
        have cutT : ∀ {lo hi : Option Int} {tl th : TO} {σ : L2.St} {H' : Hp}, σ[1]? = some (some v) → Rp K H' v (.tup ts) → (∀ H1, GP p H' H1 → ∀ Q : Option Int → Hp → Prop, (∀ H2, Ex H1 H2 → Q lo H2) → tl σ H1 Q) → (∀ H1, GP p H' H1 → ∀ Q : Option Int → Hp → Prop, (∀ H2, Ex H1 H2 → Q hi H2) → th σ H1 Q) →
            EvP (GP p) K (tSl (rSlA K) (tVar 1) tl th) σ H' (tupL 20) := fun hs hr h1 h2 => p_cut W (p_var W hs hr ⟨ts, rfl, _, rfl, Nat.le_trans (cut_len _ _ _) hl⟩) h1 h2
        have catT : ∀ (a b c : Nat), a + b = c → c ≤ 100 → ∀ x y, tupL a x → tupL b y → RP K (rCatA K) x y (tupL c) := fun a b c e h x y ⟨xs, ex, hx⟩ ⟨ys, ey, hy⟩ => by
          subst ex ey
          exact rp_catT (by omega) ⟨_, rfl, by rw [List.length_append]; omega⟩
        have i1 : ∀ {σ : L2.St} {H : Hp}, σ[2]? = some (some (.int r)) → Ev (tVar 2) σ H (.int r) := fun h => ev_var h
        refine q_asgPL W (Ps := fun ts => ts.length = 4) (pl_lst W (fr_pool hp3) (add 3 (p_imp W (p_op W (cutT rfl hr3 po_none' (po_cut fun H => ev_var rfl)) (cutT rfl hr3 (po_cut fun H => ev_op (ev_var rfl) ev_c rv_I0) po_none') (catT 20 20 40 rfl (by decide))) (fun _ _ => trivial))
          (add 2 (p_imp W (p_op W (P := tupL 20) (p_var W rfl hr3 ⟨ts, rfl, hl⟩) (cutT rfl hr3 po_none' (po_cut fun H => ev_c)) (catT 20 20 40 rfl (by decide))) (fun _ _ => trivial))
          (add 1 (p_imp W (p_op W (p_op W (cutT rfl hr3 po_none' (po_cut fun H => ev_var rfl)) (cutT rfl hr3 (po_cut fun H => ev_var rfl) (po_cut fun H => ev_op (ev_var rfl) ev_c rv_I0)) (catT 20 20 40 rfl (by decide))) (cutT rfl hr3 (po_cut fun H => ev_var rfl) po_none') (catT 40 20 60 rfl (by decide))) (fun _ _ => trivial))
          (add 0 (p_lstT W (p_var W rfl hr3 ⟨ts, rfl⟩) trivial) (pa_nilP W rfl))))) (fun ts h => by rw [h]; decide))
          fun l xs us H4 g4 ol hll hx hul => ?_
        have hp4 := g4.p hp3
        have hr4 := rp_r g4.r hr3
        refine s_retP W (P := anyT) (p_ixL W (Ps := fun ts => ts.length = 8) (pl_cat W (Ps := fun ts => ts.length = 4) (Ps' := fun ts => ts.length = 4) (fr_pool hp4) (pl_var W rfl ol hll hx hul) (pl_lst W (fr_pool hp4) (add 3 (p_rev W (p_var W rfl hr4 ⟨ts, rfl, trivial⟩))
          (add 2 (p_tup W (add 0 (p_var W rfl hr4 trivial) (pa_nilP W rfl)) (fun ts h => by rw [h]; decide) (fun _ _ => trivial)) (add 1 (p_cn W trivial)
          (add 0 (p_tup W (Ps := fun ts => ts.length = 0) (pa_nilP W rfl) (fun ts h => by rw [h]; decide) (fun _ _ => trivial)) (pa_nilP W rfl))))) (fun ts h => by rw [h]; decide))
          (fun ts us h1 h2 => by rw [h1, h2]; decide) (fun ts us h1 h2 => by rw [List.length_append, h1, h2])) (p_take rfl hp4 ⟨by decide, by decide⟩ (p_ci W rfl)) (fun ts y h hy => ?_)) fun v' t' H5 g5 hr5 _ => q v' t' H5 (W.trans g1 (W.trans g2 (W.trans g3 (W.trans g4 g5)))) hr5
        obtain ⟨z, rfl, z0, z1⟩ := hy
        have hz : z.toNat < ts.length := by rw [h]; omega
        exact ⟨z.toNat, ts[z.toNat], by rw [Int.toNat_of_nonneg z0], List.getElem?_eq_getElem hz, trivial⟩
      · -- a part that is no tuple
        have hp2 := g2.p hp1
        have hr2 := rp_r g2.r hr1
        have two : ∀ {σ : L2.St} {H' : Hp}, σ[1]? = some (some v) → Rp K H' v t → EvPA (GP p) K (tCons (tVar 1) tNil) σ H' (fun ts => ts.length = 1) := fun hs hr => pa_consP W (P := anyT) (p_var W hs hr trivial) (pa_nilP W (Ps := fun ts => ts.length = 0) rfl) (fun t ts _ h => (by rw [List.length_cons, h] : (t :: ts).length = 1))
        refine q_asgPL W (Ps := fun ts => ts.length = 19) (pl_lst W (fr_pool hp2) (add 18 (p_cn W trivial) (add 17 (p_cb W trivial) (add 16 (p_cb W trivial) (add 15 (p_ci W trivial) (add 14 (p_ci W trivial) (add 13 (p_ci W trivial) (add 12 (p_ci W trivial) (add 11 (p_ci W trivial) (add 10 (fun H3 g3 Q3 q3 => ⟨1, rfl, q3 _ _ H3 (W.refl H3) (.int _) trivial⟩)
          (add 9 (p_cs W trivial) (add 8 (p_cs W trivial) (add 7 (p_cs W trivial) (add 6 (p_cs W trivial) (add 5 (p_lst W (pa_nilP W (Ps := fun ts => ts.length = 0) rfl) (fun ts h => by rw [h]; decide) trivial) (add 4 (p_dict W trivial) (add 3 (p_tup W (Ps := fun ts => ts.length = 0) (pa_nilP W rfl) (fun ts h => by rw [h]; decide) (fun _ _ => trivial))
          (add 2 (p_lst W (two rfl hr2) (fun ts h => by rw [h]; decide) trivial) (add 1 (p_tup W (two rfl hr2) (fun ts h => by rw [h]; decide) (fun _ _ => trivial)) (add 0 (p_op W (P := fun x => x = .int 10) (P' := fun y => y = .int 30) (p_ci W rfl) (p_ci W rfl) (fun x y hx hy => by rw [hx, hy]; exact rp_I ⟨by decide, by decide, by decide⟩ trivial)) (pa_nilP W rfl)))))))))))))))))))) (fun ts h => by rw [h]; decide))
          fun l xs us H4 g4 ol hll hx hul => ?_
        have hp4 := g4.p hp2
        refine s_retP W (P := anyT) (p_ixL W (Ps := fun ts => ts.length = 19) (pl_var W rfl ol hll hx hul) (p_take rfl hp4 ⟨by decide, by decide⟩ (p_ci W rfl)) (fun ts y h hy => ?_)) fun v' t' H5 g5 hr5 _ => q v' t' H5 (W.trans g1 (W.trans g2 (W.trans g4 g5))) hr5
        obtain ⟨z, rfl, z0, z1⟩ := hy
        have hz : z.toNat < ts.length := by rw [h]; omega
        exact ⟨z.toNat, ts[z.toNat], by rw [Int.toNat_of_nonneg z0], List.getElem?_eq_getElem hz, trivial⟩
end
end K34

set_option Elab.async false
set_option linter.all false
set_option maxRecDepth 100000
set_option maxHeartbeats 4000000
namespace K34
open PySem PySem.Spec PyProof.Rows L2 Evl DL GX YA EX TH TV
abbrev s_law_small : Stmt := topS 61
theorem sc_law_small : FnScope ["_law_pool_here", "_law_sizes", "_law_frames", "_law_wide", "_law_many", "_law_walks", "_law_pieces", "_law_rule", "_law_gap", "_law_size", "_law_f", "_law_g"] ["_law_pool_here"] (defScope s_law_small) := ⟨rfl, rfl, rfl, by decide +kernel, rfl, by decide +kernel, by decide +kernel⟩
def walksSc : Scope := { kind := .function, names := [(".0", .local), ("_law_f", .cell), ("tuple", .globalImplicit), ("range", .globalImplicit), ("_law_many", .cell), ("_law_pool_here", .cell), ("_law_wide", .cell)], isGenerator := false, isCoroutine := false }
/-- a small yard's things: pure, four deep -/
def spSmall (K : PySem.W.Frag) : Sp := fun vs H Q _ => ∃ p, vs = [.ref p] ∧ PoolAt H p ∧ ∀ v t H', GP p H H' → Rp K H' v t → okN 4 t = true → Q v H'
def sizes (ns : List Nat) : Prop := 1 ≤ ns.length ∧ ns.length ≤ 3 ∧ ∀ n ∈ ns, 1 ≤ n ∧ n ≤ 3
def szT (t : Th) : Prop := ∃ ns : List Nat, t = .tup (ns.map fun (n : Nat) => Th.int (n : Int)) ∧ sizes ns
section
variable {P : Program} {w : World} {K : PySem.W.Frag} {mg : Str → Option Value} {base : Heap}
section
variable {G : Hp → Hp → Prop} {Ok : Addr → Prop} (W : Way G Ok) {σ : L2.St} {H : Hp} {ta : TE} {tr : TA} {Pt : Th → Prop}
include W
theorem addP (k : Nat) (h1 : EvP G K ta σ H Pt) (h2 : EvPA G K tr σ H (fun ts => ts.length = k ∧ ∀ t ∈ ts, Pt t)) : EvPA G K (tCons ta tr) σ H (fun ts => ts.length = k + 1 ∧ ∀ t ∈ ts, Pt t) :=
  pa_consP W h1 h2 fun t ts ht h => ⟨by rw [List.length_cons, h.1], fun u hu => (List.mem_cons.mp hu).elim (fun e => by rw [e]; exact ht) (h.2 u)⟩
theorem nilP : EvPA G K tNil σ H (fun ts => ts.length = 0 ∧ ∀ t ∈ ts, Pt t) := pa_nilP W ⟨rfl, fun t h => nomatch h⟩
end
theorem tup_okN {n : Nat} {ts : List Th} (hl : ts.length ≤ 20) (h : ∀ t ∈ ts, okN n t = true) : okN (n + 1) (.tup ts) = true := by
  show (decide (ts.length ≤ 20) && ts.all (okN n)) = true
  rw [decide_eq_true hl, List.all_eq_true.mpr h]
  rfl
/-- one of a list, drawn -/
theorem p_pick {p : Addr} {σ : L2.St} {H : Hp} {tl te : TE} {i k : Nat} {E : XK} {Pt : Th → Prop} (hv : σ[i]? = some (some (.ref p))) (hp : PoolAt H p) (hk : 1 ≤ k ∧ k ≤ 100) (hl : EvPL (GP p) (fun l => l ≠ p) K tl σ H (fun ts => ts.length = k ∧ ∀ t ∈ ts, Pt t)) (he : EvP (GP p) K te σ H fun t => t = .int (k : Int)) :
    EvP (GP p) K (tOp (rIxL K) tl (tCall spTake [] E (tCons (tVar i) (tCons te tNil)))) σ H Pt := p_ixL (way_pool p) hl (p_take hv hp ⟨by omega, by omega⟩ he) fun ts y h hy => by
  obtain ⟨z, rfl, z0, z1⟩ := hy
  have hz : z.toNat < ts.length := by rw [h.1]; omega
  exact ⟨z.toNat, ts[z.toNat], by rw [Int.toNat_of_nonneg z0], List.getElem?_eq_getElem hz, h.2 _ (List.getElem_mem hz)⟩
theorem ints_okN {n : Nat} {t : Th} (h : ∃ i, t = .int i) : okN (n + 1) t = true := by
  obtain ⟨i, rfl⟩ := h
  rfl
theorem rp_neI {Pt : Th → Prop} {i j : Int} (hp : Pt (.bool (!decide (i = j)))) : RP K rNe (.int i) (.int j) Pt := fun v u H hv hu Q q => by
  rw [rp_int hv, rp_int hu]
  exact ⟨rfl, by rw [dec_i]; exact q _ _ H (Ex.refl H) (.bl _) hp⟩
theorem rp_eqI {Pt : Th → Prop} {i j : Int} (hp : Pt (.bool (decide (i = j)))) : RP K rEq (.int i) (.int j) Pt := fun v u H hv hu Q q => by
  rw [rp_int hv, rp_int hu]
  exact ⟨rfl, by rw [dec_i]; exact q _ _ H (Ex.refl H) (.bl _) hp⟩
/-- int(a truth) -/
theorem p_intB {G : Hp → Hp → Prop} {σ : L2.St} {H : Hp} {te : TE} {Pt : Th → Prop} (h : EvP G K te σ H fun t => ∃ b, t = .bool b ∧ Pt (.int (if b then 1 else 0))) :
    EvP G K (tCB (fun xs H Q => (∃ i, xs = [.int i] ∧ Q (.int i) H) ∨ ∃ k, xs = [.bl k] ∧ Q (.int (if k then 1 else 0)) H) (tCons te tNil)) σ H Pt := fun H1 g Q q => h H1 g _ fun v t H2 g2 hr ht => by
  obtain ⟨b, rfl, hp⟩ := ht
  cases hr
  exact .inr ⟨b, rfl, q _ _ H2 g2 (.int _) hp⟩
theorem ints_back {H : Hp} : ∀ {ns : List Nat} {xs : List V}, RpAll K H xs (ns.map fun (n : Nat) => Th.int (n : Int)) → xs = (ns.map fun (n : Nat) => (n : Int)).map V.int
  | [], _, h => by cases h; rfl
  | n :: ns, _, h => by
    cases h with
    | cons h1 h2 => rw [ints_back h2, rp_int h1]; rfl
theorem p_sumT {G : Hp → Hp → Prop} {σ : L2.St} {H : Hp} {te : TE} {Pt : Th → Prop} {ns : List Nat} (h : EvP G K te σ H fun t => t = .tup (ns.map fun (n : Nat) => Th.int (n : Int))) (hp : ∀ i : Int, Pt (.int i)) : EvP G K (tCB (rSumT K) (tCons te tNil)) σ H Pt := fun H1 g Q q => h H1 g _ fun v t H2 g2 hr ht => by
  subst ht
  obtain ⟨a, xs, rfl, hs, ha⟩ := rp_tup hr
  have hx := ints_back ha
  rw [hx] at hs
  exact ⟨a, _, rfl, hs, q _ _ H2 g2 (.int _) (hp _)⟩
theorem p_min2 {G : Hp → Hp → Prop} {Ok : Addr → Prop} (W : Way G Ok) {σ : L2.St} {H : Hp} {ta tb : TE} {Pt : Th → Prop} (ha : EvP G K ta σ H fun t => ∃ i : Int, t = .int i) (hb : EvP G K tb σ H fun t => ∃ i : Int, t = .int i) (hp : ∀ i : Int, Pt (.int i)) :
    EvP G K (tCB (fun xs H Q => ∃ i j, xs = [.int i, .int j] ∧ Q (.int (if j < i then j else i)) H) (tCons ta (tCons tb tNil))) σ H Pt := fun H1 g Q q => ha H1 g _ fun v t H2 g2 hr ht => hb H2 (W.trans g g2) _ fun u t' H3 g3 hr' ht' => by
  obtain ⟨i, rfl⟩ := ht
  obtain ⟨j, rfl⟩ := ht'
  cases rp_int hr
  cases rp_int hr'
  exact ⟨i, j, rfl, q _ _ H3 (W.trans g2 g3) (.int _) (hp _)⟩
theorem ok_small {f f1 : Addr} {fd fd1 : FuncData} {k : Nat} (T : Bi mg) (D : Df K mg "_law_small" s_law_small ["_law_pool_here"] f fd) (D_law_take : Df K mg "_law_take" s_law_take ["_law_pool_here", "_law_many"] f1 fd1) : FnOk P w K mg base CX0 (k + 2) f fd ["_law_pool_here"] (spSmall K) := by
  have G_law_take : FnOk P w K mg base CX0 1 f1 fd1 ["_law_pool_here", "_law_many"] spTake := ok_take T D_law_take
  refine D.F.ok sc_law_small (fun vs H Q E h => by obtain ⟨_, rfl, _⟩ := h; rfl) (fun cdv A outer s H vs Q E hr h => ?_)
  obtain ⟨p, rfl, hp, q⟩ := h
  have W := way_pool p
  refine ⟨_, (pss_cons (ps_set (i := 1) sc_law_small.nd rfl (.inl rfl) (pe_ix (r := rIxL K) ix_list (pe_lst (pa_cons (pe_tup (pa_cons pe_int pa_nil)) (pa_cons (pe_tup (pa_cons pe_int pa_nil)) (pa_cons (pe_tup (pa_cons pe_int pa_nil)) (pa_cons (pe_tup (pa_cons pe_int (pa_cons pe_int pa_nil))) (pa_cons (pe_tup (pa_cons pe_int (pa_cons pe_int pa_nil))) (pa_cons (pe_tup (pa_cons pe_int (pa_cons pe_int pa_nil))) (pa_cons (pe_tup (pa_cons pe_int (pa_cons pe_int (pa_cons pe_int pa_nil)))) pa_nil)))))))) (pe_call G_law_take (hr.mono (by omega)) (by rfl) D_law_take.g D_law_take.F.kp D_law_take.b .nil pass0 (pa_cons (pv 0) (pa_cons pe_int pa_nil))) (fun _ _ => rfl)))
      (pss_cons (ps_set (i := 2) sc_law_small.nd rfl (.inl rfl) (pe_callTy (r := rTupOf K) call_tuple_of (by rfl) T.tuple boot_tuple (pa_cons (pe_lc (own := [("_law_size", 9)]) (g := (gName 9)) rfl sc_law_small.nd (pi_tup (pv 1)) (blkOk_by (N := ["_law_pool_here", "_law_sizes", "_law_frames", "_law_wide", "_law_many", "_law_walks", "_law_pieces", "_law_rule", "_law_gap", "_law_size", "_law_f", "_law_g"]) (sc := defScope s_law_small) (by decide +kernel)) (fun _ _ _ _ _ => (pg_name (i := 9) sc_law_small.nd rfl (.inl rfl))) (fun _ _ _ _ _ => pts_nil) (fun _ _ _ _ _ => (pe_tup (pa_cons (pe_call G_law_take (hr.mono (by omega)) (by rfl) D_law_take.g D_law_take.F.kp D_law_take.b .nil pass0 (pa_cons (pv 0) (pa_cons pe_int pa_nil))) (pa_cons (pv 9) (pa_cons (pe_call G_law_take (hr.mono (by omega)) (by rfl) D_law_take.g D_law_take.F.kp D_law_take.b .nil pass0 (pa_cons (pv 0) (pa_cons (pv 9) pa_nil))) pa_nil)))))) pa_nil)))
      (pss_cons (ps_set (i := 3) sc_law_small.nd rfl (.inr rfl) (pe_ix (r := rIxL K) ix_list (pe_lst (pa_cons pe_int (pa_cons pe_int (pa_cons pe_int pa_nil)))) (pe_call G_law_take (hr.mono (by omega)) (by rfl) D_law_take.g D_law_take.F.kp D_law_take.b .nil pass0 (pa_cons (pv 0) (pa_cons pe_int pa_nil))) (fun _ _ => rfl)))
      (pss_cons (ps_set (i := 4) sc_law_small.nd rfl (.inr rfl) (pe_callB (r := rLenS K) call_len_seq (by rfl) T.len PySem.boot_len (pa_cons (pv 1) pa_nil)))
      (pss_cons (ps_set (i := 5) sc_law_small.nd rfl (.inl rfl) (pe_callTy (r := rTupOf K) call_tuple_of (by rfl) T.tuple boot_tuple (pa_cons (pe_lc (own := [("_law_f", 10)]) (g := (gName 10)) rfl sc_law_small.nd (pi_range1 rfl T.range (pa_cons (pv 4) pa_nil)) (blkOk_by (N := ["_law_pool_here", "_law_sizes", "_law_frames", "_law_wide", "_law_many", "_law_walks", "_law_pieces", "_law_rule", "_law_gap", "_law_size", "_law_f", "_law_g"]) (sc := defScope s_law_small) (by decide +kernel)) (fun _ _ _ _ _ => (pg_name (i := 10) sc_law_small.nd rfl (.inr rfl))) (fun _ _ _ _ _ => pts_nil) (fun _ _ _ _ _ => (pe_callTy (r := rTupOf K) call_tuple_of (by rfl) T.tuple boot_tuple (pa_cons (pe_lc (own := [("_law_g", 11)]) (g := (gName 11)) rfl sc_law_small.nd (pi_range1 rfl T.range (pa_cons (pv 4) pa_nil)) (blkOk_by (N := ["_law_pool_here", "_law_sizes", "_law_frames", "_law_wide", "_law_many", "_law_walks", "_law_pieces", "_law_rule", "_law_gap", "_law_size", "_law_f", "_law_g"]) (sc := walksSc) (by decide +kernel)) (fun _ _ _ _ _ => (pg_name (i := 11) sc_law_small.nd rfl (.inl rfl))) (fun _ _ _ _ _ => pts_nil) (fun _ _ _ _ _ => (pe_op op_mulW (pe_call G_law_take (hr.mono (by omega)) (by rfl) D_law_take.g D_law_take.F.kp D_law_take.b .nil pass0 (pa_cons (pv 0) (pa_cons (pv 3) pa_nil))) (pe_callTy call_int1 (by rfl) T.int boot_int (pa_cons (pe_cmpR op_ne (pv 10) (pv 11) (nomark _)) pa_nil))))) pa_nil)))) pa_nil)))
      (pss_cons (ps_set (i := 6) sc_law_small.nd rfl (.inl rfl) (pe_tup (pa_cons (pe_op op_add pe_int (pe_call G_law_take (hr.mono (by omega)) (by rfl) D_law_take.g D_law_take.F.kp D_law_take.b .nil pass0 (pa_cons (pv 0) (pa_cons pe_int pa_nil)))) (pa_cons (pe_op op_add pe_int (pe_call G_law_take (hr.mono (by omega)) (by rfl) D_law_take.g D_law_take.F.kp D_law_take.b .nil pass0 (pa_cons (pv 0) (pa_cons pe_int pa_nil)))) pa_nil))))
      (pss_cons (ps_set (i := 7) sc_law_small.nd rfl (.inl rfl) (pe_ix (r := rIxL K) ix_list (pe_lst (pa_cons pe_str (pa_cons pe_str (pa_cons pe_str pa_nil)))) (pe_call G_law_take (hr.mono (by omega)) (by rfl) D_law_take.g D_law_take.F.kp D_law_take.b .nil pass0 (pa_cons (pv 0) (pa_cons pe_int pa_nil))) (fun _ _ => rfl)))
      (pss_cons (ps_set (i := 8) sc_law_small.nd rfl (.inl rfl) (pe_ix (r := rIxL K) ix_list (pe_lst (pa_cons pe_int (pa_cons pe_int (pa_cons pe_int (pa_cons pe_int pa_nil))))) (pe_call G_law_take (hr.mono (by omega)) (by rfl) D_law_take.g D_law_take.F.kp D_law_take.b .nil pass0 (pa_cons (pv 0) (pa_cons pe_int pa_nil))) (fun _ _ => rfl)))
      (pss_cons (ps_if (pt_cmpR op_gt (pe_callB (r := rSumT K) (cr_sumT rfl) (by rfl) T.sum boot_sum (pa_cons (pv 1) pa_nil)) pe_int (nomark _)) (pss_one (ps_set (i := 8) sc_law_small.nd rfl (.inl rfl) (pe_callB (call_min2 rfl) (by rfl) T.min boot_min (pa_cons (pv 8) (pa_cons (pe_callTy call_int1 (by rfl) T.int boot_int (pa_cons (pe_cmpR op_eq (pv 4) pe_int (nomark _)) pa_nil)) pa_nil))))) pss_nil)
      (pss_one (ps_ret (pe_tup (pa_cons (pv 2) (pa_cons (pv 5) (pa_cons (pv 6) (pa_cons (pv 7) (pa_cons (pv 8) pa_nil))))))))))))))))), ?_⟩
  have one : ∀ {σ : L2.St} {H' : Hp} (n : Nat), EvP (GP p) K (tC (.int (n : Int))) σ H' (fun t => t = .int (n : Int)) := fun n => p_ci W rfl
  have lits : ∀ {σ : L2.St} {H' : Hp} {ta : TA} {ts : List Th}, EvPA (GP p) K ta σ H' (fun us => us = ts) → szT (.tup ts) → ts.length ≤ 3 → EvP (GP p) K (tTup ta) σ H' szT := fun h hs hl => p_tup W h (fun us e => by rw [e]; omega) (fun us e => by rw [e]; exact hs)
  have more : ∀ {σ : L2.St} {H' : Hp} {ta : TA} {ts : List Th} (n : Nat), EvPA (GP p) K ta σ H' (fun us => us = ts) → EvPA (GP p) K (tCons (tC (.int (n : Int))) ta) σ H' (fun us => us = .int (n : Int) :: ts) := fun n h => pa_consP W (one n) h fun t us h1 h2 => by rw [h1, h2]
  have none' : ∀ {σ : L2.St} {H' : Hp}, EvPA (GP p) K tNil σ H' (fun us => us = []) := pa_nilP W rfl
  have lit1 : ∀ {σ : L2.St} {H' : Hp} (a : Nat), sizes [a] → EvP (GP p) K (tTup (tCons (tC (.int (a : Int))) tNil)) σ H' szT := fun a h => lits (more a none') ⟨[a], rfl, h⟩ (by show 1 ≤ 3; decide)
  have lit2 : ∀ {σ : L2.St} {H' : Hp} (a b : Nat), sizes [a, b] → EvP (GP p) K (tTup (tCons (tC (.int (a : Int))) (tCons (tC (.int (b : Int))) tNil))) σ H' szT := fun a b h => lits (more a (more b none')) ⟨[a, b], rfl, h⟩ (by show 2 ≤ 3; decide)
  have lit3 : ∀ {σ : L2.St} {H' : Hp} (a b c : Nat), sizes [a, b, c] → EvP (GP p) K (tTup (tCons (tC (.int (a : Int))) (tCons (tC (.int (b : Int))) (tCons (tC (.int (c : Int))) tNil)))) σ H' szT := fun a b c h => lits (more a (more b (more c none'))) ⟨[a, b, c], rfl, h⟩ (by show 3 ≤ 3; decide)
  -- sizes
  refine q_asgP W (P := szT) (p_pick (k := 7) rfl hp (by decide) (pl_lst W (fr_pool hp) (addP W 6 (lit1 1 ⟨by decide, by decide, by decide⟩) (addP W 5 (lit1 2 ⟨by decide, by decide, by decide⟩) (addP W 4 (lit1 3 ⟨by decide, by decide, by decide⟩) (addP W 3 (lit2 1 1 ⟨by decide, by decide, by decide⟩) (addP W 2 (lit2 1 2 ⟨by decide, by decide, by decide⟩) (addP W 1 (lit2 2 1 ⟨by decide, by decide, by decide⟩) (addP W 0 (lit3 1 1 1 ⟨by decide, by decide, by decide⟩) (nilP W)))))))) (fun ts h => by rw [h.1]; decide)) (one 7)) fun vs1 ts1 H1 g1 hr1 hs1 => ?_
  obtain ⟨ns, rfl, hn1, hn3, hns⟩ := hs1
  have hp1 := g1.p hp
  -- frames
  refine q_asgP W (P := fun t => okN 3 t = true) (p_tupL W (pl_lc W (as := ns.map fun (n : Nat) => Th.int (n : Int)) (Pe := fun _ t => okN 2 t = true) (fr_pool hp1) (wg_tup W (p_var W rfl hr1 rfl)) (by rw [List.length_map]; omega) fun i d x H2 g2 hd hx => ?_) (fun ts h => ?_)) fun vs2 ts2 H2 g2 hr2 hs2 => ?_
  · rw [List.getElem?_map] at hd
    obtain ⟨n, hn, rfl⟩ := Option.map_eq_some_iff.mp hd
    have hnb := hns n (List.mem_of_getElem? hn)
    have hp2 := g2.p hp1
    refine ⟨_, tg_name, rfl, p_tup W (Ps := fun ts => ts.length = 3 ∧ ∀ t ∈ ts, okN 1 t = true) (addP W 2 (p_imp W (p_take (m := 2) rfl hp2 ⟨by decide, by decide⟩ (one 2)) fun t ht => ?_) (addP W 1 (p_var W rfl hx rfl) (addP W 0 (p_imp W (p_take (m := (n : Int)) rfl hp2 ⟨by omega, by omega⟩ (p_var W rfl hx rfl)) fun t ht => ?_) (nilP W)))) (fun ts h => by rw [h.1]; decide) (fun ts h => tup_okN (by rw [h.1]; decide) h.2)⟩
    · obtain ⟨r, rfl, _⟩ := ht
      rfl
    · obtain ⟨r, rfl, _⟩ := ht
      rfl
  · refine tup_okN (by rw [h.1, List.length_map]; omega) fun t ht => ?_
    obtain ⟨j, hj⟩ := List.getElem?_of_mem ht
    have hjl : j < (ns.map fun (n : Nat) => Th.int (n : Int)).length := by
      rw [← h.1]
      exact (List.getElem?_eq_some_iff.mp hj).1
    exact h.2 j t _ hj (List.getElem?_eq_getElem hjl)
  have hp2 := g2.p hp1
  -- wide
  refine q_asgP W (P := fun t => ∃ i : Int, t = .int i ∧ 1 ≤ i ∧ i ≤ 4) (p_pick (k := 3) rfl hp2 (by decide) (pl_lst W (fr_pool hp2) (addP W 2 (p_ci W ⟨1, rfl, by decide, by decide⟩) (addP W 1 (p_ci W ⟨2, rfl, by decide, by decide⟩) (addP W 0 (p_ci W ⟨4, rfl, by decide, by decide⟩) (nilP W)))) (fun ts h => by rw [h.1]; decide)) (one 3)) fun vs3 ts3 H3 g3 hr3 hs3 => ?_
  obtain ⟨wi, rfl, hw1, hw4⟩ := hs3
  cases rp_int hr3
  have hp3 := g3.p hp2
  have hr13 := rp_r (W.trans g2 g3).r hr1
  -- many
  refine q_asgP W (P := fun t => t = .int (ns.length : Int)) (p_len W (p_var W rfl hr13 ⟨_, rfl, by rw [List.length_map]⟩)) fun vs4 ts4 H4 g4 hr4 hs4 => ?_
  subst hs4
  cases rp_int hr4
  have hp4 := g4.p hp3
  -- walks
  refine q_asgP W (P := fun t => okN 3 t = true) (p_tupL W (pl_lc W (as := List.range ns.length) (Pe := fun _ t => okN 2 t = true) (fr_pool hp4) (wg_rng (K := K) W (by omega) (p_var W rfl (.int _) rfl)) (by rw [List.length_range]; omega) fun i d x H5 g5 hd hx => ?_) (fun ts h => ?_)) fun vs5 ts5 H5 g5 hr5 hs5 => ?_
  · subst hx
    have hp5 := g5.p hp4
    refine ⟨_, tg_name, rfl, p_tupL W (pl_lc W (as := List.range ns.length) (Pe := fun _ t => okN 1 t = true) (fr_pool hp5) (wg_rng (K := K) W (by omega) (p_var W rfl (.int _) rfl)) (by rw [List.length_range]; omega) fun i' d' x' H6 g6 hd' hx' => ?_) (fun ts h => ?_)⟩
    · subst hx'
      have hp6 := g6.p hp5
      refine ⟨_, tg_name, rfl, p_op W (p_take (m := wi) rfl hp6 ⟨by omega, by omega⟩ (p_var W rfl (.int _) rfl)) (P' := fun y => y = .int 0 ∨ y = .int 1) (p_intB (p_op W (P := fun x => x = .int (d : Int)) (P' := fun y => y = .int (d' : Int)) (p_var W rfl (.int _) rfl) (p_var W rfl (.int _) rfl) (fun x y hx hy => by
        rw [hx, hy]
        refine rp_neI ⟨_, rfl, ?_⟩
        cases (!decide ((d : Int) = (d' : Int)))
        · exact .inl rfl
        · exact .inr rfl))) (fun x y hx hy => ?_)⟩
      obtain ⟨r, rfl, r0, r1⟩ := hx
      rcases hy with rfl | rfl
      · exact rp_I (mulW (by omega) (by omega)) rfl
      · exact rp_I (mulW (by omega) (by omega)) rfl
    · refine tup_okN (by rw [h.1, List.length_range]; omega) fun t ht => ?_
      obtain ⟨j, hj⟩ := List.getElem?_of_mem ht
      have hjl : j < (List.range ns.length).length := by
        rw [← h.1]
        exact (List.getElem?_eq_some_iff.mp hj).1
      exact h.2 j t _ hj (List.getElem?_eq_getElem hjl)
  · refine tup_okN (by rw [h.1, List.length_range]; omega) fun t ht => ?_
    obtain ⟨j, hj⟩ := List.getElem?_of_mem ht
    have hjl : j < (List.range ns.length).length := by
      rw [← h.1]
      exact (List.getElem?_eq_some_iff.mp hj).1
    exact h.2 j t _ hj (List.getElem?_eq_getElem hjl)
  have hp5 := g5.p hp4
  -- pieces
  have onePlus : ∀ {σ : L2.St} {H' : Hp}, σ[0]? = some (some (.ref p)) → PoolAt H' p → EvP (GP p) K (tOp (rI0 fun i j => .int (i + j)) (tC (.int 1)) (tCall spTake [] E0 (tCons (tVar 0) (tCons (tC (.int 3)) tNil)))) σ H' (fun t => okN 1 t = true) := fun hs hh => p_op W (P := fun x => x = .int 1) (p_ci W rfl) (p_take (m := 3) hs hh ⟨by decide, by decide⟩ (one 3)) (fun x y hx hy => by
    obtain ⟨r, rfl, _⟩ := hy
    rw [hx]
    exact rp_I0 rfl)
  refine q_asgP W (P := fun t => okN 2 t = true) (p_tup W (addP W 1 (onePlus rfl hp5) (addP W 0 (onePlus rfl hp5) (nilP W))) (fun ts h => by rw [h.1]; decide) (fun ts h => tup_okN (by rw [h.1]; decide) h.2)) fun vs6 ts6 H6 g6 hr6 hs6 => ?_
  have hp6 := g6.p hp5
  -- rule
  refine q_asgP W (P := fun t => okN 1 t = true) (p_pick (k := 3) rfl hp6 (by decide) (pl_lst W (fr_pool hp6) (addP W 2 (p_cs W (by decide +kernel)) (addP W 1 (p_cs W (by decide +kernel)) (addP W 0 (p_cs W (by decide +kernel)) (nilP W)))) (fun ts h => by rw [h.1]; decide)) (one 3)) fun vs7 ts7 H7 g7 hr7 hs7 => ?_
  have hp7 := g7.p hp6
  -- gap
  refine q_asgP W (P := fun t => ∃ i : Int, t = .int i) (p_pick (k := 4) rfl hp7 (by decide) (pl_lst W (fr_pool hp7) (addP W 3 (p_ci W ⟨0, rfl⟩) (addP W 2 (p_ci W ⟨0, rfl⟩) (addP W 1 (p_ci W ⟨1, rfl⟩) (addP W 0 (p_ci W ⟨2, rfl⟩) (nilP W))))) (fun ts h => by rw [h.1]; decide)) (one 4)) fun vs8 ts8 H8 g8 hr8 hs8 => ?_
  obtain ⟨gap, rfl⟩ := hs8
  cases rp_int hr8
  have hp8 := g8.p hp7
  have g28 := W.trans g3 (W.trans g4 (W.trans g5 (W.trans g6 (W.trans g7 g8))))
  have g58 := W.trans g6 (W.trans g7 g8)
  have g68 := W.trans g7 g8
  have g08 := W.trans g1 (W.trans g2 g28)
  have hr18 := rp_r (W.trans g2 g28).r hr1
  have fin : ∀ (gp : Int) (y9 y10 y11 : Option V) (H9 : Hp), GP p H8 H9 → tRet (tTup (tCons (tVar 2) (tCons (tVar 5) (tCons (tVar 6) (tCons (tVar 7) (tCons (tVar 8) tNil)))))) { nx := fun _ H' => Q .non H', rt := Q } [some (.ref p), some vs1, some vs2, some (.int wi), some (.int (ns.length : Int)), some vs5, some vs6, some vs7, some (.int gp), y9, y10, y11] H9 := fun gp y9 y10 y11 H9 g9 => by
    have up : ∀ {n m : Nat} {t : Th}, n ≤ m → okN n t = true → okN m t = true := fun {n m t} h => by
      induction n generalizing m t with
      | zero => exact fun z => nomatch z
      | succ n ih =>
        obtain ⟨m, rfl⟩ : ∃ k, m = k + 1 := ⟨m - 1, by omega⟩
        intro z
        cases t with
        | tup ts =>
          obtain ⟨h1, h2⟩ := tup_ok z
          exact tup_okN h1 fun t ht => ih (by omega) (h2 t ht)
        | str s => exact z
        | odd o => cases z
        | _ => rfl
    refine s_retP W (P := fun t => okN 4 t = true) (p_tup W (Ps := fun ts => ts.length = 5 ∧ ∀ t ∈ ts, okN 3 t = true) (addP W 4 (p_var W rfl (rp_r (W.trans g28 g9).r hr2) hs2) (addP W 3 (p_var W rfl (rp_r (W.trans g58 g9).r hr5) hs5) (addP W 2 (p_var W rfl (rp_r (W.trans g68 g9).r hr6) (up (by decide) hs6)) (addP W 1 (p_var W rfl (rp_r (W.trans g8 g9).r hr7) (up (by decide) hs7)) (addP W 0 (p_var W rfl (.int gp) rfl) (nilP W)))))) (fun ts h => by rw [h.1]; decide) (fun ts h => tup_okN (by rw [h.1]; decide) h.2)) fun v t H10 g10 hrt hok => q v t H10 (W.trans g08 (W.trans g9 g10)) hrt hok
  refine q_whenG W (Pa := fun _ => True) (tg_T (K := K) (p_op W (P := fun x => ∃ i : Int, x = .int i) (P' := fun y => y = .int 2) (p_sumT (ns := ns) (p_var W rfl hr18 rfl) fun i => ⟨i, rfl⟩) (p_ci W rfl) (fun x y hx hy => by obtain ⟨i, rfl⟩ := hx; rw [hy]; exact rp_gt ⟨_, rfl, trivial⟩))) (fun H9 g9 _ => ?_) (fun H9 g9 _ => fin gap _ _ _ H9 g9)
  refine p_min2 (K := K) (Pt := fun t => ∃ i : Int, t = .int i) W (p_var W rfl (.int gap) ⟨_, rfl⟩) (p_intB (p_op W (P := fun x => x = .int (ns.length : Int)) (P' := fun y => y = .int 1) (p_var W rfl (.int _) rfl) (p_ci W rfl) (fun x y hx hy => by rw [hx, hy]; exact rp_eqI ⟨_, rfl, _, rfl⟩))) (fun i => ⟨i, rfl⟩) H9 (W.refl H9) _ fun v t H10 g10 hrt ht => ?_
  obtain ⟨i, rfl⟩ := ht
  cases rp_int hrt
  exact fin i _ _ _ H10 (W.trans g9 g10)
end
end K34

set_option Elab.async false
set_option linter.all false
set_option maxRecDepth 100000
set_option maxHeartbeats 4000000
namespace K34
open PySem PySem.Spec PyProof.Rows L2 Evl DL GX YA EX TH TV
abbrev s_law_at_bounds : Stmt := topS 70
theorem sc_law_at_bounds : FnScope ["_law_one", "_law_walk", "_law_found", "_law_some", "_law_frame", "_law_pair", "_law_frames", "_law_walks", "_law_gap", "_law_pieces"] [] (defScope s_law_at_bounds) := ⟨rfl, rfl, rfl, by decide +kernel, rfl, by decide +kernel, by decide +kernel⟩

theorem way_l (l : Addr) : Way Ex (fun p => p ≠ l) := ⟨Ex.refl, fun a b => a.trans b, fun e => e, exr_of, fun e hn _ => Ex.mut e hn, fun e _ h => e _ _ h⟩
theorem fr_l {H : Hp} {l : Addr} {o : HO} (h : H l = some o) : Fr Ex (fun p => p ≠ l) H := fun H1 p e hn z => by
  rw [z, e _ _ h] at hn
  cases hn
section
variable {K : PySem.W.Frag} {σ : L2.St} {H : Hp} {tl te : TE} {tz : TS} {D : Ends}
/-- for x in ..: found.append(..) -/
theorem q_forApp {l : Addr} {xs : List V} {ts : List Th} {n js jl : Nat} (hl : H l = some (.lst xs)) (hx : RpAll K H xs ts) (hσ : σ[jl]? = some (some (.ref l))) (hjj : js ≠ jl) (hw : EvPL Ex (fun p => p ≠ l) K tl σ H (fun us => us.length = n)) (hn : n + xs.length ≤ 1000)
    (he : ∀ x d H1, ExR H H1 → Rp K H1 x d → EvP Ex K te (σ.set js (some x)) H1 (fun _ => True))
    (hd : ∀ H' y xs' ts', ExR H H' → ExB l H H' → H' l = some (.lst xs') → RpAll K H' xs' ts' → xs'.length = xs.length + n → tz D (σ.set js y) H') :
    tSeq (tFor (iList K tl) (gName js) (tDrop (tBM K "list" rAppend (tVar jl) (tCons te tNil)))) tz D σ H := hw H (Ex.refl H) _ fun m ys us H1 e1 om hm hy hu => by
  have hlen : ys.length = n := by rw [ra_len hy]; exact hu
  refine ⟨m, rfl, ⟨ys, sq_of hm⟩, ?_⟩
  refine for_it (D := { D with nx := tz D }) (walk_list (K := K) (a := m) (xs := ys)) (fun i σ' H' => ExR H H' ∧ ExB l H H' ∧ H' m = some (.lst ys) ∧ RpAll K H' ys us ∧ (∃ y, σ' = σ.set js y) ∧ ∃ xs' ts', H' l = some (.lst xs') ∧ RpAll K H' xs' ts' ∧ xs'.length = xs.length + i)
    ⟨exr_of e1, fun b o _ h => e1 b o h, hm, hy, ⟨(σ[js]?).join, ?_⟩, xs, ts, e1 _ _ hl, ra_mono e1 hx, rfl⟩ (fun i σ' H' _ p => sq_of p.2.2.1) (fun i x σ' H2 H3 hi p y => ?_) (fun σ' H' p => ?_)
  · by_cases hj : js < σ.length
    · rw [List.getElem?_eq_getElem hj]
      show σ = σ.set js σ[js]
      rw [List.set_getElem_self]
    · rw [List.set_eq_of_length_le (by omega)]
  · obtain ⟨r, xb, hm2, hy2, ⟨yo, rfl⟩, xs', ts', hl2, hx2, hl3⟩ := p
    obtain ⟨rfl, hxi⟩ := y
    obtain ⟨d, hd', hxd⟩ := ra_get hy2 hxi
    have lv : ((σ.set js yo).set js (some x))[jl]? = some (some (.ref l)) := by
      rw [List.getElem?_set_ne hjj, List.getElem?_set_ne hjj]
      exact hσ
    show tDrop _ _ ((σ.set js yo).set js (some x)) H3
    refine ⟨.ref l, lv, .inl ⟨rfl, _, sq_of hl2⟩, ?_⟩
    have ev := he x d H3 r hxd
    rw [show (σ.set js yo).set js (some x) = σ.set js (some x) by rw [List.set_set]]
    refine ev H3 (Ex.refl H3) _ fun v t H4 e4 hv _ => ?_
    have hl4 : H4 l = some (.lst xs') := e4 _ _ hl2
    refine ⟨l, xs', v, rfl, rfl, hl4, sz_lt (by omega), ?_⟩
    refine ⟨(r.trans (exr_of e4)).trans (exr_upd hl4), fun b o nb hb => ?_, ?_, ra_r (exr_upd hl4) (ra_mono e4 hy2), ⟨some x, rfl⟩, xs' ++ [v], ts' ++ [t], upd_same, ra_r (exr_upd hl4) (ra_app (ra_mono e4 hx2) (.cons hv .nil)), by rw [List.length_append, hl3]; rfl⟩
    · rw [upd_ne nb]
      exact e4 _ _ (xb b o nb hb)
    · rw [upd_ne om]
      exact e4 _ _ hm2
  · obtain ⟨r, xb, hm2, hy2, ⟨yo, rfl⟩, xs', ts', hl2, hx2, hl3⟩ := p
    exact hd H' yo xs' ts' r xb hl2 hx2 (by rw [hl3, hlen])
end
/-! ### literals: some things or others -/
def lenP (k : Nat) : List Th → Prop := fun ts => ts.length = k
section
variable {G : Hp → Hp → Prop} {Ok : Addr → Prop} {K : PySem.W.Frag} (W : Way G Ok) {σ : L2.St} {H : Hp} {ta tl te : TE} {tr : TA} {k : Nat} {g : TG}
include W
theorem a_nil : EvPA G K tNil σ H (lenP 0) := pa_nilP W rfl
theorem a_cons (h1 : EvP G K ta σ H anyT) (h2 : EvPA G K tr σ H (lenP k)) : EvPA G K (tCons ta tr) σ H (lenP (k + 1)) := pa_consP W h1 h2 fun t ts _ h => by
  show (t :: ts).length = k + 1
  rw [List.length_cons, show ts.length = k from h]
theorem a_tup (h : EvPA G K tr σ H (lenP k)) (hk : k ≤ 100) : EvP G K (tTup tr) σ H anyT := p_tup W h (fun ts h => by rw [show ts.length = k from h]; omega) fun _ _ => trivial
theorem a_lst (h : EvPA G K tr σ H (lenP k)) (hk : k ≤ 100) : EvP G K (tLst tr) σ H anyT := p_lst W h (fun ts h => by rw [show ts.length = k from h]; omega) trivial
theorem a_rep {m : Nat} (h : EvPA G K tr σ H (lenP 1)) (hm : 2 ≤ m ∧ m ≤ 10) : EvP G K (tOp (rRepT K) (tTup tr) (tC (.int (m : Int)))) σ H anyT :=
  p_op W (P := fun x => ∃ ts, x = .tup ts ∧ ts.length = 1) (P' := fun y => y = .int (m : Int)) (p_tup W h (fun ts h => by rw [show ts.length = 1 from h]; decide) fun ts h => ⟨ts, rfl, h⟩) (p_ci W rfl) fun x y hx hy => by
    obtain ⟨ts, rfl, hl⟩ := hx
    rw [hy]
    exact rp_repT (fun z => by rw [z] at hl; cases hl) hm.1 (by omega) (by omega) trivial
theorem a_neg : EvP G K (tUn (rU fun i => .int (-i)) (tC (.int 1))) σ H anyT := fun H3 g3 Q3 q3 => ⟨1, rfl, q3 _ _ H3 (W.refl H3) (.int _) trivial⟩
theorem al_lst (fr : Fr G Ok H) (h : EvPA G K tr σ H (lenP k)) (hk : k ≤ 100) : EvPL G Ok K (tLst tr) σ H (lenP k) := pl_lst W fr h fun ts h => by rw [show ts.length = k from h]; omega
theorem al_lc {vs : List Nat} (fr : Fr G Ok H) (hl : EvPL G Ok K tl σ H (lenP k)) (hk : k ≤ 1000) (hs : ∀ x d H1, G H H1 → Rp K H1 x d → ∃ σ2, TgD g x (wipe σ vs) H1 σ2 ∧ wipe σ2 vs = wipe σ vs ∧ EvP G K te σ2 H1 anyT) :
    EvPL G Ok K (tLc (iList K tl) g tYes te vs) σ H (lenP k) := fun H0 g0 Q q => hl H0 g0 _ fun l xs ts H1 g1 ol hl1 hx ht =>
  pl_lc W (Pe := fun _ => anyT) (as := ts) (fr_mono W (W.trans g0 g1) fr) (wg_lst W (Ps := fun _ => True) (tl := tC (.ref l)) (fun H2 g2 Q2 q2 => q2 l xs ts H2 (W.refl H2) ol (W.kp g2 ol hl1) (ra_r (W.exr g2) hx) rfl)) (by rw [show ts.length = k from ht]; omega) (fun i d x H2 g2 hd hx2 => hs x d H2 (W.trans (W.trans g0 g1) g2) hx2) H1 (W.refl H1) Q fun m ys us H2 g2 om hm hy hu => q m ys us H2 (W.trans g1 g2) om hm hy (by
    show us.length = k
    rw [hu.1]
    exact ht)
theorem al_cat {tb : TE} {j : Nat} (fr : Fr G Ok H) (ha : EvPL G Ok K ta σ H (lenP j)) (hb : EvPL G Ok K tb σ H (lenP k)) (hk : j + k ≤ 1000) : EvPL G Ok K (tOp rCat ta tb) σ H (lenP (j + k)) :=
  pl_cat W fr ha hb (fun ts us h1 h2 => by rw [show ts.length = j from h1, show us.length = k from h2]; omega) fun ts us h1 h2 => by
    show (ts ++ us).length = j + k
    rw [List.length_append, show ts.length = j from h1, show us.length = k from h2]
end
theorem q_asgG {G : Hp → Hp → Prop} {Ok : Addr → Prop} {K : PySem.W.Frag} (W : Way G Ok) {σ : L2.St} {H : Hp} {te : TE} {Pt : Th → Prop} {g : TG} {tz : TS} {D : Ends} (h : EvP G K te σ H Pt) (k : ∀ v t H1, G H H1 → Rp K H1 v t → Pt t → g v σ H1 (tz D)) : tSeq (tAsg te g) tz D σ H := h H (W.refl H) _ fun v t H1 g1 hr hp => k v t H1 g1 hr hp
def spBounds (K : PySem.W.Frag) : Sp := fun vs H Q _ => vs = [] ∧ ∀ l xs ts H', Ex H H' → H' l = some (.lst xs) → RpAll K H' xs ts → xs.length ≤ 1000 → Q (.ref l) H'
section
variable {P : Program} {w : World} {K : PySem.W.Frag} {mg : Str → Option Value} {base : Heap}
theorem ok_bounds {f : Addr} {fd : FuncData} {k : Nat} (T : Bi mg) (D : Df K mg "_law_at_bounds" s_law_at_bounds [] f fd) : FnOk P w K mg base CX0 (k + 1) f fd [] (spBounds K) := by
  refine D.F.ok sc_law_at_bounds (fun vs H Q E h => by rw [h.1]; rfl) (fun cdv A outer s H vs Q E hr h => ?_)
  obtain ⟨rfl, q⟩ := h
  refine ⟨_, (pss_cons (ps_asg (pe_tup (pa_cons (pe_tup (pa_cons pe_int (pa_cons pe_int (pa_cons pe_int pa_nil)))) (pa_cons (pe_tup (pa_cons (pe_tup (pa_cons pe_int pa_nil)) pa_nil)) pa_nil))) (pg_tup rfl (pgs_cons (pg_name (i := 0) sc_law_at_bounds.nd rfl (.inr rfl)) (pgs_cons (pg_name (i := 1) sc_law_at_bounds.nd rfl (.inr rfl)) pgs_nil))))
      (pss_cons (ps_setLc (i := 2) (own := [("_law_gap", 8)]) (g := (gName 8)) rfl sc_law_at_bounds.nd rfl rfl (sw_true rfl rfl rfl (by decide +kernel)) (pi_list (pe_lst (pa_cons (pe_un un_neg pe_int) (pa_cons pe_int (pa_cons pe_int (pa_cons pe_int (pa_cons pe_bl (pa_cons pe_non pa_nil)))))))) (blkOk_by (N := ["_law_one", "_law_walk", "_law_found", "_law_some", "_law_frame", "_law_pair", "_law_frames", "_law_walks", "_law_gap", "_law_pieces"]) (sc := defScope s_law_at_bounds) (by decide +kernel)) (fun _ _ _ _ _ => (pg_name (i := 8) sc_law_at_bounds.nd rfl (.inl rfl))) (fun _ _ _ _ _ => pts_nil) (fun _ _ _ _ _ => (pe_tup (pa_cons (pe_tup (pa_cons (pv 0) pa_nil)) (pa_cons (pv 1) (pa_cons (pe_tup (pa_cons pe_int (pa_cons pe_int pa_nil))) (pa_cons pe_str (pa_cons (pv 8) pa_nil))))))))
      (pss_cons (ps_set (i := 2) sc_law_at_bounds.nd rfl (.inl rfl) (pe_op op_cat (pv 2) (pe_lc (own := [("_law_pieces", 9)]) (g := (gName 9)) rfl sc_law_at_bounds.nd (pi_list (pe_lst (pa_cons (pe_tup (pa_cons pe_int (pa_cons pe_int pa_nil))) (pa_cons (pe_tup (pa_cons pe_int (pa_cons pe_int pa_nil))) (pa_cons (pe_tup (pa_cons pe_int (pa_cons pe_int pa_nil))) (pa_cons (pe_tup (pa_cons pe_int (pa_cons pe_int pa_nil))) (pa_cons (pe_tup (pa_cons pe_int pa_nil)) (pa_cons (pe_lst (pa_cons pe_int (pa_cons pe_int pa_nil))) pa_nil)))))))) (blkOk_by (N := ["_law_one", "_law_walk", "_law_found", "_law_some", "_law_frame", "_law_pair", "_law_frames", "_law_walks", "_law_gap", "_law_pieces"]) (sc := defScope s_law_at_bounds) (by decide +kernel)) (fun _ _ _ _ _ => (pg_name (i := 9) sc_law_at_bounds.nd rfl (.inl rfl))) (fun _ _ _ _ _ => pts_nil) (fun _ _ _ _ _ => (pe_tup (pa_cons (pe_tup (pa_cons (pv 0) pa_nil)) (pa_cons (pv 1) (pa_cons (pv 9) (pa_cons pe_str (pa_cons pe_int pa_nil))))))))))
      (pss_cons (ps_set (i := 3) sc_law_at_bounds.nd rfl (.inl rfl) (pe_lst (pa_cons (pe_tup (pa_cons pe_int (pa_cons pe_int (pa_cons pe_int pa_nil)))) (pa_cons (pe_tup (pa_cons pe_int (pa_cons pe_int (pa_cons pe_int pa_nil)))) (pa_cons (pe_tup (pa_cons pe_int (pa_cons pe_int (pa_cons pe_int pa_nil)))) (pa_cons (pe_tup (pa_cons pe_int (pa_cons pe_int (pa_cons pe_int pa_nil)))) (pa_cons (pe_tup (pa_cons (pe_un un_neg pe_int) (pa_cons pe_int (pa_cons pe_int pa_nil)))) (pa_cons (pe_tup (pa_cons pe_int (pa_cons pe_int (pa_cons pe_int pa_nil)))) (pa_cons (pe_tup (pa_cons pe_int (pa_cons pe_int (pa_cons pe_int pa_nil)))) (pa_cons (pe_tup (pa_cons pe_int (pa_cons pe_int (pa_cons (pe_un un_neg pe_int) pa_nil)))) pa_nil))))))))))
      (pss_cons (ps_for PassesOwn.never rfl (pi_list (pe_op op_cat (pv 3) (pe_lst (pa_cons (pe_tup (pa_cons pe_bl (pa_cons pe_int (pa_cons pe_int pa_nil)))) pa_nil)))) (pg_name (i := 4) sc_law_at_bounds.nd rfl (.inl rfl)) (pss_one (ps_expr (pe_bm PySem.F.plainAttrs_list PySem.F.slot_list_append PySem.F.type_list_append mt_append (pv 2) (pa_cons (pe_tup (pa_cons (pe_tup (pa_cons (pv 4) pa_nil)) (pa_cons (pv 1) (pa_cons (pe_tup (pa_cons pe_int (pa_cons pe_int pa_nil))) (pa_cons pe_str (pa_cons pe_int pa_nil)))))) pa_nil)))))
      (pss_cons (ps_set (i := 5) sc_law_at_bounds.nd rfl (.inl rfl) (pe_tup (pa_cons (pe_tup (pa_cons pe_int (pa_cons pe_int pa_nil))) (pa_cons (pe_tup (pa_cons pe_int (pa_cons pe_int pa_nil))) pa_nil))))
      (pss_cons (ps_for PassesOwn.never rfl (pi_list (pe_lst (pa_cons (pe_tup (pa_cons (pv 0) (pa_cons (pv 0) pa_nil))) (pa_cons (pe_tup (pa_cons (pv 0) (pa_cons (pe_tup (pa_cons pe_int (pa_cons pe_int (pa_cons pe_int pa_nil)))) pa_nil))) (pa_cons (pe_tup (pa_cons (pe_tup (pa_cons pe_int (pa_cons pe_int (pa_cons pe_int pa_nil)))) (pa_cons (pe_tup (pa_cons pe_int (pa_cons pe_int (pa_cons pe_int pa_nil)))) pa_nil))) (pa_cons (pe_tup (pa_cons (pv 0) (pa_cons (pe_tup (pa_cons pe_int (pa_cons pe_int (pa_cons pe_int pa_nil)))) pa_nil))) pa_nil)))))) (pg_name (i := 6) sc_law_at_bounds.nd rfl (.inl rfl)) (pss_one (ps_expr (pe_bm PySem.F.plainAttrs_list PySem.F.slot_list_append PySem.F.type_list_append mt_append (pv 2) (pa_cons (pe_tup (pa_cons (pv 6) (pa_cons (pv 5) (pa_cons (pe_tup (pa_cons pe_int (pa_cons pe_int pa_nil))) (pa_cons pe_str (pa_cons pe_int pa_nil)))))) pa_nil)))))
      (pss_cons (ps_for PassesOwn.never rfl (pi_list (pe_lst (pa_cons (pe_tup (pa_cons (pe_tup (pa_cons pe_int (pa_cons pe_int pa_nil))) (pa_cons (pe_tup (pa_cons pe_int (pa_cons pe_int pa_nil))) pa_nil))) (pa_cons (pe_tup (pa_cons (pe_tup (pa_cons pe_int (pa_cons pe_int pa_nil))) (pa_cons (pe_tup (pa_cons pe_int (pa_cons pe_int pa_nil))) pa_nil))) (pa_cons (pe_tup (pa_cons (pe_tup (pa_cons pe_int (pa_cons pe_int pa_nil))) (pa_cons (pe_tup (pa_cons pe_int (pa_cons pe_int pa_nil))) pa_nil))) (pa_cons (pe_tup (pa_cons (pe_tup (pa_cons pe_int (pa_cons pe_int pa_nil))) pa_nil)) (pa_cons (pe_tup (pa_cons (pe_tup (pa_cons pe_int (pa_cons pe_int pa_nil))) (pa_cons (pe_lst (pa_cons pe_int (pa_cons pe_int pa_nil))) pa_nil))) (pa_cons (pe_tup (pa_cons (pe_tup (pa_cons pe_int (pa_cons (pe_un un_neg pe_int) pa_nil))) (pa_cons (pe_tup (pa_cons pe_int (pa_cons pe_int pa_nil))) pa_nil))) pa_nil)))))))) (pg_name (i := 7) sc_law_at_bounds.nd rfl (.inl rfl)) (pss_one (ps_expr (pe_bm PySem.F.plainAttrs_list PySem.F.slot_list_append PySem.F.type_list_append mt_append (pv 2) (pa_cons (pe_tup (pa_cons (pe_tup (pa_cons (pv 0) (pa_cons (pv 0) pa_nil))) (pa_cons (pv 7) (pa_cons (pe_tup (pa_cons pe_int (pa_cons pe_int pa_nil))) (pa_cons pe_str (pa_cons pe_int pa_nil)))))) pa_nil)))))
      (pss_cons (ps_set (i := 2) sc_law_at_bounds.nd rfl (.inl rfl) (pe_op op_cat (pv 2) (pe_lst (pa_cons (pe_tup (pa_cons (pe_op (r := rRepT K) op_repT (pe_tup (pa_cons (pv 0) pa_nil)) pe_int) (pa_cons (pe_op (r := rRepT K) op_repT (pe_tup (pa_cons (pe_op (r := rRepT K) op_repT (pe_tup (pa_cons pe_int pa_nil)) pe_int) pa_nil)) pe_int) (pa_cons (pe_tup (pa_cons pe_int (pa_cons pe_int pa_nil))) (pa_cons pe_str (pa_cons pe_int pa_nil)))))) (pa_cons (pe_tup (pa_cons (pe_op (r := rRepT K) op_repT (pe_tup (pa_cons (pv 0) pa_nil)) pe_int) (pa_cons (pe_op (r := rRepT K) op_repT (pe_tup (pa_cons (pe_op (r := rRepT K) op_repT (pe_tup (pa_cons pe_int pa_nil)) pe_int) pa_nil)) pe_int) (pa_cons (pe_tup (pa_cons pe_int (pa_cons pe_int pa_nil))) (pa_cons pe_str (pa_cons pe_int pa_nil)))))) pa_nil)))))
      (pss_one (ps_ret (pe_op op_cat (pv 2) (pe_lst (pa_cons pe_non (pa_cons pe_bl (pa_cons pe_int (pa_cons pe_str (pa_cons (pe_tup pa_nil) (pa_cons (pe_lst pa_nil) (pa_cons pe_dnewK (pa_cons (pe_tup (pa_cons (pe_tup pa_nil) pa_nil)) (pa_cons (pe_tup (pa_cons (pe_lst pa_nil) pa_nil)) (pa_cons (pe_tup (pa_cons (pe_tup (pa_cons (pv 0) pa_nil)) (pa_cons (pv 1) (pa_cons (pe_tup (pa_cons pe_int (pa_cons pe_int pa_nil))) (pa_cons (pe_lst (pa_cons pe_str pa_nil)) (pa_cons pe_int pa_nil)))))) pa_nil))))))))))))))))))))))), ?_⟩
  have W0 : Way Ex (fun p => H p = none) := ⟨Ex.refl, fun a b => a.trans b, fun e => e, exr_of, fun e hn _ => Ex.mut e hn, fun e _ h => e _ _ h⟩
  have f0 : ∀ {H1 : Hp}, Ex H H1 → Fr Ex (fun p => H p = none) H1 := fun e H2 l e2 hn => fresh_back (e.trans e2) hn
  -- one, walk
  refine q_asgG way_ex (p_tup (K := K) (P := fun t => ∃ a b, t = .tup [a, b]) way_ex (Ps := fun ts => ∃ a b, ts = [a, b]) (pa_consP way_ex (P := anyT) (a_tup way_ex (k := 3) (a_cons way_ex (p_ci way_ex trivial) (a_cons way_ex (p_ci way_ex trivial) (a_cons way_ex (p_ci way_ex trivial) (a_nil way_ex)))) (by decide)) (pa_consP way_ex (P := anyT) (Ps' := fun ts => ∃ b, ts = [b]) (a_tup way_ex (k := 1) (a_cons way_ex (a_tup way_ex (k := 1) (a_cons way_ex (p_ci way_ex trivial) (a_nil way_ex)) (by decide)) (a_nil way_ex)) (by decide)) (pa_nilP way_ex (Ps := fun ts => ts = []) rfl) fun t ts _ h => ⟨t, by rw [h]⟩) fun t ts _ h => by obtain ⟨b, rfl⟩ := h; exact ⟨t, b, rfl⟩) (fun ts h => by obtain ⟨a, b, rfl⟩ := h; show 2 ≤ 100000; decide) fun ts h => by obtain ⟨a, b, rfl⟩ := h; exact ⟨a, b, rfl⟩) fun v0 t0 H1 e1 hr0 ht0 => ?_
  obtain ⟨tone, twalk, rfl⟩ := ht0
  obtain ⟨a0, xs0, rfl, hs0, ha0⟩ := rp_tup hr0
  obtain ⟨vone, vwalk, rfl, hone, hwalk⟩ := ra2 ha0
  refine ⟨a0, [vone, vwalk], rfl, hs0, rfl, _, _, rfl, _, _, rfl, rfl, ?_⟩
  dsimp only
  -- found
  refine q_asgPL (K := K) W0 (Ps := lenP 6) (al_lc W0 (f0 e1) (al_lst W0 (f0 e1) (a_cons way_ex (a_neg way_ex) (a_cons way_ex (p_ci way_ex trivial) (a_cons way_ex (p_ci way_ex trivial) (a_cons way_ex (p_ci way_ex trivial) (a_cons way_ex (p_cb way_ex trivial) (a_cons way_ex (p_cn way_ex trivial) (a_nil way_ex))))))) (by decide)) (by decide) fun x d H2 e2 hx => ⟨_, tg_name, rfl, ?_⟩) fun l1 xs1 ts1 H2 e2 o1 hl1 hx1 hn1 => ?_
  · have hone := rp_mono e2 hone
    have hwalk := rp_mono e2 hwalk
    exact (a_tup way_ex (k := 5) (a_cons way_ex (a_tup way_ex (k := 1) (a_cons way_ex (p_var way_ex rfl hone trivial) (a_nil way_ex)) (by decide)) (a_cons way_ex (p_var way_ex rfl hwalk trivial) (a_cons way_ex (a_tup way_ex (k := 2) (a_cons way_ex (p_ci way_ex trivial) (a_cons way_ex (p_ci way_ex trivial) (a_nil way_ex))) (by decide)) (a_cons way_ex (p_cs way_ex trivial) (a_cons way_ex (p_var way_ex rfl hx trivial) (a_nil way_ex)))))) (by decide))
  have hone2 := rp_mono e2 hone
  have hwalk2 := rp_mono e2 hwalk
  have e02 := e1.trans e2
  refine q_asgPL (K := K) W0 (Ps := lenP (6 + 6)) (al_cat W0 (f0 e02) (pl_var W0 rfl o1 hl1 hx1 hn1) (al_lc W0 (f0 e02) (al_lst W0 (f0 e02) (a_cons way_ex (a_tup way_ex (k := 2) (a_cons way_ex (p_ci way_ex trivial) (a_cons way_ex (p_ci way_ex trivial) (a_nil way_ex))) (by decide)) (a_cons way_ex (a_tup way_ex (k := 2) (a_cons way_ex (p_ci way_ex trivial) (a_cons way_ex (p_ci way_ex trivial) (a_nil way_ex))) (by decide)) (a_cons way_ex (a_tup way_ex (k := 2) (a_cons way_ex (p_ci way_ex trivial) (a_cons way_ex (p_ci way_ex trivial) (a_nil way_ex))) (by decide)) (a_cons way_ex (a_tup way_ex (k := 2) (a_cons way_ex (p_ci way_ex trivial) (a_cons way_ex (p_ci way_ex trivial) (a_nil way_ex))) (by decide)) (a_cons way_ex (a_tup way_ex (k := 1) (a_cons way_ex (p_ci way_ex trivial) (a_nil way_ex)) (by decide)) (a_cons way_ex (a_lst way_ex (k := 2) (a_cons way_ex (p_ci way_ex trivial) (a_cons way_ex (p_ci way_ex trivial) (a_nil way_ex))) (by decide)) (a_nil way_ex))))))) (by decide)) (by decide) fun x d H3 e3 hx => ⟨_, tg_name, rfl, ?_⟩) (by decide)) fun l2 xs2 ts2 H3 e3 hn0 hl2 hx2 hn2 => ?_
  · have hone := rp_mono e3 hone2
    have hwalk := rp_mono e3 hwalk2
    exact (a_tup way_ex (k := 5) (a_cons way_ex (a_tup way_ex (k := 1) (a_cons way_ex (p_var way_ex rfl hone trivial) (a_nil way_ex)) (by decide)) (a_cons way_ex (p_var way_ex rfl hwalk trivial) (a_cons way_ex (p_var way_ex rfl hx trivial) (a_cons way_ex (p_cs way_ex trivial) (a_cons way_ex (p_ci way_ex trivial) (a_nil way_ex)))))) (by decide))
  have hone3 := rp_mono e3 hone2
  have hwalk3 := rp_mono e3 hwalk2
  have e03 := e02.trans e3
  have lx2 : xs2.length = 12 := by rw [ra_len hx2]; exact hn2
  -- some
  refine q_asgPL (K := K) (way_l l2) (Ps := lenP 8) (al_lst (way_l l2) (fr_l hl2) (a_cons way_ex (a_tup way_ex (k := 3) (a_cons way_ex (p_ci way_ex trivial) (a_cons way_ex (p_ci way_ex trivial) (a_cons way_ex (p_ci way_ex trivial) (a_nil way_ex)))) (by decide)) (a_cons way_ex (a_tup way_ex (k := 3) (a_cons way_ex (p_ci way_ex trivial) (a_cons way_ex (p_ci way_ex trivial) (a_cons way_ex (p_ci way_ex trivial) (a_nil way_ex)))) (by decide)) (a_cons way_ex (a_tup way_ex (k := 3) (a_cons way_ex (p_ci way_ex trivial) (a_cons way_ex (p_ci way_ex trivial) (a_cons way_ex (p_ci way_ex trivial) (a_nil way_ex)))) (by decide)) (a_cons way_ex (a_tup way_ex (k := 3) (a_cons way_ex (p_ci way_ex trivial) (a_cons way_ex (p_ci way_ex trivial) (a_cons way_ex (p_ci way_ex trivial) (a_nil way_ex)))) (by decide)) (a_cons way_ex (a_tup way_ex (k := 3) (a_cons way_ex (a_neg way_ex) (a_cons way_ex (p_ci way_ex trivial) (a_cons way_ex (p_ci way_ex trivial) (a_nil way_ex)))) (by decide)) (a_cons way_ex (a_tup way_ex (k := 3) (a_cons way_ex (p_ci way_ex trivial) (a_cons way_ex (p_ci way_ex trivial) (a_cons way_ex (p_ci way_ex trivial) (a_nil way_ex)))) (by decide)) (a_cons way_ex (a_tup way_ex (k := 3) (a_cons way_ex (p_ci way_ex trivial) (a_cons way_ex (p_ci way_ex trivial) (a_cons way_ex (p_ci way_ex trivial) (a_nil way_ex)))) (by decide)) (a_cons way_ex (a_tup way_ex (k := 3) (a_cons way_ex (p_ci way_ex trivial) (a_cons way_ex (p_ci way_ex trivial) (a_cons way_ex (a_neg way_ex) (a_nil way_ex)))) (by decide)) (a_nil way_ex))))))))) (by decide)) fun l3 xs3 ts3 H4 e4 o3 hl3 hx3 hn3 => ?_
  have hl24 := e4 _ _ hl2
  have hone4 := rp_mono e4 hone3
  have hwalk4 := rp_mono e4 hwalk3
  -- frames put in
  refine q_forApp (n := 9) (js := 4) (jl := 2) hl24 (ra_mono e4 hx2) rfl (by decide) (al_cat (way_l l2) (fr_l hl24) (pl_var (way_l l2) rfl o3 hl3 hx3 hn3) (al_lst (way_l l2) (fr_l hl24) (a_cons way_ex (a_tup way_ex (k := 3) (a_cons way_ex (p_cb way_ex trivial) (a_cons way_ex (p_ci way_ex trivial) (a_cons way_ex (p_ci way_ex trivial) (a_nil way_ex)))) (by decide)) (a_nil way_ex)) (by decide)) (by decide)) (by omega) (fun x d H5 r5 hx => ?_) fun H5 y5 xs5 ts5 r5 b5 hl5 hx5 hn5 => ?_
  · have hwalk := rp_r r5 hwalk4
    exact (a_tup way_ex (k := 5) (a_cons way_ex (a_tup way_ex (k := 1) (a_cons way_ex (p_var way_ex rfl hx trivial) (a_nil way_ex)) (by decide)) (a_cons way_ex (p_var way_ex rfl hwalk trivial) (a_cons way_ex (a_tup way_ex (k := 2) (a_cons way_ex (p_ci way_ex trivial) (a_cons way_ex (p_ci way_ex trivial) (a_nil way_ex))) (by decide)) (a_cons way_ex (p_cs way_ex trivial) (a_cons way_ex (p_ci way_ex trivial) (a_nil way_ex)))))) (by decide))
  have hone5 := rp_r r5 hone4
  have hwalk5 := rp_r r5 hwalk4
  have e05 : Ex H H5 := fun b o hb => b5 b o (ne_of_none hb hn0) ((e03.trans e4) b o hb)
  -- pair
  refine q_asgP (K := K) way_ex (P := anyT) (a_tup way_ex (k := 2) (a_cons way_ex (a_tup way_ex (k := 2) (a_cons way_ex (p_ci way_ex trivial) (a_cons way_ex (p_ci way_ex trivial) (a_nil way_ex))) (by decide)) (a_cons way_ex (a_tup way_ex (k := 2) (a_cons way_ex (p_ci way_ex trivial) (a_cons way_ex (p_ci way_ex trivial) (a_nil way_ex))) (by decide)) (a_nil way_ex))) (by decide)) fun vpair tpair H6 e6 hpair _ => ?_
  have hl6 := e6 _ _ hl5
  have hone6 := rp_mono e6 hone5
  have hwalk6 := rp_mono e6 hwalk5
  refine q_forApp (n := 4) (js := 6) (jl := 2) hl6 (ra_mono e6 hx5) rfl (by decide) (al_lst (way_l l2) (fr_l hl6) (a_cons way_ex (a_tup way_ex (k := 2) (a_cons way_ex (p_var way_ex rfl hone6 trivial) (a_cons way_ex (p_var way_ex rfl hone6 trivial) (a_nil way_ex))) (by decide)) (a_cons way_ex (a_tup way_ex (k := 2) (a_cons way_ex (p_var way_ex rfl hone6 trivial) (a_cons way_ex (a_tup way_ex (k := 3) (a_cons way_ex (p_ci way_ex trivial) (a_cons way_ex (p_ci way_ex trivial) (a_cons way_ex (p_ci way_ex trivial) (a_nil way_ex)))) (by decide)) (a_nil way_ex))) (by decide)) (a_cons way_ex (a_tup way_ex (k := 2) (a_cons way_ex (a_tup way_ex (k := 3) (a_cons way_ex (p_ci way_ex trivial) (a_cons way_ex (p_ci way_ex trivial) (a_cons way_ex (p_ci way_ex trivial) (a_nil way_ex)))) (by decide)) (a_cons way_ex (a_tup way_ex (k := 3) (a_cons way_ex (p_ci way_ex trivial) (a_cons way_ex (p_ci way_ex trivial) (a_cons way_ex (p_ci way_ex trivial) (a_nil way_ex)))) (by decide)) (a_nil way_ex))) (by decide)) (a_cons way_ex (a_tup way_ex (k := 2) (a_cons way_ex (p_var way_ex rfl hone6 trivial) (a_cons way_ex (a_tup way_ex (k := 3) (a_cons way_ex (p_ci way_ex trivial) (a_cons way_ex (p_ci way_ex trivial) (a_cons way_ex (p_ci way_ex trivial) (a_nil way_ex)))) (by decide)) (a_nil way_ex))) (by decide)) (a_nil way_ex))))) (by decide)) (by omega) (fun x d H7 r7 hx => ?_) fun H7 y7 xs7 ts7 r7 b7 hl7 hx7 hn7 => ?_
  · have hpair := rp_r r7 hpair
    exact (a_tup way_ex (k := 5) (a_cons way_ex (p_var way_ex rfl hx trivial) (a_cons way_ex (p_var way_ex rfl hpair trivial) (a_cons way_ex (a_tup way_ex (k := 2) (a_cons way_ex (p_ci way_ex trivial) (a_cons way_ex (p_ci way_ex trivial) (a_nil way_ex))) (by decide)) (a_cons way_ex (p_cs way_ex trivial) (a_cons way_ex (p_ci way_ex trivial) (a_nil way_ex)))))) (by decide))
  have hone7 := rp_r r7 hone6
  have hwalk7 := rp_r r7 hwalk6
  have e07 : Ex H H7 := fun b o hb => b7 b o (ne_of_none hb hn0) ((e05.trans e6) b o hb)
  refine q_forApp (n := 6) (js := 7) (jl := 2) hl7 hx7 rfl (by decide) (al_lst (way_l l2) (fr_l hl7) (a_cons way_ex (a_tup way_ex (k := 2) (a_cons way_ex (a_tup way_ex (k := 2) (a_cons way_ex (p_ci way_ex trivial) (a_cons way_ex (p_ci way_ex trivial) (a_nil way_ex))) (by decide)) (a_cons way_ex (a_tup way_ex (k := 2) (a_cons way_ex (p_ci way_ex trivial) (a_cons way_ex (p_ci way_ex trivial) (a_nil way_ex))) (by decide)) (a_nil way_ex))) (by decide)) (a_cons way_ex (a_tup way_ex (k := 2) (a_cons way_ex (a_tup way_ex (k := 2) (a_cons way_ex (p_ci way_ex trivial) (a_cons way_ex (p_ci way_ex trivial) (a_nil way_ex))) (by decide)) (a_cons way_ex (a_tup way_ex (k := 2) (a_cons way_ex (p_ci way_ex trivial) (a_cons way_ex (p_ci way_ex trivial) (a_nil way_ex))) (by decide)) (a_nil way_ex))) (by decide)) (a_cons way_ex (a_tup way_ex (k := 2) (a_cons way_ex (a_tup way_ex (k := 2) (a_cons way_ex (p_ci way_ex trivial) (a_cons way_ex (p_ci way_ex trivial) (a_nil way_ex))) (by decide)) (a_cons way_ex (a_tup way_ex (k := 2) (a_cons way_ex (p_ci way_ex trivial) (a_cons way_ex (p_ci way_ex trivial) (a_nil way_ex))) (by decide)) (a_nil way_ex))) (by decide)) (a_cons way_ex (a_tup way_ex (k := 1) (a_cons way_ex (a_tup way_ex (k := 2) (a_cons way_ex (p_ci way_ex trivial) (a_cons way_ex (p_ci way_ex trivial) (a_nil way_ex))) (by decide)) (a_nil way_ex)) (by decide)) (a_cons way_ex (a_tup way_ex (k := 2) (a_cons way_ex (a_tup way_ex (k := 2) (a_cons way_ex (p_ci way_ex trivial) (a_cons way_ex (p_ci way_ex trivial) (a_nil way_ex))) (by decide)) (a_cons way_ex (a_lst way_ex (k := 2) (a_cons way_ex (p_ci way_ex trivial) (a_cons way_ex (p_ci way_ex trivial) (a_nil way_ex))) (by decide)) (a_nil way_ex))) (by decide)) (a_cons way_ex (a_tup way_ex (k := 2) (a_cons way_ex (a_tup way_ex (k := 2) (a_cons way_ex (p_ci way_ex trivial) (a_cons way_ex (a_neg way_ex) (a_nil way_ex))) (by decide)) (a_cons way_ex (a_tup way_ex (k := 2) (a_cons way_ex (p_ci way_ex trivial) (a_cons way_ex (p_ci way_ex trivial) (a_nil way_ex))) (by decide)) (a_nil way_ex))) (by decide)) (a_nil way_ex))))))) (by decide)) (by omega) (fun x d H8 r8 hx => ?_) fun H8 y8 xs8 ts8 r8 b8 hl8 hx8 hn8 => ?_
  · have hone := rp_r r8 hone7
    exact (a_tup way_ex (k := 5) (a_cons way_ex (a_tup way_ex (k := 2) (a_cons way_ex (p_var way_ex rfl hone trivial) (a_cons way_ex (p_var way_ex rfl hone trivial) (a_nil way_ex))) (by decide)) (a_cons way_ex (p_var way_ex rfl hx trivial) (a_cons way_ex (a_tup way_ex (k := 2) (a_cons way_ex (p_ci way_ex trivial) (a_cons way_ex (p_ci way_ex trivial) (a_nil way_ex))) (by decide)) (a_cons way_ex (p_cs way_ex trivial) (a_cons way_ex (p_ci way_ex trivial) (a_nil way_ex)))))) (by decide))
  have hone8 := rp_r r8 hone7
  have hwalk8 := rp_r r8 hwalk7
  have e08 : Ex H H8 := fun b o hb => b8 b o (ne_of_none hb hn0) (e07 b o hb)
  have n8 : lenP 31 ts8 := by
    show ts8.length = 31
    rw [← ra_len hx8]
    omega
  refine q_asgPL (K := K) W0 (Ps := lenP (31 + 2)) (al_cat W0 (f0 e08) (pl_var W0 rfl hn0 hl8 hx8 n8) (al_lst W0 (f0 e08) (a_cons way_ex (a_tup way_ex (k := 5) (a_cons way_ex (a_rep way_ex (m := 3) (a_cons way_ex (p_var way_ex rfl hone8 trivial) (a_nil way_ex)) (by decide)) (a_cons way_ex (a_rep way_ex (m := 3) (a_cons way_ex (a_rep way_ex (m := 3) (a_cons way_ex (p_ci way_ex trivial) (a_nil way_ex)) (by decide)) (a_nil way_ex)) (by decide)) (a_cons way_ex (a_tup way_ex (k := 2) (a_cons way_ex (p_ci way_ex trivial) (a_cons way_ex (p_ci way_ex trivial) (a_nil way_ex))) (by decide)) (a_cons way_ex (p_cs way_ex trivial) (a_cons way_ex (p_ci way_ex trivial) (a_nil way_ex)))))) (by decide)) (a_cons way_ex (a_tup way_ex (k := 5) (a_cons way_ex (a_rep way_ex (m := 4) (a_cons way_ex (p_var way_ex rfl hone8 trivial) (a_nil way_ex)) (by decide)) (a_cons way_ex (a_rep way_ex (m := 4) (a_cons way_ex (a_rep way_ex (m := 4) (a_cons way_ex (p_ci way_ex trivial) (a_nil way_ex)) (by decide)) (a_nil way_ex)) (by decide)) (a_cons way_ex (a_tup way_ex (k := 2) (a_cons way_ex (p_ci way_ex trivial) (a_cons way_ex (p_ci way_ex trivial) (a_nil way_ex))) (by decide)) (a_cons way_ex (p_cs way_ex trivial) (a_cons way_ex (p_ci way_ex trivial) (a_nil way_ex)))))) (by decide)) (a_nil way_ex))) (by decide)) (by decide)) fun l9 xs9 ts9 H9 e9 o9 hl9 hx9 hn9 => ?_
  have hone9 := rp_mono e9 hone8
  have hwalk9 := rp_mono e9 hwalk8
  refine al_cat W0 (f0 (e08.trans e9)) (pl_var W0 rfl o9 hl9 hx9 hn9) (al_lst W0 (f0 (e08.trans e9)) (a_cons way_ex (p_cn way_ex trivial) (a_cons way_ex (p_cb way_ex trivial) (a_cons way_ex (p_ci way_ex trivial) (a_cons way_ex (p_cs way_ex trivial) (a_cons way_ex (a_tup way_ex (k := 0) (a_nil way_ex) (by decide)) (a_cons way_ex (a_lst way_ex (k := 0) (a_nil way_ex) (by decide)) (a_cons way_ex (p_dict way_ex trivial) (a_cons way_ex (a_tup way_ex (k := 1) (a_cons way_ex (a_tup way_ex (k := 0) (a_nil way_ex) (by decide)) (a_nil way_ex)) (by decide)) (a_cons way_ex (a_tup way_ex (k := 1) (a_cons way_ex (a_lst way_ex (k := 0) (a_nil way_ex) (by decide)) (a_nil way_ex)) (by decide)) (a_cons way_ex (a_tup way_ex (k := 5) (a_cons way_ex (a_tup way_ex (k := 1) (a_cons way_ex (p_var way_ex rfl hone9 trivial) (a_nil way_ex)) (by decide)) (a_cons way_ex (p_var way_ex rfl hwalk9 trivial) (a_cons way_ex (a_tup way_ex (k := 2) (a_cons way_ex (p_ci way_ex trivial) (a_cons way_ex (p_ci way_ex trivial) (a_nil way_ex))) (by decide)) (a_cons way_ex (a_lst way_ex (k := 1) (a_cons way_ex (p_cs way_ex trivial) (a_nil way_ex)) (by decide)) (a_cons way_ex (p_ci way_ex trivial) (a_nil way_ex)))))) (by decide)) (a_nil way_ex))))))))))) (by decide)) (by decide) H9 (Ex.refl H9) _ fun l10 xs10 ts10 H10 e10 _ hl10 hx10 hn10 => ?_
  exact q l10 xs10 ts10 H10 ((e08.trans e9).trans e10) hl10 hx10 (by rw [ra_len hx10, show ts10.length = 33 + 10 from hn10]; decide)
end
end K34

set_option Elab.async false
set_option linter.all false
set_option maxRecDepth 100000
set_option maxHeartbeats 4000000
namespace K34
open PySem PySem.Spec PyProof.Rows L2 Evl DL GX YA EX TH TV
abbrev s_law : Stmt := topS 71
theorem sc_law : FnScope ["_law_script", "_law_story", "_law_k", "_law_pool_here", "_law_small_here", "_law_turn", "_law_thing"] ["_law_script"] (defScope s_law) := ⟨rfl, rfl, rfl, by decide +kernel, rfl, by decide +kernel, by decide +kernel⟩
section
variable {G : Hp → Hp → Prop} {Ok : Addr → Prop} {K : PySem.W.Frag} (W : Way G Ok) {σ : L2.St} {H : Hp} {te : TE} {t : TT} {tr : TA} {tu tw : TS} {D : Ends} {Pa : Bool → Prop}
theorem tg_not (h : EvTG G t σ H Pa) : EvTG G (tNot t) σ H (fun b => Pa (!b)) := fun H1 g Q q => h H1 g _ fun b H2 g2 hb => q (!b) H2 g2 (show Pa (!(!b)) by rw [Bool.not_not]; exact hb)
include W
theorem s_ifG (h : EvTG G t σ H Pa) (h1 : ∀ H1, G H H1 → Pa true → tu D σ H1) (h2 : ∀ H1, G H H1 → Pa false → tw D σ H1) : tIfS t tu tw D σ H := h H (W.refl H) _ fun b H1 g hb => by
  cases b with
  | true => exact h1 H1 g hb
  | false => exact h2 H1 g hb
theorem p_right {Ps : List Addr} {E : XK} (ha : EvPA G K tr σ H (lenP 2)) (hT : ∀ H1, G H H1 → Tb Ps H1) : EvP G K (tCall (spRight K Ps) [] E tr) σ H (fun t => t = .bool true) := fun H1 g Q q => ha H1 g _ fun vs ts H2 g2 hr hl => by
  match ts, hl with
  | [a, b], _ => exact ⟨a, b, by rw [List.append_nil]; exact hr, hT H2 (W.trans g g2), fun H3 e3 => q _ _ H3 (W.trans g2 (W.ex e3)) (.bl true) rfl⟩
end
theorem tb_gp {Ps : List Addr} {p : Addr} {H H' : Hp} (g : GP p H H') (hp : PoolAt H p) (h : Tb Ps H) : Tb Ps H' := fun P hP => g.b _ _ (fun z => by
  obtain ⟨n, q⟩ := hp
  have k := h P hP
  rw [z, q] at k
  cases k) (h P hP)
def spLaw (K : PySem.W.Frag) (Ps : List Addr) : Sp := fun vs H Q _ => ∃ (a : Addr) (ns : List Int), vs = [.ref a] ∧ SqL K H a (ns.map V.int) ∧ ns.length ≤ 63 ∧ Tb Ps H ∧ ∀ H', Tb Ps H' → Q (.bl true) H'
section
variable {P : Program} {w : World} {K : PySem.W.Frag} {mg : Str → Option Value} {base : Heap} {Ps : List Addr}
theorem ewr_at {σ : L2.St} {H : Hp} {l : Addr} {xs : List V} {ts : List Th} (hl : H l = some (.lst xs)) (hx : RpAll K H xs ts) : EvWR (Rp K) (iList K (tC (.ref l))) σ H ts := fun H1 e R q =>
  ⟨l, rfl, ⟨xs, sq_of (e _ _ hl)⟩, q _ H1 (Ex.refl H1) ⟨fun H3 => SqL K H3 l xs, YAt xs, by rw [← ra_len hx]; exact walk_list (xs := xs), fun H3 e3 => sq_of (e3 _ _ (e _ _ hl)), fun i H3 x H4 e3 y => by
    obtain ⟨rfl, hxi⟩ := y
    exact ⟨Ex.refl _, ra_get (ra_mono (e.trans e3) hx) hxi⟩⟩⟩
theorem ok_law {f f1 f2 f3 f4 f5 f6 : Addr} {fd fd1 fd2 fd3 fd4 fd5 fd6 : FuncData} {j : Nat} (hj : 2 ≤ j) (T : Bi mg) (D : Df K mg "law" s_law ["_law_script"] f fd) (D_law_pool : Df K mg "_law_pool" s_law_pool ["_law_script", "_law_k"] f1 fd1) (D_law_take : Df K mg "_law_take" s_law_take ["_law_pool_here", "_law_many"] f2 fd2)
    (D_law_small : Df K mg "_law_small" s_law_small ["_law_pool_here"] f3 fd3) (D_law_bent : Df K mg "_law_bent" s_law_bent ["_law_pool_here", "_law_thing"] f4 fd4) (D_law_at_bounds : Df K mg "_law_at_bounds" s_law_at_bounds [] f5 fd5)
    (D_law_right : Df K mg "_law_right" s_law_right ["_law_thing", "_law_story"] f6 fd6) (G_law_right : FnOk P w K mg base CX0 (j + 3) f6 fd6 ["_law_thing", "_law_story"] (spRight K Ps)) : FnOk P w K mg base CX0 (j + 4) f fd ["_law_script"] (spLaw K Ps) := by
  have G_law_pool : FnOk P w K mg base CX0 1 f1 fd1 ["_law_script", "_law_k"] (spPool K) := ok_pool T D_law_pool
  have G_law_small : FnOk P w K mg base CX0 2 f3 fd3 ["_law_pool_here"] (spSmall K) := ok_small T D_law_small D_law_take
  have G_law_bent : FnOk P w K mg base CX0 5 f4 fd4 ["_law_pool_here", "_law_thing"] (spBent K 4) := ok_bent T D_law_bent D_law_take 4 (by decide)
  have G_law_at_bounds : FnOk P w K mg base CX0 1 f5 fd5 [] (spBounds K) := ok_bounds T D_law_at_bounds
  refine D.F.ok sc_law (fun vs H Q E h => by obtain ⟨_, _, rfl, _⟩ := h; rfl) (fun cdv A outer s H vs Q E hr h => ?_)
  obtain ⟨a, ns, rfl, hS, h63, hT, q⟩ := h
  refine ⟨_, (pss_cons (ps_set (i := 1) sc_law.nd rfl (.inr rfl) (pe_tup (pa_cons (pe_tup (pa_cons (pe_tup (pa_cons pe_int (pa_cons pe_int pa_nil))) pa_nil)) (pa_cons (pe_tup pa_nil) (pa_cons (pe_tup pa_nil) pa_nil)))))
      (pss_cons (ps_if (pt_not (pt_val (pe_callB (r := rAll K) (cr_all rfl) (by rfl) T.all boot_all (pa_cons (pe_lc (own := [("_law_thing", 6)]) (g := (gName 6)) rfl sc_law.nd (pi_list (pe_call0 G_law_at_bounds (hr.mono (by omega)) (by rfl) D_law_at_bounds.g D_law_at_bounds.F.kp D_law_at_bounds.b .nil pass0)) (blkOk_by (N := ["_law_script", "_law_story", "_law_k", "_law_pool_here", "_law_small_here", "_law_turn", "_law_thing"]) (sc := defScope s_law) (by decide +kernel)) (fun _ _ _ _ _ => (pg_name (i := 6) sc_law.nd rfl (.inl rfl))) (fun _ _ _ _ _ => pts_nil) (fun _ _ _ _ _ => (pe_call G_law_right (hr.mono (by omega)) (by rfl) D_law_right.g D_law_right.F.kp D_law_right.b .nil pass0 (pa_cons (pv 6) (pa_cons (pv 1) pa_nil))))) pa_nil)))) (pss_one (ps_ret pe_bl)) pss_nil)
      (pss_cons (ps_for PassesOwn.never rfl (pi_range1 rfl T.range (pa_cons (pe_callB (call_max2 rfl) (by rfl) T.max boot_max (pa_cons pe_int (pa_cons (pe_callB (call_min2 rfl) (by rfl) T.min boot_min (pa_cons (pe_callB (r := rLenS K) call_len_seq (by rfl) T.len PySem.boot_len (pa_cons (pv 0) pa_nil)) (pa_cons pe_int pa_nil))) pa_nil))) pa_nil)) (pg_name (i := 2) sc_law.nd rfl (.inl rfl)) (pss_cons (ps_set (i := 3) sc_law.nd rfl (.inl rfl) (pe_call G_law_pool (hr.mono (by omega)) (by rfl) D_law_pool.g D_law_pool.F.kp D_law_pool.b .nil pass0 (pa_cons (pv 0) (pa_cons (pv 2) pa_nil))))
      (pss_cons (ps_set (i := 4) sc_law.nd rfl (.inl rfl) (pe_call G_law_small (hr.mono (by omega)) (by rfl) D_law_small.g D_law_small.F.kp D_law_small.b .nil pass0 (pa_cons (pv 3) pa_nil)))
      (pss_cons (ps_if (pt_not (pt_val (pe_call G_law_right (hr.mono (by omega)) (by rfl) D_law_right.g D_law_right.F.kp D_law_right.b .nil pass0 (pa_cons (pv 4) (pa_cons pe_non pa_nil))))) (pss_one (ps_ret pe_bl)) pss_nil)
      (pss_one (ps_for PassesOwn.never rfl (pi_range1 rfl T.range (pa_cons pe_int pa_nil)) (pg_name (i := 5) sc_law.nd rfl (.inl rfl)) (pss_one (ps_if (pt_not (pt_val (pe_call G_law_right (hr.mono (by omega)) (by rfl) D_law_right.g D_law_right.F.kp D_law_right.b .nil pass0 (pa_cons (pe_call G_law_bent (hr.mono (by omega)) (by rfl) D_law_bent.g D_law_bent.F.kp D_law_bent.b .nil pass0 (pa_cons (pv 3) (pa_cons (pv 4) pa_nil))) (pa_cons (pe_ix (r := rIxL K) ix_list (pe_lst (pa_cons (pv 1) (pa_cons pe_non (pa_cons (pe_tup (pa_cons pe_non pa_nil)) pa_nil)))) (pe_op op_mod (pv 5) pe_int) (fun _ _ => rfl)) pa_nil))))) (pss_one (ps_ret pe_bl)) pss_nil))))))))
      (pss_one (ps_ret pe_bl))))), ?_⟩
  refine q_asgP (K := K) way_ex (P := anyT) (a_tup way_ex (k := 3) (a_cons way_ex (a_tup way_ex (k := 1) (a_cons way_ex (a_tup way_ex (k := 2) (a_cons way_ex (p_ci way_ex trivial) (a_cons way_ex (p_ci way_ex trivial) (a_nil way_ex))) (by decide)) (a_nil way_ex)) (by decide)) (a_cons way_ex (a_tup way_ex (k := 0) (a_nil way_ex) (by decide)) (a_cons way_ex (a_tup way_ex (k := 0) (a_nil way_ex) (by decide)) (a_nil way_ex)))) (by decide)) fun vst tst H1 e1 hst _ => ?_
  refine q_when (b := false) (et_is (et_not (et_B (fun H2 e2 Q2 q2 => ?_))) (show (!true) = false from rfl)) (fun h => nomatch h) (fun _ H2 e2 => ?_)
  · refine ⟨rfl, fun l xs ts H3 e3 hl hx hn => ?_⟩
    have z := ev_allL (K := K) (g := gName 6) (vs := [6]) (σ := [some (.ref a), some vst, none, none, none, none, none]) (te := tCall (spRight K Ps) [] E0 (tCons (tVar 6) (tCons (tVar 1) tNil))) (fun _ => true) (ewr_at hl hx) (by rw [← ra_len hx]; omega) fun i d x H4 e4 hd hx4 => ⟨_, tg_name, rfl, fun H5 e5 Q5 q5 => ⟨x, rfl, vst, rfl, d, tst, .cons (rp_mono e5 hx4) (.cons (rp_mono (((e2.trans e3).trans e4).trans e5) hst) .nil), hT.ex ((((e1.trans e2).trans e3).trans e4).trans e5), fun H6 e6 => q5 H6 e6⟩⟩
    rw [List.all_eq_true.mpr (fun _ _ => rfl)] at z
    exact z H3 (Ex.refl H3) Q2 fun H4 e4 => q2 H4 (e3.trans e4)
  have e02 := e1.trans e2
  have hn : ∃ n : Int, (1 ≤ n ∧ n ≤ 6) ∧ ∀ {σ : L2.St} {H1 : Hp}, Ex H H1 → σ[0]? = some (some (.ref a)) → EvA (tCons (tCB (fun xs H Q => ∃ i j, xs = [V.int i, V.int j] ∧ Q (V.int (if j > i then j else i)) H) (tCons (tC (V.int 1)) (tCons (tCB (fun xs H Q => ∃ i j, xs = [V.int i, V.int j] ∧ Q (V.int (if j < i then j else i)) H) (tCons (tCB (rLenS K) (tCons (tVar 0) tNil)) (tCons (tC (V.int 6)) tNil))) tNil))) tNil) σ H1 [.int n] := by
    refine ⟨max 1 (min ((ns.map V.int).length : Int) 6), by omega, fun e h => ?_⟩
    refine ea_cons (ev_int (K := K) (ed_cbt (eda_cons ed_ci (eda_cons (ed_cbt (eda_cons (ed_int (ev_len (ev_var h) (ex_l e hS))) (eda_cons ed_ci eda_nil)) rdc_min2) eda_nil)) rdc_max2)) ea_nil
  obtain ⟨n, hn1, hn2⟩ := hn
  refine q_forR1 (hn2 e02 rfl) ⟨by omega, by omega⟩ (fun i σ' H' => Ex H2 H' ∧ ∃ y2 y3 y4 y5 y6 : Option V, σ' = [some (.ref a), some vst, y2, y3, y4, y5, y6]) (fun H3 e3 => ⟨e3, _, _, _, _, _, rfl⟩) (fun i σ' H' hi p => ?_) (fun σ' H' p => ?_)
  · obtain ⟨ex, y2, y3, y4, y5, y6, rfl⟩ := p
    have e0 := e02.trans ex
    -- the pool
    refine ⟨.ref a, rfl, .int (i : Int), rfl, a, ns, (i : Int), rfl, ex_l e0 hS, ⟨by omega, by omega⟩, fun p H3 n3 e3 hp h3 _ => ?_⟩
    dsimp only [gName]
    have hp3 : PoolAt H3 p := ⟨n3, h3⟩
    have W := way_pool p
    have hT3 : Tb Ps H3 := hT.ex (e0.trans e3)
    have hst3 := rp_mono ((e2.trans ex).trans e3) hst
    -- the small yard
    refine ⟨.ref p, rfl, p, rfl, hp3, fun vs ts H4 g4 hr4 hok => ?_⟩
    dsimp only [gName]
    have hp4 := g4.p hp3
    have hT4 := tb_gp g4 hp3 hT3
    have hst4 := rp_r g4.r hst3
    refine q_when (b := false) (et_is (et_not (et_B (fun H5 e5 Q5 q5 => ⟨vs, rfl, ts, .none, .cons (rp_mono e5 hr4) (.cons .non .nil), hT4.ex e5, fun H6 e6 => q5 H6 e6⟩))) (show (!true) = false from rfl)) (fun h => nomatch h) (fun _ H5 e5 => ?_)
    have g5 := W.trans g4 (W.ex e5)
    have hp5 := g5.p hp3
    have hT5 := tb_gp g5 hp3 hT3
    have hst5 := rp_r g5.r hst3
    have hr5 := rp_mono e5 hr4
    have back : ∀ H', GP p H3 H' → Ex H2 H' := fun H' g b o hb => g.b b o (ne_of_none (ex b o hb) hp) (e3 _ _ (ex b o hb))
    refine s_forR1 (ea_cons ev_c ea_nil) ⟨by decide, by decide⟩ (fun m σ' H' => GP p H5 H' ∧ ∃ y5 y6 : Option V, σ' = [some (.ref a), some vst, some (.int (i : Int)), some (.ref p), some vs, y5, y6]) (fun H6 e6 => ⟨W.ex e6, _, _, rfl⟩) (fun m σ' H' hm p' => ?_) (fun σ' H' p' => ?_)
    · obtain ⟨g6, y5', y6', rfl⟩ := p'
      have hp6 := g6.p hp5
      have hst6 := rp_r g6.r hst5
      have hr6 := rp_r g6.r hr5
      refine s_ifG W (Pa := fun b => (!b) = true) (tg_not (Pa := fun b => b = true) (tg_B (p_imp W (p_right W (a_cons W (fun H7 g7 Q7 q7 => ?_) (a_cons W (p_ixL W (Ps := lenP 3) (al_lst W (fr_pool hp6) (a_cons W (p_var W rfl hst6 trivial) (a_cons W (p_cn W trivial) (a_cons W (a_tup W (a_cons W (p_cn W trivial) (a_nil W)) (by decide)) (a_nil W)))) (by decide)) (p_op W (P := fun x => x = .int (m : Int)) (P' := fun y => y = .int 3) (P'' := fun z => z = .int ((m : Int) % 3)) (p_var W rfl (.int _) rfl) (p_ci W rfl) (fun x y hx hy => by rw [hx, hy]; exact rp_I (by show (0 : Int) < 3; decide) rfl)) (fun ts y h hy => ?_)) (a_nil W))) (fun H7 g7 => tb_gp (W.trans g5 (W.trans g6 g7)) hp3 hT3)) (fun t ht => ⟨true, ht, rfl⟩)))) (fun H7 g7 hb => nomatch hb) (fun H7 g7 _ => ⟨W.trans g6 g7, _, _, rfl⟩)
      · exact ⟨.ref p, rfl, vs, rfl, p, vs, ts, rfl, g7.p hp6, rp_r g7.r hr6, hok, fun v' t' H8 g8 hr8 => q7 v' t' H8 g8 hr8 trivial⟩
      · have h3 : ts.length = 3 := h
        have hz : ((m : Int) % 3).toNat < ts.length := by rw [h3]; omega
        exact ⟨((m : Int) % 3).toNat, ts[((m : Int) % 3).toNat], by rw [hy, Int.toNat_of_nonneg (by omega)], List.getElem?_eq_getElem hz, trivial⟩
    · obtain ⟨g6, y5', y6', rfl⟩ := p'
      exact ⟨back H' (W.trans g5 g6), _, _, _, _, _, rfl⟩
  · obtain ⟨ex, y2, y3, y4, y5, y6, rfl⟩ := p
    exact q H' (hT.ex (e02.trans ex))
end
end K34

set_option Elab.async false
set_option linter.all false
set_option maxRecDepth 100000
set_option maxHeartbeats 4000000
namespace K34
open PySem PySem.Spec PyProof.Rows L2 Evl DL GX YA EX TH TV
/-! ### the greatest of a tuple's ints -/
def rMaxT (K : PySem.W.Frag) : List V → Hp → VK → Prop := fun vs H Q => ∃ (a : Addr) (ns : List Int), vs = [V.ref a] ∧ SqT K H a (ns.map V.int) ∧ 0 < ns.length ∧ ∀ m, m ∈ ns → (∀ y, y ∈ ns → y ≤ m) → Q (.int m) H
theorem max_tupI {prog : Program} {w : World} {A : Around} {E : Value → Shared → Prop} {s : Shared} {l : Addr} {xs : Array (Int × Tok)} {Q : Value → Shared → Prop} (hh : A.handled = none) (ht : s.heap.IsTuple l (intItems xs)) (hne : 0 < xs.size)
    (h : ∀ v h' tk, (intItems xs)[argBest (fun i j => decide (numAt xs i > numAt xs j)) (xs.size - 1)]? = some v → (∀ b o, s.heap.get? b = some o → h'.get? b = some o) → Q v { s with heap := h', toks := tk }) :
    wpAny (model prog w) A (call (.builtin "max") [.ref l]) Q E s := by
  obtain ⟨o, ho, hc, n, hd⟩ := id ht
  have hlt : l < s.heap.objs.size := Heap.lt_size ho
  refine call_max_walk (wpAny_pyIter_tuple ht ?_)
  refine ⟨_, _, _, _, _, _, _, rfl, Walks.tuple (A := A.in1) hh _ l (Nat.ne_of_lt hlt) (intItems xs), ⟨⟨_, Heap.get?_push_size _ rfl, rfl, rfl⟩, ht.at fun o e => Heap.get?_push_of_some _ e⟩, fun b hb => ?_, by simpa [intItems] using hne, CmpOf.ints_gt (numAt xs) (fun _ _ => intItems_at), fun v h' tk hP hk => ?_⟩
  · rcases List.mem_cons.mp hb with rfl | hb
    · exact Heap.lt_size (Heap.get?_push_size _ rfl)
    · obtain rfl := List.mem_singleton.mp hb
      exact Heap.lt_size (Heap.get?_push_of_some _ ho)
  · refine h v h' tk (by simpa [intItems] using hP) fun b o e => hk b o (fun hb => ?_) (Heap.get?_push_of_some _ e)
    have z : b = s.heap.objs.size := by simpa using hb
    exact absurd (z ▸ Heap.lt_size e) (Nat.lt_irrefl _)
theorem cr_maxT {X : Cx} (hc : X.calm = true) : CallR X (.builtin "max") (rMaxT X.K) := by
  intro pins s σ H vs us Q I rel h
  obtain ⟨a, ns, rfl, hs, hne, q⟩ := h
  obtain ⟨its, rv, hT, _⟩ := I.tuple hs
  rw [Vals.ref1 rel]
  have hi : IntsAre its ns := rv.ints
  have hl : s.heap.IsTuple a its.toArray := hT
  obtain ⟨xs, e⟩ := hi.allInts.items
  have hn : numsOf (intItems xs).toList = ns := by
    rw [← e]
    exact hi.numsOf
  rw [nums_intItems] at hn
  subst hn
  rw [e] at hl
  have hsz : 0 < xs.size := by simpa using hne
  refine max_tupI (I.ok.hd hc) hl hsz fun v h' tk hv hk => ?_
  obtain ⟨t, rfl⟩ := intItems_at hv
  obtain ⟨h1, h2⟩ := argBest_gt (numAt xs) (xs.size - 1)
  refine ⟨.int _, H, I.kept hk, ⟨_, rfl⟩, q _ ?_ fun y hy => ?_⟩
  · rw [numAt_eq]
    exact PySem.getD_mem (by rw [List.length_map, Array.length_toList]; omega)
  · obtain ⟨j, hj, rfl⟩ := mem_getD hy
    rw [List.length_map, Array.length_toList] at hj
    rw [← numAt_eq]
    exact h2 j (by omega)
/-! ### the greatest, by data -/
def maxI (ns : List Int) : Int := ns.tail.foldl max (ns.headD 0)
theorem maxI_le {ns : List Int} {b : Int} (h : ns ≠ []) : maxI ns ≤ b ↔ ∀ n ∈ ns, n ≤ b := by
  cases ns with
  | nil => exact absurd rfl h
  | cons a r =>
    obtain ⟨h1, h2, h3⟩ := PySem.W.Mm.fold_max r a
    show r.foldl max a ≤ b ↔ _
    constructor
    · intro hz n hn
      rcases List.mem_cons.mp hn with e | hn
      · omega
      · have := h3 n hn
        omega
    · intro hz
      rcases h1 with e | e
      · rw [e]
        exact hz a (by simp)
      · exact hz _ (List.mem_cons_of_mem _ e)
section
variable {K : PySem.W.Frag} {σ : L2.St} {H : Hp} {te : TE}
theorem rdc_maxT {ns : List Int} (h : 0 < ns.length) : RDC K (rMaxT K) [.tuple (ns.map .int)] (.int (maxI ns)) := fun vs H hv Q q => by
  cases hv with
  | cons h1 h2 =>
    cases h2
    obtain ⟨a, xs, rfl, hs, ha⟩ := dp_tup h1
    cases da_ints_inv ha
    exact ⟨a, ns, rfl, hs, h, fun m m1 m2 => by rw [PySem.W.Mm.greatest m1 m2]; exact q _ H (Ex.refl H) (.int _)⟩
theorem rdc_maxL {ns : List Int} (h : 0 < ns.length) : RDC K (rMax K) [.list (ns.map .int)] (.int (maxI ns)) := fun vs H hv Q q => by
  cases hv with
  | cons h1 h2 =>
    cases h2
    obtain ⟨a, xs, rfl, hs, ha⟩ := dp_lst h1
    cases da_ints_inv ha
    exact ⟨a, ns, rfl, hs, h, fun m m1 m2 => by rw [PySem.W.Mm.greatest m1 m2]; exact q _ H (Ex.refl H) (.int _)⟩
theorem rdc_sumL {ns : List Int} : RDC K (rSum K) [.list (ns.map .int)] (.int ns.sum) := fun vs H hv Q q => by
  cases hv with
  | cons h1 h2 =>
    cases h2
    obtain ⟨a, xs, rfl, hs, ha⟩ := dp_lst h1
    cases da_ints_inv ha
    exact ⟨a, ns, rfl, hs, q _ H (Ex.refl H) (.int _)⟩
/-- a tuple of ints as a datum -/
theorem ra_dp {xs : List V} : ∀ {ts : List Th}, ts.all isWhole = true → RpAll K H xs ts → DpAll K H xs ((ts.map asInt).map .int) := by
  intro ts
  induction ts generalizing xs with
  | nil => intro _ h; cases h; exact .nil
  | cons t ts ih =>
    intro ha h
    rw [List.all_cons, Bool.and_eq_true] at ha
    cases h with
    | cons h1 h2 =>
      obtain ⟨i, rfl⟩ := int_of ha.1
      cases rp_int h1
      exact .cons (.int i) (ih ha.2 h2)
theorem rp_dpI {v : V} {ts : List Th} (ha : ts.all isWhole = true) (h : Rp K H v (.tup ts)) : Dp K H v (.tuple ((ts.map asInt).map .int)) := by
  obtain ⟨a, xs, rfl, hs, hx⟩ := rp_tup h
  exact .tup hs (ra_dp ha hx)
end
end K34

set_option Elab.async false
set_option linter.all false
set_option maxRecDepth 100000
set_option maxHeartbeats 4000000
namespace K34
open PySem PySem.Spec PyProof.Rows L2 Evl DL GX YA EX TH TV
abbrev s_is_whole : Stmt := topS 22
theorem sc_is_whole : FnScope ["thing"] ["thing"] (defScope s_is_whole) := ⟨rfl, rfl, rfl, by decide +kernel, rfl, by decide +kernel, by decide +kernel⟩
abbrev s_is_within : Stmt := topS 23
theorem sc_is_within : FnScope ["thing", "low", "high"] ["thing", "low", "high"] (defScope s_is_within) := ⟨rfl, rfl, rfl, by decide +kernel, rfl, by decide +kernel, by decide +kernel⟩
abbrev s_is_tuple_of : Stmt := topS 24
theorem sc_is_tuple_of : FnScope ["thing", "least", "most"] ["thing", "least", "most"] (defScope s_is_tuple_of) := ⟨rfl, rfl, rfl, by decide +kernel, rfl, by decide +kernel, by decide +kernel⟩
abbrev s_is_walk : Stmt := topS 29
theorem sc_is_walk : FnScope ["thing", "at", "many", "part"] ["thing", "at", "many"] (defScope s_is_walk) := ⟨rfl, rfl, rfl, by decide +kernel, rfl, by decide +kernel, by decide +kernel⟩
abbrev s_are_walks : Stmt := topS 28
theorem sc_are_walks : FnScope ["thing", "many", "at", "part"] ["thing", "many"] (defScope s_are_walks) := ⟨rfl, rfl, rfl, by decide +kernel, rfl, by decide +kernel, by decide +kernel⟩
abbrev s_are_pieces : Stmt := topS 30
theorem sc_are_pieces : FnScope ["thing", "part"] ["thing"] (defScope s_are_pieces) := ⟨rfl, rfl, rfl, by decide +kernel, rfl, by decide +kernel, by decide +kernel⟩
abbrev s_is_rule : Stmt := topS 31
theorem sc_is_rule : FnScope ["thing"] ["thing"] (defScope s_is_rule) := ⟨rfl, rfl, rfl, by decide +kernel, rfl, by decide +kernel, by decide +kernel⟩
structure DfC (K : PySem.W.Frag) (mg : Str → Option Value) (x : Str) (st : Stmt) (ps : List Str) (f : Addr) (fd : FuncData) (c : Addr) : Prop where
  C : FunC K x x st f fd c
  b : Binds K fd ps []
  g : mg x = some (.ref f)
section
variable {K : PySem.W.Frag} {mg : Str → Option Value} {x : Str} {st : Stmt} {ps : List Str} {f : Addr} {fd : FuncData} {c : Addr}
theorem DfC.F (D : DfC K mg x st ps f fd c) : Fun K x x st f fd := D.C.fn
theorem DfC.d (D : DfC K mg x st ps f fd c) : Df K mg x st ps f fd := ⟨D.F, D.b, D.g⟩
end
/-- a def that keeps its promise; a def; one with a table -/
def Pr (P : Program) (w : World) (K : PySem.W.Frag) (mg : Str → Option Value) (base : Heap) (k : Nat) (x : Str) (st : Stmt) (ps : List Str) (sp : Sp) : Prop := ∃ f fd, Df K mg x st ps f fd ∧ FnOk P w K mg base CX0 k f fd ps sp
def Dn (K : PySem.W.Frag) (mg : Str → Option Value) (x : Str) (st : Stmt) (ps : List Str) : Prop := ∃ f fd, Df K mg x st ps f fd
def Dt (K : PySem.W.Frag) (mg : Str → Option Value) (base : Heap) (Ps : List Addr) (x : Str) (st : Stmt) (ps : List Str) : Prop := ∃ f fd c PT, DfC K mg x st ps f fd c ∧ GxR.TabB base mg c PT ∧ PT ∈ Ps
def isWalk9 (t : Th) (at' many : Int) : Bool := isTupleOf t many many && ((parts t).all (fun p => isWithin p 0 9) && decide (asInt ((parts t).getD at'.toNat .none) = 0))
def isWalks9 (t : Th) (many : Int) : Bool := isTupleOf t many many && (nums (parts t)).all fun p => isWalk9 p.2 (p.1 : Int) many
def isPieces9 (t : Th) : Bool := isTupleOf t 2 2 && (parts t).all fun p => isWithin p 1 9
def fWalk : List Th → Option Bool
  | [t, .int a, .int m] => if 0 ≤ a ∧ a < m then some (isWalk9 t a m) else none
  | _ => none
theorem fWalk_is {ts : List Th} {b : Bool} (h : fWalk ts = some b) : ∃ t a m, ts = [t, .int a, .int m] ∧ (0 ≤ a ∧ a < m) ∧ b = isWalk9 t a m := by
  unfold fWalk at h
  split at h
  · split at h
    · rename_i hc
      exact ⟨_, _, _, rfl, hc, (Option.some.inj h).symm⟩
    · cases h
  · cases h
def RUL : List V := [.str "near", .str "old", .str "sort"]
section
variable {P : Program} {w : World} {K : PySem.W.Frag} {mg : Str → Option Value} {base : Heap} {Ps : List Addr}
theorem pr_whole (T : Bi mg) (D : Dn K mg "is_whole" s_is_whole ["thing"]) : Pr P w K mg base 1 "is_whole" s_is_whole ["thing"] (spF K Ps (fn1 isWhole)) := by
  obtain ⟨f, fd, D⟩ := D
  refine ⟨f, fd, D, D.F.ok sc_is_whole (len_spF fun ts b h => by obtain ⟨_, rfl, _⟩ := fn1_is h; rfl) (fun cdv A outer s H vs Q E hr h => ?_)⟩
  obtain ⟨ts, b, hv, hF, hT, q⟩ := h
  obtain ⟨t, rfl, rfl⟩ := fn1_is hF
  obtain ⟨v, rfl, hr1⟩ := ra1 hv
  refine ⟨_, (pss_one (ps_ret (pe_and (pe_callB (r := rIsi K) call_isi (by rfl) T.isinstance boot_isinstance (pa_cons (pv 0) (pa_cons (pe_bltn (by rfl) T.int boot_int (v := .ty "int") rfl) pa_nil))) (pe_one (pe_not (pe_callB (r := rIsi K) call_isi (by rfl) T.isinstance boot_isinstance (pa_cons (pv 0) (pa_cons (pe_bltn (by rfl) T.bool boot_bool (v := .ty "bool") rfl) pa_nil)))))))), ?_⟩
  refine sr_ret (ev_andV (ev_isi (ev_var rfl) hr1 (by decide)) fun _ => ev_notV (ev_isi (ev_var rfl) hr1 (by decide))) fun H1 e1 => ?_
  rw [whole_in]
  exact q H1 e1
theorem pr_within (T : Bi mg) (D : Dn K mg "is_within" s_is_within ["thing", "low", "high"]) (g1 : Pr P w K mg base 1 "is_whole" s_is_whole ["thing"] (spF K Ps (fn1 isWhole))) : Pr P w K mg base 2 "is_within" s_is_within ["thing", "low", "high"] (spF K Ps (fn3 isWithin)) := by
  obtain ⟨f, fd, D⟩ := D
  obtain ⟨f1, fd1, D_is_whole, G_is_whole⟩ := g1
  refine ⟨f, fd, D, D.F.ok sc_is_within (len_spF fun ts b h => by obtain ⟨_, _, _, rfl, _⟩ := fn3_is h; rfl) (fun cdv A outer s H vs Q E hr h => ?_)⟩
  obtain ⟨ts, b, hv, hF, hT, q⟩ := h
  obtain ⟨t, lo, hi, rfl, rfl⟩ := fn3_is hF
  obtain ⟨v, v2, v3, rfl, hr1, hr2, hr3⟩ := ra3 hv
  cases rp_int hr2
  cases rp_int hr3
  refine ⟨_, (pss_one (ps_ret (pe_and (pe_call G_is_whole (hr.mono (by omega)) (by rfl) D_is_whole.g D_is_whole.F.kp D_is_whole.b .nil pass0 (pa_cons (pv 0) pa_nil)) (pe_one (pe_chain op_le op_le (pv 1) (pv 0) (pv 2)))))), ?_⟩
  refine sr_ret (ev_andV (b := decide (lo ≤ asInt t) && decide (asInt t ≤ hi)) (ev_callF (F := fn1 isWhole) (ea_cons (ev_var rfl) ea_nil) (.cons hr1 .nil) rfl hT) fun hw => ?_) q
  obtain ⟨i, rfl⟩ := int_of hw
  cases rp_int hr1
  exact ev_chain (ev_var rfl) (ev_var rfl) (ev_var rfl) rv_I0 rv_I0
theorem pr_tuple_of (T : Bi mg) (D : Dn K mg "is_tuple_of" s_is_tuple_of ["thing", "least", "most"]) : Pr P w K mg base 1 "is_tuple_of" s_is_tuple_of ["thing", "least", "most"] (spF K Ps (fn3 isTupleOf)) := by
  obtain ⟨f, fd, D⟩ := D
  refine ⟨f, fd, D, D.F.ok sc_is_tuple_of (len_spF fun ts b h => by obtain ⟨_, _, _, rfl, _⟩ := fn3_is h; rfl) (fun cdv A outer s H vs Q E hr h => ?_)⟩
  obtain ⟨ts, b, hv, hF, hT, q⟩ := h
  obtain ⟨t, lo, hi, rfl, rfl⟩ := fn3_is hF
  obtain ⟨v, v2, v3, rfl, hr1, hr2, hr3⟩ := ra3 hv
  cases rp_int hr2
  cases rp_int hr3
  refine ⟨_, (pss_one (ps_ret (pe_and (pe_callB (r := rIsi K) call_isi (by rfl) T.isinstance boot_isinstance (pa_cons (pv 0) (pa_cons (pe_bltn (by rfl) T.tuple boot_tuple (v := .ty "tuple") rfl) pa_nil))) (pe_one (pe_chain op_le op_le (pv 1) (pe_callB (r := rLenS K) call_len_seq (by rfl) T.len PySem.boot_len (pa_cons (pv 0) pa_nil)) (pv 2)))))), ?_⟩
  refine sr_ret (ev_andV (b := decide (lo ≤ ((parts t).length : Int)) && decide (((parts t).length : Int) ≤ hi)) (ev_isi (ev_var rfl) hr1 (by decide)) fun hw => ?_) q
  obtain ⟨us, rfl⟩ := tup_of hw
  exact ev_chain (ev_var rfl) (ev_lenR (ev_var rfl) hr1) (ev_var rfl) rv_I0 rv_I0
theorem ev_tup {σ : L2.St} {H : Hp} {ta tb tc : TE} {E : XK} {v : V} {t : Th} {lo hi : Int} (h : Ev ta σ H v) (hr : Rp K H v t) (hl : Ev tb σ H (.int lo)) (hh : Ev tc σ H (.int hi)) (hT : Tb Ps H) : Ev (tCall (spF K Ps (fn3 isTupleOf)) [] E (tCons ta (tCons tb (tCons tc tNil)))) σ H (.bl (isTupleOf t lo hi)) :=
  ev_callF (F := fn3 isTupleOf) (ea_cons h (ea_cons hl (ea_cons hh ea_nil))) (.cons hr (.cons (.int lo) (.cons (.int hi) .nil))) rfl hT
theorem ev_win {σ : L2.St} {H : Hp} {ta tb tc : TE} {E : XK} {v : V} {t : Th} {lo hi : Int} (h : Ev ta σ H v) (hr : Rp K H v t) (hl : Ev tb σ H (.int lo)) (hh : Ev tc σ H (.int hi)) (hT : Tb Ps H) : Ev (tCall (spF K Ps (fn3 isWithin)) [] E (tCons ta (tCons tb (tCons tc tNil)))) σ H (.bl (isWithin t lo hi)) :=
  ev_callF (F := fn3 isWithin) (ea_cons h (ea_cons hl (ea_cons hh ea_nil))) (.cons hr (.cons (.int lo) (.cons (.int hi) .nil))) rfl hT
theorem pr_pieces (T : Bi mg) (D : Dt K mg base Ps "are_pieces" s_are_pieces ["thing"]) (g1 : Pr P w K mg base 1 "is_tuple_of" s_is_tuple_of ["thing", "least", "most"] (spF K Ps (fn3 isTupleOf))) (g2 : Pr P w K mg base 2 "is_within" s_is_within ["thing", "low", "high"] (spF K Ps (fn3 isWithin))) :
    Pr P w K mg base 4 "are_pieces" s_are_pieces ["thing"] (spF K Ps (fn1 isPieces9)) := by
  obtain ⟨f, fd, c, PT, D, TB_are_pieces, hPT⟩ := D
  obtain ⟨f1, fd1, D_is_tuple_of, G_is_tuple_of⟩ := g1
  obtain ⟨f2, fd2, D_is_within, G_is_within⟩ := g2
  refine ⟨f, fd, D.d, D.C.ok sc_are_pieces (len_spF fun ts b h => by obtain ⟨_, rfl, _⟩ := fn1_is h; rfl) (fun A outer s H vs Q E hr h => ?_)⟩
  obtain ⟨ts, b, hv, hF, hT, q⟩ := h
  obtain ⟨t, rfl, rfl⟩ := fn1_is hF
  obtain ⟨v, rfl, hr1⟩ := ra1 hv
  refine ⟨_, (pss_one (ps_ret (pe_and (pe_call G_is_tuple_of (hr.mono (by omega)) (by rfl) D_is_tuple_of.g D_is_tuple_of.F.kp D_is_tuple_of.b .nil pass0 (pa_cons (pv 0) (pa_cons pe_int (pa_cons pe_int pa_nil)))) (pe_one (pe_allG (k := 2) (own := [("part", 1)]) (g := (gName 1)) (hr.mono (by omega)) (by rfl) T.all rfl sc_are_pieces.nd TB_are_pieces rfl ⟨blkOk_by (N := ["thing", "part"]) (sc := defScope s_are_pieces) (by decide +kernel), rfl, by decide +kernel, rfl⟩ (pi_tup (pv 0)) (fun _ _ _ _ _ _ _ => (pg_name (i := 1) sc_are_pieces.nd rfl (.inl rfl))) (fun _ _ _ _ _ _ _ hr => (pe_call G_is_within (hr.mono (by omega)) (by rfl) D_is_within.g D_is_within.F.kp D_is_within.b .nil pass0 (pa_cons (pv 1) (pa_cons pe_int (pa_cons pe_int pa_nil)))))))))), ?_⟩
  refine sr_ret (ev_andV (b := (parts t).all fun p => isWithin p 1 9) (ev_tup (ev_var rfl) hr1 ev_c ev_c hT) fun hw => ?_) q
  obtain ⟨us, rfl, _, l2⟩ := tup_len hw
  exact ev_all (fun p => isWithin p 1 9) (ewr_tup (ev_var rfl) hr1) (hT PT hPT) fun i d x H1 e1 hd hx => ⟨_, tg_name, rfl, ev_win (ev_var rfl) hx ev_c ev_c (hT.ex e1)⟩
theorem pr_walk (T : Bi mg) (D : Dt K mg base Ps "is_walk" s_is_walk ["thing", "at", "many"]) (g1 : Pr P w K mg base 1 "is_tuple_of" s_is_tuple_of ["thing", "least", "most"] (spF K Ps (fn3 isTupleOf))) (g2 : Pr P w K mg base 2 "is_within" s_is_within ["thing", "low", "high"] (spF K Ps (fn3 isWithin))) :
    Pr P w K mg base 4 "is_walk" s_is_walk ["thing", "at", "many"] (spF K Ps fWalk) := by
  obtain ⟨f, fd, c, PT, D, TB_is_walk, hPT⟩ := D
  obtain ⟨f1, fd1, D_is_tuple_of, G_is_tuple_of⟩ := g1
  obtain ⟨f2, fd2, D_is_within, G_is_within⟩ := g2
  refine ⟨f, fd, D.d, D.C.ok sc_is_walk (len_spF fun ts b h => by obtain ⟨_, _, _, rfl, _⟩ := fWalk_is h; rfl) (fun A outer s H vs Q E hr h => ?_)⟩
  obtain ⟨ts, b, hv, hF, hT, q⟩ := h
  obtain ⟨t, at', many, rfl, hat, rfl⟩ := fWalk_is hF
  obtain ⟨v, v2, v3, rfl, hr1, hr2, hr3⟩ := ra3 hv
  cases rp_int hr2
  cases rp_int hr3
  refine ⟨_, (pss_one (ps_ret (pe_and (pe_call G_is_tuple_of (hr.mono (by omega)) (by rfl) D_is_tuple_of.g D_is_tuple_of.F.kp D_is_tuple_of.b .nil pass0 (pa_cons (pv 0) (pa_cons (pv 2) (pa_cons (pv 2) pa_nil)))) (pe_and (pe_allG (k := 2) (own := [("part", 3)]) (g := (gName 3)) (hr.mono (by omega)) (by rfl) T.all rfl sc_is_walk.nd TB_is_walk rfl ⟨blkOk_by (N := ["thing", "at", "many", "part"]) (sc := defScope s_is_walk) (by decide +kernel), rfl, by decide +kernel, rfl⟩ (pi_tup (pv 0)) (fun _ _ _ _ _ _ _ => (pg_name (i := 3) sc_is_walk.nd rfl (.inl rfl))) (fun _ _ _ _ _ _ _ hr => (pe_call G_is_within (hr.mono (by omega)) (by rfl) D_is_within.g D_is_within.F.kp D_is_within.b .nil pass0 (pa_cons (pv 3) (pa_cons pe_int (pa_cons pe_int pa_nil)))))) (pe_one (pe_cmpR op_eq (pe_ix (r := rIxT K) ix_tup (pv 0) (pv 1) (fun _ _ => rfl)) pe_int (nomark _))))))), ?_⟩
  refine sr_ret (ev_andV (b := (parts t).all (fun p => isWithin p 0 9) && decide (asInt ((parts t).getD at'.toNat .none) = 0)) (ev_tup (ev_var rfl) hr1 (ev_var rfl) (ev_var rfl) hT) fun hw => ?_) q
  obtain ⟨us, rfl, l1, l2⟩ := tup_len hw
  refine ev_andV (ev_all (fun p => isWithin p 0 9) (ewr_tup (ev_var rfl) hr1) (hT PT hPT) fun i d x H1 e1 hd hx => ⟨_, tg_name, rfl, ev_win (ev_var rfl) hx ev_c ev_c (hT.ex e1)⟩) fun hall => ?_
  have hk : at'.toNat < us.length := by omega
  have g1 : us[at'.toNat]? = some us[at'.toNat] := List.getElem?_eq_getElem hk
  have e1' : us.getD at'.toNat .none = us[at'.toNat] := by rw [List.getD_eq_getElem?_getD, g1]; rfl
  obtain ⟨i, ei, _⟩ := int_within (List.all_eq_true.mp hall _ (List.getElem_mem hk))
  obtain ⟨u1, r1, k1⟩ := ev_at (i := at'.toNat) hr1 g1
  show Ev _ _ _ (.bl (decide (asInt (us.getD at'.toNat .none) = 0)))
  rw [e1', ei]
  rw [ei] at r1
  cases rp_int r1
  rw [show decide (asInt (.int i) = 0) = decide (V.int i = V.int 0) from dec_i.symm]
  exact ev_op (k1 (ev_var rfl) (by rw [show ((at'.toNat : Nat) : Int) = at' by omega]; exact ev_var rfl)) ev_c (rv_eq rfl)
theorem pr_walks (T : Bi mg) (D : Dt K mg base Ps "are_walks" s_are_walks ["thing", "many"]) (g1 : Pr P w K mg base 1 "is_tuple_of" s_is_tuple_of ["thing", "least", "most"] (spF K Ps (fn3 isTupleOf))) (g2 : Pr P w K mg base 4 "is_walk" s_is_walk ["thing", "at", "many"] (spF K Ps fWalk)) :
    Pr P w K mg base 6 "are_walks" s_are_walks ["thing", "many"] (spF K Ps (fn2 isWalks9)) := by
  obtain ⟨f, fd, c, PT, D, TB_are_walks, hPT⟩ := D
  obtain ⟨f1, fd1, D_is_tuple_of, G_is_tuple_of⟩ := g1
  obtain ⟨f2, fd2, D_is_walk, G_is_walk⟩ := g2
  refine ⟨f, fd, D.d, D.C.ok sc_are_walks (len_spF fun ts b h => by obtain ⟨_, _, rfl, _⟩ := fn2_is h; rfl) (fun A outer s H vs Q E hr h => ?_)⟩
  obtain ⟨ts, b, hv, hF, hT, q⟩ := h
  obtain ⟨t, many, rfl, rfl⟩ := fn2_is hF
  obtain ⟨v, v2, rfl, hr1, hr2⟩ := ra2 hv
  cases rp_int hr2
  refine ⟨_, (pss_cons (ps_if (pt_not (pt_val (pe_call G_is_tuple_of (hr.mono (by omega)) (by rfl) D_is_tuple_of.g D_is_tuple_of.F.kp D_is_tuple_of.b .nil pass0 (pa_cons (pv 0) (pa_cons (pv 1) (pa_cons (pv 1) pa_nil)))))) (pss_one (ps_ret pe_bl)) pss_nil)
      (pss_one (ps_ret (pe_allG (k := 4) (own := [("at", 2), ("part", 3)]) (g := (gTup K 2 (gCons (gName 2) (gCons (gName 3) gNil)))) (hr.mono (by omega)) (by rfl) T.all rfl sc_are_walks.nd TB_are_walks rfl ⟨blkOk_by (N := ["thing", "many", "at", "part"]) (sc := defScope s_are_walks) (by decide +kernel), rfl, by decide +kernel, rfl⟩ (pi_enumT (by rfl) T.enumerate (pa_cons (pv 0) pa_nil)) (fun _ _ _ _ _ _ _ => (by exact (pg_tup rfl (pgs_cons (pg_name (i := 2) sc_are_walks.nd rfl (.inl rfl)) (pgs_cons (pg_name (i := 3) sc_are_walks.nd rfl (.inl rfl)) pgs_nil))))) (fun _ _ _ _ _ _ _ hr => (pe_call G_is_walk (hr.mono (by omega)) (by rfl) D_is_walk.g D_is_walk.F.kp D_is_walk.b .nil pass0 (pa_cons (pv 3) (pa_cons (pv 2) (pa_cons (pv 1) pa_nil))))))))), ?_⟩
  refine q_when (et_not (et_B (ev_tup (ev_var rfl) hr1 (ev_var rfl) (ev_var rfl) hT))) (fun hb H1 e1 => ?_) (fun hb H1 e1 => ?_)
  · have hz : isWalks9 t many = false := by
      unfold isWalks9
      have : isTupleOf t many many = false := by simpa using hb
      rw [this]
      rfl
    rw [hz] at q
    exact q H1 e1
  · have hw : isTupleOf t many many = true := by simpa using hb
    obtain ⟨us, rfl, l1, l2⟩ := tup_len hw
    have hq : ∀ H', Ex H1 H' → Q (.bl ((nums us).all fun p => isWalk9 p.2 (p.1 : Int) many)) H' := fun H' e' => by
      have z := q H' (e1.trans e')
      unfold isWalks9 at z
      rw [hw, Bool.true_and] at z
      exact z
    refine sr_ret (ev_all (fun (p : Nat × Th) => isWalk9 p.2 (p.1 : Int) many) (ewr_enum (ev_var rfl) (rp_mono e1 hr1)) ((hT.ex e1) PT hPT) fun i d x H2 e2 hd hx => ?_) hq
    obtain ⟨a, u, rfl, hs, hu⟩ := hx
    refine ⟨_, tg_pair hs, rfl, ev_callF (F := fWalk) (ea_cons (ev_var rfl) (ea_cons (ev_var rfl) (ea_cons (ev_var rfl) ea_nil))) (.cons hu (.cons (.int _) (.cons (.int many) .nil))) ?_ (hT.ex (e1.trans e2))⟩
    have hm := List.mem_of_getElem? hd
    have hm1 : d.1 < us.length := by
      have := (List.of_mem_zip (show (d.1, d.2) ∈ (List.range us.length).zip us from hm)).1
      simpa using this
    show (if 0 ≤ (d.1 : Int) ∧ (d.1 : Int) < many then some (isWalk9 d.2 (d.1 : Int) many) else none) = _
    rw [if_pos ⟨by omega, by omega⟩]
theorem rule_in (t : Th) : isRule t = (isIn t "str" && isRule t) := by
  cases t with
  | str s => rfl
  | odd o => cases o <;> rfl
  | _ => rfl
theorem pr_rule {aR : Addr} (T : Bi mg) (hRul : mg "RULES" = some (.ref aR)) (hK : ∀ H : Hp, SqT K H aR RUL) (D : Dn K mg "is_rule" s_is_rule ["thing"]) : Pr P w K mg base 1 "is_rule" s_is_rule ["thing"] (spF K Ps (fn1 isRule)) := by
  obtain ⟨f, fd, D⟩ := D
  refine ⟨f, fd, D, D.F.ok sc_is_rule (len_spF fun ts b h => by obtain ⟨_, rfl, _⟩ := fn1_is h; rfl) (fun cdv A outer s H vs Q E hr h => ?_)⟩
  obtain ⟨ts, b, hv, hF, hT, q⟩ := h
  obtain ⟨t, rfl, rfl⟩ := fn1_is hF
  obtain ⟨v, rfl, hr1⟩ := ra1 hv
  refine ⟨_, (pss_one (ps_ret (pe_and (pe_callB (r := rIsi K) call_isi (by rfl) T.isinstance boot_isinstance (pa_cons (pv 0) (pa_cons (pe_bltn (by rfl) T.str boot_str (v := .ty "str") rfl) pa_nil))) (pe_one (pe_cmpR (r := rIn K false) op_in_seq (pv 0) (pe_glob rfl hRul (v := .ref aR) rfl) rfl))))), ?_⟩
  rw [rule_in] at q
  refine sr_ret (ev_andV (b := isRule t) (ev_isi (ev_var rfl) hr1 (by decide)) fun hw => ?_) q
  cases t with
  | str s =>
    cases hr1
    exact ev_op (ev_var rfl) ev_c (rv_isT (hK H) rfl rfl)
  | odd o => cases o <;> cases hw
  | _ => cases hw
end
end K34

set_option Elab.async false
set_option linter.all false
set_option maxRecDepth 100000
set_option maxHeartbeats 4000000
namespace K34
open PySem PySem.Spec PyProof.Rows L2 Evl DL GX YA EX TH TV
abbrev s_is_small_frame : Stmt := topS 37
theorem sc_is_small_frame : FnScope ["thing", "kind", "threads", "most"] ["thing"] (defScope s_is_small_frame) := ⟨rfl, rfl, rfl, by decide +kernel, rfl, by decide +kernel, by decide +kernel⟩
abbrev s_are_small_frames : Stmt := topS 36
theorem sc_are_small_frames : FnScope ["thing", "part", "kind", "threads", "most"] ["thing"] (defScope s_are_small_frames) := ⟨rfl, rfl, rfl, by decide +kernel, rfl, by decide +kernel, by decide +kernel⟩
abbrev s_is_small_yard : Stmt := topS 35
theorem sc_is_small_yard : FnScope ["thing", "frames", "walks", "pieces", "rule", "gap", "row"] ["thing"] (defScope s_is_small_yard) := ⟨rfl, rfl, rfl, by decide +kernel, rfl, by decide +kernel, by decide +kernel⟩
abbrev s_is_small : Stmt := topS 49
theorem sc_is_small : FnScope ["thing"] ["thing"] (defScope s_is_small) := ⟨rfl, rfl, rfl, by decide +kernel, rfl, by decide +kernel, by decide +kernel⟩
theorem three {us : List Th} (l1 : (3 : Int) ≤ (us.length : Int)) (l2 : (us.length : Int) ≤ 3) : ∃ a b c, us = [a, b, c] := by
  match us, l1, l2 with
  | [a, b, c], _, _ => exact ⟨a, b, c, rfl⟩
  | [], h, _ => simp at h
  | [_], h, _ => simp at h
  | [_, _], h, _ => simp at h
  | _ :: _ :: _ :: _ :: _, _, h => simp at h; omega
theorem tg_tri {K : PySem.W.Frag} {i j k : Nat} {a : Addr} {x y z : V} {σ : L2.St} {H : Hp} (h : SqT K H a [x, y, z]) : TgD (gTup K 3 (gCons (gName i) (gCons (gName j) (gCons (gName k) gNil)))) (.ref a) σ H (((σ.set i (some x)).set j (some y)).set k (some z)) :=
  fun H1 e Q q => ⟨a, [x, y, z], rfl, ex_t e h, rfl, x, [y, z], rfl, y, [z], rfl, z, [], rfl, rfl, q⟩
theorem frame_no {t : Th} (h : isTupleOf t 3 3 = false) : smFrame t = false := by
  unfold smFrame
  split
  · rename_i a b c hp
    have z : isTupleOf t 3 3 = isTup t := by
      unfold isTupleOf
      rw [hp]
      cases isTup t <;> rfl
    rw [z] at h
    rw [h]
    rfl
  · rfl
theorem frame_tup {t : Th} (h : smFrame t = true) : ∃ a n c, t = .tup [a, .int n, c] := by
  unfold smFrame at h
  split at h
  · rename_i a b c hp
    rw [Bool.and_eq_true, Bool.and_eq_true, Bool.and_eq_true] at h
    obtain ⟨us, rfl⟩ := tup_of h.1
    have hp : us = [a, b, c] := hp
    obtain ⟨n, rfl, _⟩ := int_within h.2.2.1
    exact ⟨a, n, c, by rw [hp]⟩
  · cases h
/-! ### walks and pieces to three -/
theorem win_up {t : Th} {a b c : Int} (h : b ≤ c) : isWithin t a b = (isWithin t a c && decide (asInt t ≤ b)) := by
  unfold isWithin
  generalize isWhole t = x
  by_cases h1 : asInt t ≤ b
  · rw [decide_eq_true h1, decide_eq_true (show asInt t ≤ c by omega)]
    cases x <;> simp
  · rw [decide_eq_false h1]
    cases x <;> simp
theorem all_whole {ts : List Th} {a b : Int} (h : (ts.all fun p => isWithin p a b) = true) : ts.all isWhole = true :=
  List.all_eq_true.mpr fun t ht => by
    obtain ⟨i, rfl, _⟩ := int_within (List.all_eq_true.mp h t ht)
    rfl
/-- all to b: the greatest is -/
theorem all_max {ts : List Th} {a b c : Int} (hbc : b ≤ c) (hne : ts ≠ []) : ((ts.all fun p => isWithin p a c) && decide (maxI (ts.map asInt) ≤ b)) = (ts.all fun p => isWithin p a b) := by
  have e : (ts.all fun p => isWithin p a b) = ((ts.all fun p => isWithin p a c) && ts.all fun p => decide (asInt p ≤ b)) := by
    induction ts with
    | nil => exact absurd rfl hne
    | cons t ts ih =>
      rw [List.all_cons, List.all_cons, List.all_cons, win_up hbc]
      cases ts with
      | nil => simp
      | cons u us =>
        rw [ih (by simp)]
        generalize isWithin t a c = x1
        generalize decide (asInt t ≤ b) = x2
        generalize ((u :: us).all fun p => isWithin p a c) = x3
        generalize ((u :: us).all fun p => decide (asInt p ≤ b)) = x4
        cases x1 <;> cases x2 <;> cases x3 <;> cases x4 <;> rfl
  rw [e]
  congr 1
  have hne2 : ts.map asInt ≠ [] := by simpa using hne
  by_cases h : maxI (ts.map asInt) ≤ b
  · rw [decide_eq_true h]
    refine (List.all_eq_true.mpr fun t ht => decide_eq_true ?_).symm
    exact (maxI_le hne2).mp h _ (List.mem_map.mpr ⟨t, ht, rfl⟩)
  · rw [decide_eq_false h]
    symm
    rw [List.all_eq_false]
    refine Classical.byContradiction fun hz => h ((maxI_le hne2).mpr fun n hn => ?_)
    obtain ⟨t, ht, rfl⟩ := List.mem_map.mp hn
    refine Classical.byContradiction fun hy => hz ⟨t, ht, by simpa using hy⟩
def rowMax (t : Th) : Int := maxI ((parts t).map asInt)
theorem walks_eq {ws : List Th} {many : Int} (hm : 1 ≤ many) (h9 : isWalks9 (.tup ws) many = true) : decide (maxI (ws.map rowMax) ≤ 3) = smWalks (.tup ws) many := by
  unfold isWalks9 at h9
  rw [Bool.and_eq_true] at h9
  obtain ⟨us, e, l1, l2⟩ := tup_len h9.1
  cases e
  have h9 : ((nums ws).all fun p => isWalk9 p.2 (p.1 : Int) many) = true := h9.2
  have hlen : (ws.length : Int) = many := by omega
  have hne : ws.map rowMax ≠ [] := by
    intro z
    have : ws.length = 0 := by simpa using congrArg List.length z
    omega
  have at9 : ∀ (i : Nat) (t : Th), ws[i]? = some t → isWalk9 t (i : Int) many = true := fun i t ht => List.all_eq_true.mp h9 _ (List.mem_of_getElem? (nums_at ht))
  have e0 : smWalks (.tup ws) many = (nums ws).all (smWalk many) := by
    show (isTup (.tup ws) && (decide (((ws.length : Nat) : Int) = many) && (nums ws).all (smWalk many))) = _
    rw [decide_eq_true hlen]
    rfl
  have one : ∀ (i : Nat) (t : Th), ws[i]? = some t → smWalk many (i, t) = decide (rowMax t ≤ 3) := fun i t ht => by
    have k := at9 i t ht
    unfold isWalk9 at k
    rw [Bool.and_eq_true, Bool.and_eq_true] at k
    obtain ⟨us, rfl, m1, m2⟩ := tup_len k.1
    have kw : (us.all fun p => isWithin p 0 9) = true := k.2.1
    have k0 : decide (asInt (us.getD ((i : Int)).toNat .none) = 0) = true := k.2.2
    have hul : ((us.length : Nat) : Int) = many := by omega
    show (isTup (.tup us) && (decide (((us.length : Nat) : Int) = many) && ((us.all fun x => isWithin x 0 3) && decide (asInt (us.getD i .none) = 0)))) = _
    rw [show ((i : Int)).toNat = i from Int.toNat_natCast i] at k0
    have hne : us ≠ [] := by
      intro z
      rw [z] at hul
      simp at hul
      omega
    rw [decide_eq_true hul, k0, ← all_max (c := 9) (by decide) hne, kw]
    show (true && (true && ((true && decide (maxI (us.map asInt) ≤ 3)) && true))) = decide (maxI (us.map asInt) ≤ 3)
    rw [Bool.true_and, Bool.true_and, Bool.true_and, Bool.and_true]
  rw [e0]
  by_cases h : maxI (ws.map rowMax) ≤ 3
  · rw [decide_eq_true h]
    refine (List.all_eq_true.mpr fun p hp => ?_).symm
    obtain ⟨i, hi, e⟩ := List.mem_iff_getElem.mp hp
    have hi2 : i < ws.length := by rw [nums_len] at hi; exact hi
    have hat := List.getElem?_eq_getElem hi2
    have e2 : p = (i, ws[i]) := by
      have z := nums_at hat
      rw [List.getElem?_eq_getElem hi, e] at z
      exact Option.some.inj z
    rw [e2, one i _ hat]
    exact decide_eq_true ((maxI_le hne).mp h _ (List.mem_map.mpr ⟨_, List.getElem_mem hi2, rfl⟩))
  · rw [decide_eq_false h]
    symm
    rw [List.all_eq_false]
    refine Classical.byContradiction fun hz => h ((maxI_le hne).mpr fun n hn => ?_)
    obtain ⟨t, ht, rfl⟩ := List.mem_map.mp hn
    obtain ⟨i, hi, e⟩ := List.mem_iff_getElem.mp ht
    have hat : ws[i]? = some t := by rw [List.getElem?_eq_getElem hi, e]
    refine Classical.byContradiction fun hy => hz ⟨(i, t), List.mem_of_getElem? (nums_at hat), ?_⟩
    rw [one i t hat]
    simpa using hy
theorem walks_no {t : Th} {many : Int} (h9 : isWalks9 t many = false) : smWalks t many = false := by
  cases hs : smWalks t many with
  | false => rfl
  | true =>
    unfold smWalks at hs
    rw [Bool.and_eq_true, Bool.and_eq_true] at hs
    obtain ⟨us, rfl⟩ := tup_of hs.1
    have hl : (us.length : Int) = many := of_decide_eq_true hs.2.1
    have ha : ((nums us).all (smWalk many)) = true := hs.2.2
    have : isWalks9 (.tup us) many = true := by
      unfold isWalks9
      have z1 : isTupleOf (.tup us) many many = true := by
        show (true && (decide (many ≤ ((us.length : Nat) : Int)) && decide (((us.length : Nat) : Int) ≤ many))) = true
        rw [decide_eq_true (show many ≤ ((us.length : Nat) : Int) by omega), decide_eq_true (show ((us.length : Nat) : Int) ≤ many by omega)]
        rfl
      rw [z1, Bool.true_and]
      refine List.all_eq_true.mpr fun p hp => ?_
      have k := List.all_eq_true.mp ha p hp
      unfold smWalk at k
      rw [Bool.and_eq_true, Bool.and_eq_true, Bool.and_eq_true] at k
      obtain ⟨i, t⟩ := p
      obtain ⟨ws, e⟩ := tup_of k.1
      have e : t = .tup ws := e
      subst e
      have kl : ((ws.length : Nat) : Int) = many := of_decide_eq_true k.2.1
      have kw : (ws.all fun x => isWithin x 0 3) = true := k.2.2.1
      have k0 : decide (asInt (ws.getD i .none) = 0) = true := k.2.2.2
      show ((true && (decide (many ≤ ((ws.length : Nat) : Int)) && decide (((ws.length : Nat) : Int) ≤ many))) && ((ws.all fun p => isWithin p 0 9) && decide (asInt (ws.getD ((i : Int)).toNat .none) = 0))) = true
      rw [show ((i : Int)).toNat = i from Int.toNat_natCast i, k0, decide_eq_true (show many ≤ ((ws.length : Nat) : Int) by omega), decide_eq_true (show ((ws.length : Nat) : Int) ≤ many by omega)]
      rw [List.all_eq_true.mpr fun t ht => ?_]
      · rfl
      · obtain ⟨n, rfl, n1, n2⟩ := int_within (List.all_eq_true.mp kw t ht)
        show (true && (decide (0 ≤ n) && decide (n ≤ 9))) = true
        rw [decide_eq_true n1, decide_eq_true (show n ≤ 9 by omega)]
        rfl
    rw [this] at h9
    cases h9
theorem pieces_eq {ps : List Th} (h9 : isPieces9 (.tup ps) = true) : decide (maxI (ps.map asInt) ≤ 3) = smPieces (.tup ps) := by
  unfold isPieces9 at h9
  rw [Bool.and_eq_true] at h9
  obtain ⟨us, e, l1, l2⟩ := tup_len h9.1
  cases e
  have hk : (ps.all fun p => isWithin p 1 9) = true := h9.2
  have hne : ps ≠ [] := by
    intro z
    rw [z] at l1
    simp at l1
  show _ = (true && (decide (ps.length = 2) && ps.all fun x => isWithin x 1 3))
  rw [decide_eq_true (show ps.length = 2 by omega), ← all_max (c := 9) (by decide) hne, hk, Bool.true_and, Bool.true_and, Bool.true_and]
theorem pieces_no {t : Th} (h9 : isPieces9 t = false) : smPieces t = false := by
  cases hs : smPieces t with
  | false => rfl
  | true =>
    unfold smPieces at hs
    rw [Bool.and_eq_true, Bool.and_eq_true] at hs
    obtain ⟨us, rfl⟩ := tup_of hs.1
    have hl : us.length = 2 := of_decide_eq_true hs.2.1
    have ha : (us.all fun x => isWithin x 1 3) = true := hs.2.2
    have : isPieces9 (.tup us) = true := by
      show ((true && (decide (2 ≤ ((us.length : Nat) : Int)) && decide (((us.length : Nat) : Int) ≤ 2))) && us.all fun p => isWithin p 1 9) = true
      rw [decide_eq_true (show 2 ≤ ((us.length : Nat) : Int) by omega), decide_eq_true (show ((us.length : Nat) : Int) ≤ 2 by omega)]
      rw [List.all_eq_true.mpr fun t ht => ?_]
      · rfl
      · obtain ⟨n, rfl, n1, n2⟩ := int_within (List.all_eq_true.mp ha t ht)
        show (true && (decide (1 ≤ n) && decide (n ≤ 9))) = true
        rw [decide_eq_true n1, decide_eq_true (show n ≤ 9 by omega)]
        rfl
    rw [this] at h9
    cases h9
section
variable {P : Program} {w : World} {K : PySem.W.Frag} {mg : Str → Option Value} {base : Heap} {Ps : List Addr} {t3 u3 : Tok}
theorem pr_frame (T : Bi mg) (hMT : mg "MOST_THREADS" = some (.int 3 t3)) (D : Dn K mg "is_small_frame" s_is_small_frame ["thing"]) (g1 : Pr P w K mg base 1 "is_tuple_of" s_is_tuple_of ["thing", "least", "most"] (spF K Ps (fn3 isTupleOf))) (g2 : Pr P w K mg base 2 "is_within" s_is_within ["thing", "low", "high"] (spF K Ps (fn3 isWithin))) :
    Pr P w K mg base 3 "is_small_frame" s_is_small_frame ["thing"] (spF K Ps (fn1 smFrame)) := by
  obtain ⟨f, fd, D⟩ := D
  obtain ⟨f1, fd1, D_is_tuple_of, G_is_tuple_of⟩ := g1
  obtain ⟨f2, fd2, D_is_within, G_is_within⟩ := g2
  refine ⟨f, fd, D, D.F.ok sc_is_small_frame (len_spF fun ts b h => by obtain ⟨_, rfl, _⟩ := fn1_is h; rfl) (fun cdv A outer s H vs Q E hr h => ?_)⟩
  obtain ⟨ts, b, hv, hF, hT, q⟩ := h
  obtain ⟨t, rfl, rfl⟩ := fn1_is hF
  obtain ⟨v, rfl, hr1⟩ := ra1 hv
  refine ⟨_, (pss_cons (ps_if (pt_not (pt_val (pe_call G_is_tuple_of (hr.mono (by omega)) (by rfl) D_is_tuple_of.g D_is_tuple_of.F.kp D_is_tuple_of.b .nil pass0 (pa_cons (pv 0) (pa_cons pe_int (pa_cons pe_int pa_nil)))))) (pss_one (ps_ret pe_bl)) pss_nil)
      (pss_cons (ps_asg (pv 0) (pg_tup rfl (pgs_cons (pg_name (i := 1) sc_is_small_frame.nd rfl (.inl rfl)) (pgs_cons (pg_name (i := 2) sc_is_small_frame.nd rfl (.inl rfl)) (pgs_cons (pg_name (i := 3) sc_is_small_frame.nd rfl (.inl rfl)) pgs_nil)))))
      (pss_one (ps_ret (pe_and (pe_call G_is_within (hr.mono (by omega)) (by rfl) D_is_within.g D_is_within.F.kp D_is_within.b .nil pass0 (pa_cons (pv 1) (pa_cons pe_int (pa_cons pe_int pa_nil)))) (pe_and (pe_call G_is_within (hr.mono (by omega)) (by rfl) D_is_within.g D_is_within.F.kp D_is_within.b .nil pass0 (pa_cons (pv 2) (pa_cons pe_int (pa_cons (pe_glob rfl hMT (v := .int 3) ⟨_, rfl⟩) pa_nil)))) (pe_one (pe_call G_is_within (hr.mono (by omega)) (by rfl) D_is_within.g D_is_within.F.kp D_is_within.b .nil pass0 (pa_cons (pv 3) (pa_cons pe_int (pa_cons (pe_op op_sub (pv 2) pe_int) pa_nil))))))))))), ?_⟩
  refine q_when (et_not (et_B (ev_tup (ev_var rfl) hr1 ev_c ev_c hT))) (fun hb H1 e1 => ?_) (fun hb H1 e1 => ?_)
  · rw [frame_no (by simpa using hb)] at q
    exact q H1 e1
  · have hw : isTupleOf t 3 3 = true := by simpa using hb
    obtain ⟨us, rfl, l1, l2⟩ := tup_len hw
    obtain ⟨k1, k2, k3, rfl⟩ := three l1 l2
    obtain ⟨a, xs, rfl, hs, ha⟩ := rp_tup (rp_mono e1 hr1)
    obtain ⟨v1, v2, v3, rfl, r1, r2, r3⟩ := ra3 ha
    have hT1 := hT.ex e1
    refine ⟨.ref a, rfl, a, [v1, v2, v3], rfl, hs, rfl, _, _, rfl, _, _, rfl, _, _, rfl, rfl, ?_⟩
    dsimp only
    have hq : ∀ H', Ex H1 H' → Q (.bl (isWithin k1 0 1 && (isWithin k2 1 3 && isWithin k3 0 (asInt k2 - 1)))) H' := fun H' e' => q H' (e1.trans e')
    refine sr_ret (ev_andV (ev_win (ev_var rfl) r1 ev_c ev_c hT1) fun _ => ev_andV (ev_win (ev_var rfl) r2 ev_c ev_c hT1) fun h2 => ?_) hq
    obtain ⟨th, rfl, _, _⟩ := int_within h2
    cases rp_int r2
    exact ev_win (ev_var rfl) r3 ev_c (ev_op (ev_var rfl) ev_c rv_I0) hT1
theorem pr_frames (T : Bi mg) (hMT : mg "MOST_THREADS" = some (.int 3 t3)) (D : Dt K mg base Ps "are_small_frames" s_are_small_frames ["thing"]) (g1 : Pr P w K mg base 1 "is_tuple_of" s_is_tuple_of ["thing", "least", "most"] (spF K Ps (fn3 isTupleOf))) (g2 : Pr P w K mg base 3 "is_small_frame" s_is_small_frame ["thing"] (spF K Ps (fn1 smFrame))) :
    Pr P w K mg base 5 "are_small_frames" s_are_small_frames ["thing"] (spF K Ps (fn1 smFrames)) := by
  obtain ⟨f, fd, c, PT, D, TB_are_small_frames, hPT⟩ := D
  obtain ⟨f1, fd1, D_is_tuple_of, G_is_tuple_of⟩ := g1
  obtain ⟨f2, fd2, D_is_small_frame, G_is_small_frame⟩ := g2
  refine ⟨f, fd, D.d, D.C.ok sc_are_small_frames (len_spF fun ts b h => by obtain ⟨_, rfl, _⟩ := fn1_is h; rfl) (fun A outer s H vs Q E hr h => ?_)⟩
  obtain ⟨ts, b, hv, hF, hT, q⟩ := h
  obtain ⟨t, rfl, rfl⟩ := fn1_is hF
  obtain ⟨v, rfl, hr1⟩ := ra1 hv
  refine ⟨_, (pss_one (ps_ret (pe_and (pe_call G_is_tuple_of (hr.mono (by omega)) (by rfl) D_is_tuple_of.g D_is_tuple_of.F.kp D_is_tuple_of.b .nil pass0 (pa_cons (pv 0) (pa_cons pe_int (pa_cons pe_int pa_nil)))) (pe_and (pe_allG (k := 3) (own := [("part", 1)]) (g := (gName 1)) (hr.mono (by omega)) (by rfl) T.all rfl sc_are_small_frames.nd TB_are_small_frames rfl ⟨blkOk_by (N := ["thing", "part", "kind", "threads", "most"]) (sc := defScope s_are_small_frames) (by decide +kernel), rfl, by decide +kernel, rfl⟩ (pi_tup (pv 0)) (fun _ _ _ _ _ _ _ => (pg_name (i := 1) sc_are_small_frames.nd rfl (.inl rfl))) (fun _ _ _ _ _ _ _ hr => (pe_call G_is_small_frame (hr.mono (by omega)) (by rfl) D_is_small_frame.g D_is_small_frame.F.kp D_is_small_frame.b .nil pass0 (pa_cons (pv 1) pa_nil)))) (pe_one (pe_cmpR op_le (pe_callB (r := rSum K) (cr_sum rfl) (by rfl) T.sum boot_sum (pa_cons (pe_lc (own := [("kind", 2), ("threads", 3), ("most", 4)]) (g := (gTup K 3 (gCons (gName 2) (gCons (gName 3) (gCons (gName 4) gNil))))) rfl sc_are_small_frames.nd (pi_tup (pv 0)) (blkOk_by (N := ["thing", "part", "kind", "threads", "most"]) (sc := defScope s_are_small_frames) (by decide +kernel)) (fun _ _ _ _ _ => (by exact (pg_tup rfl (pgs_cons (pg_name (i := 2) sc_are_small_frames.nd rfl (.inl rfl)) (pgs_cons (pg_name (i := 3) sc_are_small_frames.nd rfl (.inl rfl)) (pgs_cons (pg_name (i := 4) sc_are_small_frames.nd rfl (.inl rfl)) pgs_nil)))))) (fun _ _ _ _ _ => pts_nil) (fun _ _ _ _ _ => (pv 3))) pa_nil)) (pe_glob rfl hMT (v := .int 3) ⟨_, rfl⟩) (nomark _))))))), ?_⟩
  refine sr_ret (ev_andV (b := (parts t).all smFrame && decide (((parts t).map threads).sum ≤ 3)) (ev_tup (ev_var rfl) hr1 ev_c ev_c hT) fun hw => ?_) q
  obtain ⟨us, rfl, _, l2⟩ := tup_len hw
  refine ev_andV (ev_all smFrame (ewr_tup (ev_var rfl) hr1) (hT PT hPT) fun i d x H1 e1 hd hx => ⟨_, tg_name, rfl, ev_callF (F := fn1 smFrame) (ea_cons (ev_var rfl) ea_nil) (.cons hx .nil) rfl (hT.ex e1)⟩) fun hall => ?_
  have hall : us.all smFrame = true := hall
  have z := ed_lcR (K := K) (te := tVar 3) (g := gTup K 3 (gCons (gName 2) (gCons (gName 3) (gCons (gName 4) gNil)))) (vs := [2, 3, 4]) (fun d => .int (threads d)) (ewr_tup (σ := [some v, none, none, none, none]) (tl := tVar 0) (ev_var rfl) hr1) (by show us.length ≤ 40000; omega) fun i d x H1 e1 hd hx => by
    obtain ⟨a, n, c, rfl⟩ := frame_tup (List.all_eq_true.mp hall d (List.mem_of_getElem? hd))
    obtain ⟨p, xs, rfl, hs, ha⟩ := rp_tup hx
    obtain ⟨v1, v2, v3, rfl, r1, r2, r3⟩ := ra3 ha
    cases rp_int r2
    exact ⟨_, tg_tri hs, rfl, rfl, ed_var rfl (.int n)⟩
  have e : us.map (fun d => PyData.int (threads d)) = (us.map threads).map .int := by rw [List.map_map]; rfl
  rw [e] at z
  exact ev_op (ev_int (ed_cbt (eda_cons z eda_nil) rdc_sumL)) ev_c rv_I0
end
end K34

set_option Elab.async false
set_option linter.all false
set_option maxRecDepth 100000
set_option maxHeartbeats 4000000
namespace K34
open PySem PySem.Spec PyProof.Rows L2 Evl DL GX YA EX TH TV
theorem five_of {us : List Th} (l1 : (5 : Int) ≤ (us.length : Int)) (l2 : (us.length : Int) ≤ 5) : ∃ a b c d e, us = [a, b, c, d, e] := five (by omega)
theorem small_no {t : Th} (h : isTupleOf t 5 5 = false) : isSmall t = false := by
  unfold isSmall
  split
  · rename_i a b c d e hp
    have z : isTupleOf t 5 5 = isTup t := by
      unfold isTupleOf
      rw [hp]
      cases isTup t <;> rfl
    rw [z] at h
    rw [h]
    rfl
  · rfl
section
variable {P : Program} {w : World} {K : PySem.W.Frag} {mg : Str → Option Value} {base : Heap} {Ps : List Addr} {t3 u3 : Tok}
theorem ra5 {H : Hp} {vs : List V} {t1 t2 t3 t4 t5 : Th} (h : RpAll K H vs [t1, t2, t3, t4, t5]) : ∃ v1 v2 v3 v4 v5, vs = [v1, v2, v3, v4, v5] ∧ Rp K H v1 t1 ∧ Rp K H v2 t2 ∧ Rp K H v3 t3 ∧ Rp K H v4 t4 ∧ Rp K H v5 t5 := by
  cases h with
  | cons h1 h =>
    cases h with
    | cons h2 h =>
      obtain ⟨a, b, d, rfl, r1, r2, r3⟩ := ra3 h
      exact ⟨_, _, a, b, d, rfl, h1, h2, r1, r2, r3⟩
theorem pr_yard (T : Bi mg) (hMB : mg "MOST_BEATS" = some (.int 3 u3)) (D : Dn K mg "is_small_yard" s_is_small_yard ["thing"]) (g1 : Pr P w K mg base 1 "is_tuple_of" s_is_tuple_of ["thing", "least", "most"] (spF K Ps (fn3 isTupleOf))) (g2 : Pr P w K mg base 2 "is_within" s_is_within ["thing", "low", "high"] (spF K Ps (fn3 isWithin)))
    (g3 : Pr P w K mg base 5 "are_small_frames" s_are_small_frames ["thing"] (spF K Ps (fn1 smFrames))) (g4 : Pr P w K mg base 6 "are_walks" s_are_walks ["thing", "many"] (spF K Ps (fn2 isWalks9))) (g5 : Pr P w K mg base 4 "are_pieces" s_are_pieces ["thing"] (spF K Ps (fn1 isPieces9))) (g6 : Pr P w K mg base 1 "is_rule" s_is_rule ["thing"] (spF K Ps (fn1 isRule))) :
    Pr P w K mg base 7 "is_small_yard" s_is_small_yard ["thing"] (spF K Ps (fn1 isSmall)) := by
  obtain ⟨f, fd, D⟩ := D
  obtain ⟨f1, fd1, D_is_tuple_of, G_is_tuple_of⟩ := g1
  obtain ⟨f2, fd2, D_is_within, G_is_within⟩ := g2
  obtain ⟨f3, fd3, D_are_small_frames, G_are_small_frames⟩ := g3
  obtain ⟨f4, fd4, D_are_walks, G_are_walks⟩ := g4
  obtain ⟨f5, fd5, D_are_pieces, G_are_pieces⟩ := g5
  obtain ⟨f6, fd6, D_is_rule, G_is_rule⟩ := g6
  refine ⟨f, fd, D, D.F.ok sc_is_small_yard (len_spF fun ts b h => by obtain ⟨_, rfl, _⟩ := fn1_is h; rfl) (fun cdv A outer s H vs Q E hr h => ?_)⟩
  obtain ⟨ts, b, hv, hF, hT, q⟩ := h
  obtain ⟨t, rfl, rfl⟩ := fn1_is hF
  obtain ⟨v, rfl, hr1⟩ := ra1 hv
  refine ⟨_, (pss_cons (ps_if (pt_not (pt_val (pe_call G_is_tuple_of (hr.mono (by omega)) (by rfl) D_is_tuple_of.g D_is_tuple_of.F.kp D_is_tuple_of.b .nil pass0 (pa_cons (pv 0) (pa_cons pe_int (pa_cons pe_int pa_nil)))))) (pss_one (ps_ret pe_bl)) pss_nil)
      (pss_cons (ps_asg (pv 0) (pg_tup rfl (pgs_cons (pg_name (i := 1) sc_is_small_yard.nd rfl (.inl rfl)) (pgs_cons (pg_name (i := 2) sc_is_small_yard.nd rfl (.inl rfl)) (pgs_cons (pg_name (i := 3) sc_is_small_yard.nd rfl (.inl rfl)) (pgs_cons (pg_name (i := 4) sc_is_small_yard.nd rfl (.inl rfl)) (pgs_cons (pg_name (i := 5) sc_is_small_yard.nd rfl (.inl rfl)) pgs_nil)))))))
      (pss_cons (ps_if (pt_not (pt_val (pe_call G_are_small_frames (hr.mono (by omega)) (by rfl) D_are_small_frames.g D_are_small_frames.F.kp D_are_small_frames.b .nil pass0 (pa_cons (pv 1) pa_nil)))) (pss_one (ps_ret pe_bl)) pss_nil)
      (pss_one (ps_ret (pe_and (pe_call G_are_walks (hr.mono (by omega)) (by rfl) D_are_walks.g D_are_walks.F.kp D_are_walks.b .nil pass0 (pa_cons (pv 2) (pa_cons (pe_callB (r := rLenS K) call_len_seq (by rfl) T.len PySem.boot_len (pa_cons (pv 1) pa_nil)) pa_nil))) (pe_and (pe_cmpR op_le (pe_callB (r := rMax K) (cr_max rfl) (by rfl) T.max boot_max (pa_cons (pe_lc (own := [("row", 6)]) (g := (gName 6)) rfl sc_is_small_yard.nd (pi_tup (pv 2)) (blkOk_by (N := ["thing", "frames", "walks", "pieces", "rule", "gap", "row"]) (sc := defScope s_is_small_yard) (by decide +kernel)) (fun _ _ _ _ _ => (pg_name (i := 6) sc_is_small_yard.nd rfl (.inl rfl))) (fun _ _ _ _ _ => pts_nil) (fun _ _ _ _ _ => (pe_callB (r := rMaxT K) (cr_maxT rfl) (by rfl) T.max boot_max (pa_cons (pv 6) pa_nil)))) pa_nil)) (pe_glob rfl hMB (v := .int 3) ⟨_, rfl⟩) (nomark _)) (pe_and (pe_call G_are_pieces (hr.mono (by omega)) (by rfl) D_are_pieces.g D_are_pieces.F.kp D_are_pieces.b .nil pass0 (pa_cons (pv 3) pa_nil)) (pe_and (pe_cmpR op_le (pe_callB (r := rMaxT K) (cr_maxT rfl) (by rfl) T.max boot_max (pa_cons (pv 3) pa_nil)) (pe_glob rfl hMB (v := .int 3) ⟨_, rfl⟩) (nomark _)) (pe_and (pe_call G_is_rule (hr.mono (by omega)) (by rfl) D_is_rule.g D_is_rule.F.kp D_is_rule.b .nil pass0 (pa_cons (pv 4) pa_nil)) (pe_one (pe_call G_is_within (hr.mono (by omega)) (by rfl) D_is_within.g D_is_within.F.kp D_is_within.b .nil pass0 (pa_cons (pv 5) (pa_cons pe_int (pa_cons pe_int pa_nil))))))))))))))), ?_⟩
  refine q_when (et_not (et_B (ev_tup (ev_var rfl) hr1 ev_c ev_c hT))) (fun hb H1 e1 => ?_) (fun hb H1 e1 => ?_)
  · rw [small_no (by simpa using hb)] at q
    exact q H1 e1
  · have hw : isTupleOf t 5 5 = true := by simpa using hb
    obtain ⟨us, rfl, l1, l2⟩ := tup_len hw
    obtain ⟨k1, k2, k3, k4, k5, rfl⟩ := five_of l1 l2
    obtain ⟨a, xs, rfl, hs, ha⟩ := rp_tup (rp_mono e1 hr1)
    obtain ⟨v1, v2, v3, v4, v5, rfl, r1, r2, r3, r4, r5⟩ := ra5 ha
    have hT1 := hT.ex e1
    refine ⟨.ref a, rfl, a, [v1, v2, v3, v4, v5], rfl, hs, rfl, _, _, rfl, _, _, rfl, _, _, rfl, _, _, rfl, _, _, rfl, rfl, ?_⟩
    dsimp only
    have hq : ∀ H', Ex H1 H' → Q (.bl (smFrames k1 && (smWalks k2 ((parts k1).length : Int) && (smPieces k3 && (isWithin k5 0 2 && isRule k4))))) H' := fun H' e' => q H' (e1.trans e')
    refine q_when (et_not (et_B (ev_callF (F := fn1 smFrames) (ea_cons (ev_var rfl) ea_nil) (.cons r1 .nil) rfl hT1))) (fun hb2 H2 e2 => ?_) (fun hb2 H2 e2 => ?_)
    · have hz : smFrames k1 = false := by simpa using hb2
      have z := hq H2 e2
      rw [hz, Bool.false_and] at z
      exact z
    · have hz : smFrames k1 = true := not_no hb2
      have hft : isTupleOf k1 1 3 = true := by
        have z : (isTupleOf k1 1 3 && ((parts k1).all smFrame && decide (((parts k1).map threads).sum ≤ 3))) = true := hz
        exact (Bool.and_eq_true_iff.mp z).1
      obtain ⟨fs, rfl, f1', f2'⟩ := tup_len hft
      have r1' := rp_mono e2 r1
      have r2' := rp_mono e2 r2
      have r3' := rp_mono e2 r3
      have r4' := rp_mono e2 r4
      have r5' := rp_mono e2 r5
      have hT2 := hT1.ex e2
      have hq2 : ∀ H', Ex H2 H' → Q (.bl (isWalks9 k2 (fs.length : Int) && (smWalks k2 (fs.length : Int) && (isPieces9 k3 && (smPieces k3 && (isRule k4 && isWithin k5 0 2)))))) H' := fun H' e' => by
        have z := hq H' (e2.trans e')
        rw [hz, Bool.true_and] at z
        have e : (smWalks k2 ((parts (.tup fs)).length : Int) && (smPieces k3 && (isWithin k5 0 2 && isRule k4))) = (isWalks9 k2 (fs.length : Int) && (smWalks k2 (fs.length : Int) && (isPieces9 k3 && (smPieces k3 && (isRule k4 && isWithin k5 0 2))))) := by
          show (smWalks k2 (fs.length : Int) && (smPieces k3 && (isWithin k5 0 2 && isRule k4))) = _
          cases y1 : isWalks9 k2 (fs.length : Int) with
          | false =>
            rw [walks_no y1]
            rfl
          | true =>
            cases y2 : isPieces9 k3 with
            | false =>
              rw [pieces_no y2]
              generalize smWalks k2 (fs.length : Int) = x1
              cases x1 <;> rfl
            | true =>
              generalize smWalks k2 (fs.length : Int) = x1
              generalize smPieces k3 = x2
              generalize isWithin k5 0 2 = x3
              generalize isRule k4 = x4
              cases x1 <;> cases x2 <;> cases x3 <;> cases x4 <;> rfl
        rw [e] at z
        exact z
      refine sr_ret (ev_andV (ev_callF (F := fn2 isWalks9) (ea_cons (ev_var rfl) (ea_cons (ev_lenR (ev_var rfl) r1') ea_nil)) (.cons r2' (.cons (.int _) .nil)) rfl hT2) fun h9 => ev_andV ?_ fun _ => ev_andV (ev_callF (F := fn1 isPieces9) (ea_cons (ev_var rfl) ea_nil) (.cons r3' .nil) rfl hT2) fun p9 => ev_andV ?_ fun _ => ev_andV (ev_callF (F := fn1 isRule) (ea_cons (ev_var rfl) ea_nil) (.cons r4' .nil) rfl hT2) fun _ => ev_win (ev_var rfl) r5' ev_c ev_c hT2) hq2
      · obtain ⟨ws, rfl, m1, m2⟩ := tup_len (t := k2) (by unfold isWalks9 at h9; exact (Bool.and_eq_true_iff.mp h9).1)
        rw [← walks_eq (by omega) h9]
        have h9' : ((nums ws).all fun p => isWalk9 p.2 (p.1 : Int) (fs.length : Int)) = true := by
          unfold isWalks9 at h9
          exact (Bool.and_eq_true_iff.mp h9).2
        have z := ed_lcR (K := K) (te := tCB (rMaxT K) (tCons (tVar 6) tNil)) (g := gName 6) (vs := [6]) (fun d => .int (rowMax d)) (ewr_tup (σ := [some (.ref a), some v1, some v2, some v3, some v4, some v5, none]) (tl := tVar 2) (ev_var rfl) r2') (by show ws.length ≤ 40000; omega) fun i d x H3 e3 hd hx => by
          have k := List.all_eq_true.mp h9' _ (List.mem_of_getElem? (nums_at hd))
          unfold isWalk9 at k
          rw [Bool.and_eq_true, Bool.and_eq_true] at k
          obtain ⟨us, eu, n1, n2⟩ := tup_len k.1
          have eu : d = .tup us := eu
          subst eu
          have kw : (us.all fun p => isWithin p 0 9) = true := k.2.1
          refine ⟨_, tg_name, rfl, rfl, ?_⟩
          exact ed_cbt (eda_cons (ed_var rfl (rp_dpI (all_whole kw) hx)) eda_nil) (rdc_maxT (ns := us.map asInt) (by rw [List.length_map]; omega))
        have e : ws.map (fun d => PyData.int (rowMax d)) = (ws.map rowMax).map .int := by rw [List.map_map]; rfl
        rw [e] at z
        exact ev_op (ev_int (ed_cbt (eda_cons z eda_nil) (rdc_maxL (by rw [List.length_map]; omega)))) ev_c rv_I0
      · obtain ⟨ps, rfl, m1, m2⟩ := tup_len (t := k3) (by unfold isPieces9 at p9; exact (Bool.and_eq_true_iff.mp p9).1)
        rw [← pieces_eq p9]
        have kw : (ps.all fun p => isWithin p 1 9) = true := by
          unfold isPieces9 at p9
          exact (Bool.and_eq_true_iff.mp p9).2
        exact ev_op (ev_int (ed_cbt (eda_cons (ed_var (v := v3) rfl (rp_dpI (all_whole kw) r3')) eda_nil) (rdc_maxT (ns := ps.map asInt) (by rw [List.length_map]; omega)))) ev_c rv_I0
theorem pr_small (D : Dn K mg "is_small" s_is_small ["thing"]) (g1 : Pr P w K mg base 7 "is_small_yard" s_is_small_yard ["thing"] (spF K Ps (fn1 isSmall))) : Pr P w K mg base 8 "is_small" s_is_small ["thing"] (spF K Ps (fn1 isSmall)) := by
  obtain ⟨f, fd, D⟩ := D
  obtain ⟨f1, fd1, D_is_small_yard, G_is_small_yard⟩ := g1
  refine ⟨f, fd, D, D.F.ok sc_is_small (len_spF fun ts b h => by obtain ⟨_, rfl, _⟩ := fn1_is h; rfl) (fun cdv A outer s H vs Q E hr h => ?_)⟩
  obtain ⟨ts, b, hv, hF, hT, q⟩ := h
  obtain ⟨t, rfl, rfl⟩ := fn1_is hF
  obtain ⟨v, rfl, hr1⟩ := ra1 hv
  refine ⟨_, (pss_one (ps_ret (pe_call G_is_small_yard (hr.mono (by omega)) (by rfl) D_is_small_yard.g D_is_small_yard.F.kp D_is_small_yard.b .nil pass0 (pa_cons (pv 0) pa_nil)))), ?_⟩
  exact sr_ret (ev_callF (F := fn1 isSmall) (ea_cons (ev_var rfl) ea_nil) (.cons hr1 .nil) rfl hT) q
end
end K34

set_option Elab.async false
set_option linter.all false
set_option maxRecDepth 100000
set_option maxHeartbeats 4000000
namespace K34
open PySem PySem.Spec PyProof.Rows L2 Evl DL GX YA EX TH TV
abbrev s_need_small : Stmt := topS 52
theorem sc_need_small : FnScope ["thing"] ["thing"] (defScope s_need_small) := ⟨rfl, rfl, rfl, by decide +kernel, rfl, by decide +kernel, by decide +kernel⟩
abbrev s_played : Stmt := topS 50
theorem sc_played : FnScope ["small", "story", "standings"] ["small", "story"] (defScope s_played) := ⟨rfl, rfl, rfl, by decide +kernel, rfl, by decide +kernel, by decide +kernel⟩
abbrev s_worst_story : Stmt := topS 51
theorem sc_worst_story : FnScope ["small", "ways", "waits", "thread", "own", "lasting", "beats", "way"] ["small"] (defScope s_worst_story) := ⟨rfl, rfl, rfl, by decide +kernel, rfl, by decide +kernel, by decide +kernel⟩
/-- what is never come to -/
theorem pss_never {X : Cx} {st : List Stmt} : PSs X st (fun _ _ _ => False) := ⟨fun _ _ _ _ _ _ h => h.elim⟩
/-- a class of errors that may be raised -/
structure Rz (K : PySem.W.Frag) (mg : Str → Option Value) (nm : Str) (C : Addr) : Prop where
  g : mg nm = some (.ref C)
  x : PySem.W.excIn K C [.type "ValueError", .type "Exception", .type "BaseException", .type "object"] "ValueError.__new__" = true
  k : PySem.W.keepIn K (.ref C) = true
  b : PySem.W.subIn K (.ref C) (.type "BaseException") = some true
  t : PySem.W.typeIn K (.ref C) = some (.type "type")
/-- a def that refuses with the class at C what isn't such, and else does nothing -/
def spNeed (K : PySem.W.Frag) (Ps : List Addr) (C : Addr) (F : Th → Bool) : Sp := fun vs H Q E => ∃ t, RpAll K H vs [t] ∧ Tb Ps H ∧ (F t = true → ∀ H', Ex H H' → Q .non H') ∧ (F t = false → ∀ H', Ex H H' → E (.ref C) none H')
section
variable {P : Program} {w : World} {K : PySem.W.Frag} {mg : Str → Option Value} {base : Heap} {Ps : List Addr}
theorem ok_need {f f1 C : Addr} {fd fd1 : FuncData} {k : Nat} {st1 : Stmt} (T : Bi mg) (R : Rz K mg "NoSmall" C) (D : Df K mg "need_small" s_need_small ["thing"] f fd) (D_is_small_yard : Df K mg "is_small_yard" st1 ["thing"] f1 fd1) (G_is_small_yard : FnOk P w K mg base CX0 k f1 fd1 ["thing"] (spF K Ps (fn1 isSmall))) :
    FnOk P w K mg base (L2.CX P w) (k + 1) f fd ["thing"] (spNeed K Ps C isSmall) := by
  refine D.F.okX sc_need_small (fun vs H Q E h => by obtain ⟨t, hr, _⟩ := h; rw [ra_len hr]; rfl) (fun cdv A outer s H vs Q E hr h => ?_)
  obtain ⟨t, hv, hT, hyes, hno⟩ := h
  obtain ⟨v, rfl, hr1⟩ := ra1 hv
  refine ⟨_, (pss_one (ps_if (pt_not (pt_val (pe_call G_is_small_yard (hr.mono (by omega)) (by rfl) D_is_small_yard.g D_is_small_yard.F.kp D_is_small_yard.b .nil pass0 (pa_cons (pv 0) pa_nil)))) (pss_one (ps_raise rfl (takes_of rfl rfl rfl rfl) (pmk_own PySem.F.excBase_ValueError R.x R.g R.k (raises_own R.b R.t) rfl))) pss_nil)), ?_⟩
  refine s_if (et_not (et_B (ev_callF (F := fn1 isSmall) (ea_cons (ev_var rfl) ea_nil) (.cons hr1 .nil) rfl hT))) (fun hb H1 e1 => ?_) (fun hb H1 e1 => ?_)
  · exact hno (by simpa using hb) H1 e1
  · exact hyes (not_no hb) H1 e1
theorem ok_played {f f1 C : Addr} {fd fd1 : FuncData} {k : Nat} {st1 : Stmt} (D : Df K mg "played" s_played ["small", "story"] f fd) (D_need_small : Df K mg "need_small" st1 ["thing"] f1 fd1) (G_need_small : FnOk P w K mg base (L2.CX P w) k f1 fd1 ["thing"] (spNeed K Ps C isSmall)) :
    FnOk P w K mg base (L2.CX P w) (k + 1) f fd ["small", "story"] (spNo K Ps C noSmall2) := by
  refine D.F.okX sc_played (fun vs H Q E h => by obtain ⟨ts, hr, ⟨t, u, rfl, _⟩, _⟩ := h; rw [ra_len hr]; rfl) (fun cdv A outer s H vs Q E hr h => ?_)
  obtain ⟨ts, hv, ⟨t, u, rfl, hz⟩, hT, hno⟩ := h
  obtain ⟨v1, v2, rfl, r1, r2⟩ := ra2 hv
  refine ⟨_, (pss_cons (ps_expr (pe_callS G_need_small (hr.mono (by omega)) (by rfl) D_need_small.g D_need_small.F.kp D_need_small.b (fun σ => passAt (takes_of rfl rfl rfl rfl) σ) (pa_cons (pv 0) pa_nil))) pss_never), ?_⟩
  exact ⟨v1, rfl, t, .cons r1 .nil, hT, fun h => by (rw [hz] at h; cases h), fun _ H1 e1 => hno H1 e1⟩
theorem ok_worst {f f1 C : Addr} {fd fd1 : FuncData} {k : Nat} {st1 : Stmt} (D : Df K mg "worst_story" s_worst_story ["small"] f fd) (D_need_small : Df K mg "need_small" st1 ["thing"] f1 fd1) (G_need_small : FnOk P w K mg base (L2.CX P w) k f1 fd1 ["thing"] (spNeed K Ps C isSmall)) :
    FnOk P w K mg base (L2.CX P w) (k + 1) f fd ["small"] (spNo K Ps C noSmall1) := by
  refine D.F.okX sc_worst_story (fun vs H Q E h => by obtain ⟨ts, hr, ⟨t, rfl, _⟩, _⟩ := h; rw [ra_len hr]; rfl) (fun cdv A outer s H vs Q E hr h => ?_)
  obtain ⟨ts, hv, ⟨t, rfl, hz⟩, hT, hno⟩ := h
  obtain ⟨v1, rfl, r1⟩ := ra1 hv
  refine ⟨_, (pss_cons (ps_expr (pe_callS G_need_small (hr.mono (by omega)) (by rfl) D_need_small.g D_need_small.F.kp D_need_small.b (fun σ => passAt (takes_of rfl rfl rfl rfl) σ) (pa_cons (pv 0) pa_nil))) pss_never), ?_⟩
  exact ⟨v1, rfl, t, .cons r1 .nil, hT, fun h => by (rw [hz] at h; cases h), fun _ H1 e1 => hno H1 e1⟩
end
end K34

set_option Elab.async false
set_option linter.all false
set_option maxRecDepth 100000
set_option maxHeartbeats 4000000
namespace K34
open PySem PySem.Spec PyProof.Rows L2 Evl DL GX YA EX TH TV
def tblC (cs : List Addr) : List (Str × Addr) := (("DoffError" :: errs : List Str)).zip cs
def atC (cs : List Addr) (n : Str) : Addr := ((tblC cs).lookup n).getD 0
theorem kit_cl {K : PySem.W.Frag} {D C : Addr} {b : Bool} (ht : PySem.W.typeIn K (.ref C) = some (.type "type")) (hd : PySem.W.hasDictIn K C = true) (hs : PySem.W.subIn K (.ref D) (.ref C) = some b) (hD : PySem.W.subIn K (.ref D) (.ref D) = some true) : PySem.W.kitOne K (.ref D) (.ref C) = some b := by
  unfold PySem.W.kitOne
  split
  · rename_i e
    have e : D = C := Value.ref.inj (beq_iff_eq.mp e)
    subst e
    rw [← hs, hD]
  · obtain ⟨cd, hc, _⟩ := PySem.W.any_some hd
    have e2 : ((PySem.W.clsIn K C).isSome && PySem.W.typeIn K (.ref C) == some (.type "type")) = true := by rw [hc, ht] <;> rfl
    show (if ((PySem.W.clsIn K C).isSome && PySem.W.typeIn K (.ref C) == some (.type "type")) = true then PySem.W.subIn K (.ref D) (.ref C) else none) = some b
    rw [if_pos e2]
    exact hs
theorem kit_ve {K : PySem.W.Frag} {D : Addr} {T : String} {b : Bool} (hs : PySem.W.subIn K (.ref D) (.type T) = some b) (hk : PySem.W.kitMeta T = true := by decide +kernel) : PySem.W.kitOne K (.ref D) (.type T) = some b := by
  unfold PySem.W.kitOne
  rw [if_neg (by intro h; exact absurd (beq_iff_eq.mp h) (by intro z; cases z))]
  show (if PySem.W.kitMeta T = true then PySem.W.subIn K (.ref D) (.type T) else none) = some b
  rw [if_pos hk]
  exact hs
theorem tab_mk {K : PySem.W.Frag} {x : Str} {st : Stmt} {f c P : Addr} {fd : FuncData} {oc : Value} {od : Option Addr} {vs : Array Value} {sl : Array (Option Value)} (b : PySem.W.nsIn K mainGlobals x = some (some (.ref f))) (F : FunC K x x st f fd c)
    (q : K.lookup c = some ⟨oc, od, .fields vs, sl⟩) (u : vs[11]? = some (.ref P)) : PySem.W.tabIn K x = some (c, P) := by
  obtain ⟨oc', od', kV, doc, pm, an, ct, osl, rfl, lk, _⟩ := F.ex
  unfold PySem.W.tabIn
  rw [b]
  dsimp only
  rw [lk]
  dsimp only [PySem.W.fnOf]
  rw [q]
  dsimp only
  rw [u]
theorem all_mk {l : PySem.W.OpenLaw} {qq : Program} {w : World} {K : PySem.W.Frag} {h : Heap} {mg : Str → Option Value} {fa f0 f1 f2 f3 f4 f5 f6 f7 f8 f9 f10 f11 f12 f13 f14 f15 f16 f17 f18 f19 f20 f21 f22 g0 g1 g2 g3 k0 k1 k2 k3 p0 p1 p2 p3 c0 c1 c2 c3 c4 c5 c6 c7 c8 c9 c10 c11 c12 c13 c14 c15 c16 c17 c18 c19 aR : Addr} {d0 d1 d2 d3 d4 d5 d6 d7 d8 d9 d10 d11 d12 d13 d14 d15 d16 d17 d18 d19 d20 d21 d22 e0 e1 e2 e3 : FuncData} {dR : Option Addr} {i1 i2 i3 tk1 tk2 : Tok} {nR : Nat} {xR sl0 sl1 sl2 sl3 : Array (Option Value)} {oc0 oc1 oc2 oc3 : Value} {od0 od1 od2 od3 : Option Addr} {vv0 vv1 vv2 vv3 : Array Value} (X : K.In h) (G : h.Ns mainGlobals mg) (hfa : mg "law" = some (.ref fa))
    (a0 : PySem.W.nsIn K mainGlobals "law" = some (some (.ref f0))) (F0 : Fun K "law" "law" s_law f0 d0)
    (a1 : PySem.W.nsIn K mainGlobals "_law_pool" = some (some (.ref f1))) (F1 : Fun K "_law_pool" "_law_pool" s_law_pool f1 d1)
    (a2 : PySem.W.nsIn K mainGlobals "_law_take" = some (some (.ref f2))) (F2 : Fun K "_law_take" "_law_take" s_law_take f2 d2)
    (a3 : PySem.W.nsIn K mainGlobals "_law_small" = some (some (.ref f3))) (F3 : Fun K "_law_small" "_law_small" s_law_small f3 d3)
    (a4 : PySem.W.nsIn K mainGlobals "_law_sort" = some (some (.ref f4))) (F4 : Fun K "_law_sort" "_law_sort" s_law_sort f4 d4)
    (a5 : PySem.W.nsIn K mainGlobals "_law_bent" = some (some (.ref f5))) (F5 : Fun K "_law_bent" "_law_bent" s_law_bent f5 d5)
    (a6 : PySem.W.nsIn K mainGlobals "_law_number" = some (some (.ref f6))) (F6 : Fun K "_law_number" "_law_number" s_law_number f6 d6)
    (a7 : PySem.W.nsIn K mainGlobals "_law_are_frames" = some (some (.ref f7))) (F7 : Fun K "_law_are_frames" "_law_are_frames" s_law_are_frames f7 d7)
    (a8 : PySem.W.nsIn K mainGlobals "_law_are_walks" = some (some (.ref f8))) (F8 : Fun K "_law_are_walks" "_law_are_walks" s_law_are_walks f8 d8)
    (a9 : PySem.W.nsIn K mainGlobals "_law_is_small" = some (some (.ref f9))) (F9 : Fun K "_law_is_small" "_law_is_small" s_law_is_small f9 d9)
    (a10 : PySem.W.nsIn K mainGlobals "_law_asked" = some (some (.ref f10))) (F10 : Fun K "_law_asked" "_law_asked" s_law_asked f10 d10)
    (a11 : PySem.W.nsIn K mainGlobals "_law_right" = some (some (.ref f11))) (F11 : Fun K "_law_right" "_law_right" s_law_right f11 d11)
    (a12 : PySem.W.nsIn K mainGlobals "_law_at_bounds" = some (some (.ref f12))) (F12 : Fun K "_law_at_bounds" "_law_at_bounds" s_law_at_bounds f12 d12)
    (a13 : PySem.W.nsIn K mainGlobals "is_small" = some (some (.ref f13))) (F13 : Fun K "is_small" "is_small" s_is_small f13 d13)
    (a14 : PySem.W.nsIn K mainGlobals "played" = some (some (.ref f14))) (F14 : Fun K "played" "played" s_played f14 d14)
    (a15 : PySem.W.nsIn K mainGlobals "worst_story" = some (some (.ref f15))) (F15 : Fun K "worst_story" "worst_story" s_worst_story f15 d15)
    (a16 : PySem.W.nsIn K mainGlobals "is_whole" = some (some (.ref f16))) (F16 : Fun K "is_whole" "is_whole" s_is_whole f16 d16)
    (a17 : PySem.W.nsIn K mainGlobals "is_within" = some (some (.ref f17))) (F17 : Fun K "is_within" "is_within" s_is_within f17 d17)
    (a18 : PySem.W.nsIn K mainGlobals "is_tuple_of" = some (some (.ref f18))) (F18 : Fun K "is_tuple_of" "is_tuple_of" s_is_tuple_of f18 d18)
    (a19 : PySem.W.nsIn K mainGlobals "is_rule" = some (some (.ref f19))) (F19 : Fun K "is_rule" "is_rule" s_is_rule f19 d19)
    (a20 : PySem.W.nsIn K mainGlobals "is_small_frame" = some (some (.ref f20))) (F20 : Fun K "is_small_frame" "is_small_frame" s_is_small_frame f20 d20)
    (a21 : PySem.W.nsIn K mainGlobals "is_small_yard" = some (some (.ref f21))) (F21 : Fun K "is_small_yard" "is_small_yard" s_is_small_yard f21 d21)
    (a22 : PySem.W.nsIn K mainGlobals "need_small" = some (some (.ref f22))) (F22 : Fun K "need_small" "need_small" s_need_small f22 d22)
    (b0 : PySem.W.nsIn K mainGlobals "are_walks" = some (some (.ref g0))) (G0 : FunC K "are_walks" "are_walks" s_are_walks g0 e0 k0)
    (b1 : PySem.W.nsIn K mainGlobals "is_walk" = some (some (.ref g1))) (G1 : FunC K "is_walk" "is_walk" s_is_walk g1 e1 k1)
    (b2 : PySem.W.nsIn K mainGlobals "are_pieces" = some (some (.ref g2))) (G2 : FunC K "are_pieces" "are_pieces" s_are_pieces g2 e2 k2)
    (b3 : PySem.W.nsIn K mainGlobals "are_small_frames" = some (some (.ref g3))) (G3 : FunC K "are_small_frames" "are_small_frames" s_are_small_frames g3 e3 k3)
    (r0 : ((recsOf qq).any fun e => e.name == ("are_walks" : Str)) = true) (q0 : K.lookup k0 = some ⟨oc0, od0, .fields vv0, sl0⟩) (u0 : vv0[11]? = some (.ref p0)) (l0 : K.lookup p0 = none)
    (r1 : ((recsOf qq).any fun e => e.name == ("is_walk" : Str)) = true) (q1 : K.lookup k1 = some ⟨oc1, od1, .fields vv1, sl1⟩) (u1 : vv1[11]? = some (.ref p1)) (l1 : K.lookup p1 = none)
    (r2 : ((recsOf qq).any fun e => e.name == ("are_pieces" : Str)) = true) (q2 : K.lookup k2 = some ⟨oc2, od2, .fields vv2, sl2⟩) (u2 : vv2[11]? = some (.ref p2)) (l2 : K.lookup p2 = none)
    (r3 : ((recsOf qq).any fun e => e.name == ("are_small_frames" : Str)) = true) (q3 : K.lookup k3 = some ⟨oc3, od3, .fields vv3, sl3⟩) (u3 : vv3[11]? = some (.ref p3)) (l3 : K.lookup p3 = none)
    (n0 : PySem.W.nsIn K mainGlobals "DoffError" = some (some (.ref c0))) (t0 : PySem.W.typeIn K (.ref c0) = some (.type "type")) (h0 : PySem.W.hasDictIn K c0 = true) (s0 : PySem.W.subIn K (.ref c10) (.ref c0) = some true)
    (n1 : PySem.W.nsIn K mainGlobals "NoCalls" = some (some (.ref c1))) (t1 : PySem.W.typeIn K (.ref c1) = some (.type "type")) (h1 : PySem.W.hasDictIn K c1 = true) (s1 : PySem.W.subIn K (.ref c10) (.ref c1) = some false)
    (n2 : PySem.W.nsIn K mainGlobals "NoDoffs" = some (some (.ref c2))) (t2 : PySem.W.typeIn K (.ref c2) = some (.type "type")) (h2 : PySem.W.hasDictIn K c2 = true) (s2 : PySem.W.subIn K (.ref c10) (.ref c2) = some false)
    (n3 : PySem.W.nsIn K mainGlobals "NoFrame" = some (some (.ref c3))) (t3 : PySem.W.typeIn K (.ref c3) = some (.type "type")) (h3 : PySem.W.hasDictIn K c3 = true) (s3 : PySem.W.subIn K (.ref c10) (.ref c3) = some false)
    (n4 : PySem.W.nsIn K mainGlobals "NoHand" = some (some (.ref c4))) (t4 : PySem.W.typeIn K (.ref c4) = some (.type "type")) (h4 : PySem.W.hasDictIn K c4 = true) (s4 : PySem.W.subIn K (.ref c10) (.ref c4) = some false)
    (n5 : PySem.W.nsIn K mainGlobals "NoMany" = some (some (.ref c5))) (t5 : PySem.W.typeIn K (.ref c5) = some (.type "type")) (h5 : PySem.W.hasDictIn K c5 = true) (s5 : PySem.W.subIn K (.ref c10) (.ref c5) = some false)
    (n6 : PySem.W.nsIn K mainGlobals "NoMinds" = some (some (.ref c6))) (t6 : PySem.W.typeIn K (.ref c6) = some (.type "type")) (h6 : PySem.W.hasDictIn K c6 = true) (s6 : PySem.W.subIn K (.ref c10) (.ref c6) = some false)
    (n7 : PySem.W.nsIn K mainGlobals "NoMoment" = some (some (.ref c7))) (t7 : PySem.W.typeIn K (.ref c7) = some (.type "type")) (h7 : PySem.W.hasDictIn K c7 = true) (s7 : PySem.W.subIn K (.ref c10) (.ref c7) = some false)
    (n8 : PySem.W.nsIn K mainGlobals "NoPlain" = some (some (.ref c8))) (t8 : PySem.W.typeIn K (.ref c8) = some (.type "type")) (h8 : PySem.W.hasDictIn K c8 = true) (s8 : PySem.W.subIn K (.ref c10) (.ref c8) = some false)
    (n9 : PySem.W.nsIn K mainGlobals "NoRow" = some (some (.ref c9))) (t9 : PySem.W.typeIn K (.ref c9) = some (.type "type")) (h9 : PySem.W.hasDictIn K c9 = true) (s9 : PySem.W.subIn K (.ref c10) (.ref c9) = some false)
    (n10 : PySem.W.nsIn K mainGlobals "NoSmall" = some (some (.ref c10))) (t10 : PySem.W.typeIn K (.ref c10) = some (.type "type")) (h10 : PySem.W.hasDictIn K c10 = true) (s10 : PySem.W.subIn K (.ref c10) (.ref c10) = some true)
    (n11 : PySem.W.nsIn K mainGlobals "NoSpun" = some (some (.ref c11))) (t11 : PySem.W.typeIn K (.ref c11) = some (.type "type")) (h11 : PySem.W.hasDictIn K c11 = true) (s11 : PySem.W.subIn K (.ref c10) (.ref c11) = some false)
    (n12 : PySem.W.nsIn K mainGlobals "NoStory" = some (some (.ref c12))) (t12 : PySem.W.typeIn K (.ref c12) = some (.type "type")) (h12 : PySem.W.hasDictIn K c12 = true) (s12 : PySem.W.subIn K (.ref c10) (.ref c12) = some false)
    (n13 : PySem.W.nsIn K mainGlobals "NoStray" = some (some (.ref c13))) (t13 : PySem.W.typeIn K (.ref c13) = some (.type "type")) (h13 : PySem.W.hasDictIn K c13 = true) (s13 : PySem.W.subIn K (.ref c10) (.ref c13) = some false)
    (n14 : PySem.W.nsIn K mainGlobals "NoStrike" = some (some (.ref c14))) (t14 : PySem.W.typeIn K (.ref c14) = some (.type "type")) (h14 : PySem.W.hasDictIn K c14 = true) (s14 : PySem.W.subIn K (.ref c10) (.ref c14) = some false)
    (n15 : PySem.W.nsIn K mainGlobals "NoText" = some (some (.ref c15))) (t15 : PySem.W.typeIn K (.ref c15) = some (.type "type")) (h15 : PySem.W.hasDictIn K c15 = true) (s15 : PySem.W.subIn K (.ref c10) (.ref c15) = some false)
    (n16 : PySem.W.nsIn K mainGlobals "NoThread" = some (some (.ref c16))) (t16 : PySem.W.typeIn K (.ref c16) = some (.type "type")) (h16 : PySem.W.hasDictIn K c16 = true) (s16 : PySem.W.subIn K (.ref c10) (.ref c16) = some false)
    (n17 : PySem.W.nsIn K mainGlobals "NoWait" = some (some (.ref c17))) (t17 : PySem.W.typeIn K (.ref c17) = some (.type "type")) (h17 : PySem.W.hasDictIn K c17 = true) (s17 : PySem.W.subIn K (.ref c10) (.ref c17) = some false)
    (n18 : PySem.W.nsIn K mainGlobals "NoYard" = some (some (.ref c18))) (t18 : PySem.W.typeIn K (.ref c18) = some (.type "type")) (h18 : PySem.W.hasDictIn K c18 = true) (s18 : PySem.W.subIn K (.ref c10) (.ref c18) = some false)
    (n19 : PySem.W.nsIn K mainGlobals "TooMany" = some (some (.ref c19))) (t19 : PySem.W.typeIn K (.ref c19) = some (.type "type")) (h19 : PySem.W.hasDictIn K c19 = true) (s19 : PySem.W.subIn K (.ref c10) (.ref c19) = some false)
    (z0 : PySem.W.nsIn K mainGlobals "len" = some none)
    (z1 : PySem.W.nsIn K mainGlobals "sum" = some none)
    (z2 : PySem.W.nsIn K mainGlobals "abs" = some none)
    (z3 : PySem.W.nsIn K mainGlobals "min" = some none)
    (z4 : PySem.W.nsIn K mainGlobals "max" = some none)
    (z5 : PySem.W.nsIn K mainGlobals "divmod" = some none)
    (z6 : PySem.W.nsIn K mainGlobals "all" = some none)
    (z7 : PySem.W.nsIn K mainGlobals "isinstance" = some none)
    (z8 : PySem.W.nsIn K mainGlobals "tuple" = some none)
    (z9 : PySem.W.nsIn K mainGlobals "int" = some none)
    (z10 : PySem.W.nsIn K mainGlobals "bool" = some none)
    (z11 : PySem.W.nsIn K mainGlobals "range" = some none)
    (z12 : PySem.W.nsIn K mainGlobals "enumerate" = some none)
    (z13 : PySem.W.nsIn K mainGlobals "list" = some none)
    (z14 : PySem.W.nsIn K mainGlobals "str" = some none)
    (z15 : PySem.W.nsIn K mainGlobals "ValueError" = some none)
    (eC : ExcC K c10) (ve : PySem.W.subIn K (.ref c10) (.type "ValueError") = some true) (be : PySem.W.subIn K (.ref c0) (.type "BaseException") = some true)
    (xi : PySem.W.excIn K c10 [.type "ValueError", .type "Exception", .type "BaseException", .type "object"] "ValueError.__new__" = true) (kp : PySem.W.keepIn K (.ref c10) = true) (bx : PySem.W.subIn K (.ref c10) (.type "BaseException") = some true)
    (gR : PySem.W.nsIn K mainGlobals "RULES" = some (some (.ref aR))) (lR : K.lookup aR = some ⟨.type "tuple", dR, .seq #[.str "near" i1, .str "old" i2, .str "sort" i3] nR, xR⟩)
    (gT : PySem.W.nsIn K mainGlobals "MOST_THREADS" = some (some (.int 3 tk1))) (gB : PySem.W.nsIn K mainGlobals "MOST_BEATS" = some (some (.int 3 tk2)))
    (hb : ∀ (s : Shared) (v : Value), BindsTo s d0 ⟨[v], []⟩ [("_law_script", v)]) :
    ∃ (xs : List (Str × Addr × Addr)) (fd : FuncData) (sp : Sp), (∀ p ∈ xs, ((recsOf qq).any fun e => e.name == p.1) = true ∧ PySem.W.tabIn K p.1 = some p.2 ∧ K.lookup p.2.2 = none) ∧
      (∀ (s : Shared) (u : Value), BindsTo s fd ⟨[u], []⟩ [("_law_script", u)]) ∧
      (∀ (H : Hp) (a : Addr) (ns : List Int), ns.length ≤ 63 → (∀ p ∈ xs, H p.2.2 = some (TabE p.2.2)) → SqL K H a (ns.map V.int) → sp [.ref a] H (fun v H' => (∀ p ∈ xs, H' p.2.2 = some (TabE p.2.2)) ∧ v = .bl true) fun _ _ _ => False) ∧
      ∀ base : Heap, K.In base → base.Ns mainGlobals mg → (∀ p ∈ xs, GxR.TabB base mg p.2.1 p.2.2) → FnOk l.prog w K mg base CX0 13 fa fd ["_law_script"] sp := by
  have e := hfa.symm.trans (PySem.W.mg_of X G a0)
  cases e
  have T : Bi mg := ⟨PySem.W.mg_none_of X G z0, PySem.W.mg_none_of X G z1, PySem.W.mg_none_of X G z2, PySem.W.mg_none_of X G z3, PySem.W.mg_none_of X G z4, PySem.W.mg_none_of X G z5, PySem.W.mg_none_of X G z6, PySem.W.mg_none_of X G z7, PySem.W.mg_none_of X G z8, PySem.W.mg_none_of X G z9, PySem.W.mg_none_of X G z10, PySem.W.mg_none_of X G z11, PySem.W.mg_none_of X G z12, PySem.W.mg_none_of X G z13, PySem.W.mg_none_of X G z14, PySem.W.mg_none_of X G z15⟩
  have D0 : Df K mg "law" s_law ["_law_script"] fa d0 := ⟨F0, F0.binds (ps := ["_law_script"]) fun _ _ _ _ _ _ us hl => match us, hl with | [_], _ => rfl, PySem.W.mg_of X G a0⟩
  have D1 : Df K mg "_law_pool" s_law_pool ["_law_script", "_law_k"] f1 d1 := ⟨F1, F1.binds (ps := ["_law_script", "_law_k"]) fun _ _ _ _ _ _ us hl => match us, hl with | [_, _], _ => rfl, PySem.W.mg_of X G a1⟩
  have D2 : Df K mg "_law_take" s_law_take ["_law_pool_here", "_law_many"] f2 d2 := ⟨F2, F2.binds (ps := ["_law_pool_here", "_law_many"]) fun _ _ _ _ _ _ us hl => match us, hl with | [_, _], _ => rfl, PySem.W.mg_of X G a2⟩
  have D3 : Df K mg "_law_small" s_law_small ["_law_pool_here"] f3 d3 := ⟨F3, F3.binds (ps := ["_law_pool_here"]) fun _ _ _ _ _ _ us hl => match us, hl with | [_], _ => rfl, PySem.W.mg_of X G a3⟩
  have D4 : Df K mg "_law_sort" s_law_sort ["_law_e"] f4 d4 := ⟨F4, F4.binds (ps := ["_law_e"]) fun _ _ _ _ _ _ us hl => match us, hl with | [_], _ => rfl, PySem.W.mg_of X G a4⟩
  have D5 : Df K mg "_law_bent" s_law_bent ["_law_pool_here", "_law_thing"] f5 d5 := ⟨F5, F5.binds (ps := ["_law_pool_here", "_law_thing"]) fun _ _ _ _ _ _ us hl => match us, hl with | [_, _], _ => rfl, PySem.W.mg_of X G a5⟩
  have D6 : Df K mg "_law_number" s_law_number ["_law_thing", "_law_low", "_law_high"] f6 d6 := ⟨F6, F6.binds (ps := ["_law_thing", "_law_low", "_law_high"]) fun _ _ _ _ _ _ us hl => match us, hl with | [_, _, _], _ => rfl, PySem.W.mg_of X G a6⟩
  have D7 : Df K mg "_law_are_frames" s_law_are_frames ["_law_thing"] f7 d7 := ⟨F7, F7.binds (ps := ["_law_thing"]) fun _ _ _ _ _ _ us hl => match us, hl with | [_], _ => rfl, PySem.W.mg_of X G a7⟩
  have D8 : Df K mg "_law_are_walks" s_law_are_walks ["_law_thing", "_law_many"] f8 d8 := ⟨F8, F8.binds (ps := ["_law_thing", "_law_many"]) fun _ _ _ _ _ _ us hl => match us, hl with | [_, _], _ => rfl, PySem.W.mg_of X G a8⟩
  have D9 : Df K mg "_law_is_small" s_law_is_small ["_law_thing"] f9 d9 := ⟨F9, F9.binds (ps := ["_law_thing"]) fun _ _ _ _ _ _ us hl => match us, hl with | [_], _ => rfl, PySem.W.mg_of X G a9⟩
  have D10 : Df K mg "_law_asked" s_law_asked ["_law_door", "_law_thing", "_law_story"] f10 d10 := ⟨F10, F10.binds (ps := ["_law_door", "_law_thing", "_law_story"]) fun _ _ _ _ _ _ us hl => match us, hl with | [_, _, _], _ => rfl, PySem.W.mg_of X G a10⟩
  have D11 : Df K mg "_law_right" s_law_right ["_law_thing", "_law_story"] f11 d11 := ⟨F11, F11.binds (ps := ["_law_thing", "_law_story"]) fun _ _ _ _ _ _ us hl => match us, hl with | [_, _], _ => rfl, PySem.W.mg_of X G a11⟩
  have D12 : Df K mg "_law_at_bounds" s_law_at_bounds [] f12 d12 := ⟨F12, F12.binds (ps := []) fun _ _ _ _ _ _ us hl => match us, hl with | [], _ => rfl, PySem.W.mg_of X G a12⟩
  have D13 : Df K mg "is_small" s_is_small ["thing"] f13 d13 := ⟨F13, F13.binds (ps := ["thing"]) fun _ _ _ _ _ _ us hl => match us, hl with | [_], _ => rfl, PySem.W.mg_of X G a13⟩
  have D14 : Df K mg "played" s_played ["small", "story"] f14 d14 := ⟨F14, F14.binds (ps := ["small", "story"]) fun _ _ _ _ _ _ us hl => match us, hl with | [_, _], _ => rfl, PySem.W.mg_of X G a14⟩
  have D15 : Df K mg "worst_story" s_worst_story ["small"] f15 d15 := ⟨F15, F15.binds (ps := ["small"]) fun _ _ _ _ _ _ us hl => match us, hl with | [_], _ => rfl, PySem.W.mg_of X G a15⟩
  have D16 : Df K mg "is_whole" s_is_whole ["thing"] f16 d16 := ⟨F16, F16.binds (ps := ["thing"]) fun _ _ _ _ _ _ us hl => match us, hl with | [_], _ => rfl, PySem.W.mg_of X G a16⟩
  have D17 : Df K mg "is_within" s_is_within ["thing", "low", "high"] f17 d17 := ⟨F17, F17.binds (ps := ["thing", "low", "high"]) fun _ _ _ _ _ _ us hl => match us, hl with | [_, _, _], _ => rfl, PySem.W.mg_of X G a17⟩
  have D18 : Df K mg "is_tuple_of" s_is_tuple_of ["thing", "least", "most"] f18 d18 := ⟨F18, F18.binds (ps := ["thing", "least", "most"]) fun _ _ _ _ _ _ us hl => match us, hl with | [_, _, _], _ => rfl, PySem.W.mg_of X G a18⟩
  have D19 : Df K mg "is_rule" s_is_rule ["thing"] f19 d19 := ⟨F19, F19.binds (ps := ["thing"]) fun _ _ _ _ _ _ us hl => match us, hl with | [_], _ => rfl, PySem.W.mg_of X G a19⟩
  have D20 : Df K mg "is_small_frame" s_is_small_frame ["thing"] f20 d20 := ⟨F20, F20.binds (ps := ["thing"]) fun _ _ _ _ _ _ us hl => match us, hl with | [_], _ => rfl, PySem.W.mg_of X G a20⟩
  have D21 : Df K mg "is_small_yard" s_is_small_yard ["thing"] f21 d21 := ⟨F21, F21.binds (ps := ["thing"]) fun _ _ _ _ _ _ us hl => match us, hl with | [_], _ => rfl, PySem.W.mg_of X G a21⟩
  have D22 : Df K mg "need_small" s_need_small ["thing"] f22 d22 := ⟨F22, F22.binds (ps := ["thing"]) fun _ _ _ _ _ _ us hl => match us, hl with | [_], _ => rfl, PySem.W.mg_of X G a22⟩
  have Y0 : DfC K mg "are_walks" s_are_walks ["thing", "many"] g0 e0 k0 := ⟨G0, G0.fn.binds (ps := ["thing", "many"]) fun _ _ _ _ _ _ us hl => match us, hl with | [_, _], _ => rfl, PySem.W.mg_of X G b0⟩
  have Y1 : DfC K mg "is_walk" s_is_walk ["thing", "at", "many"] g1 e1 k1 := ⟨G1, G1.fn.binds (ps := ["thing", "at", "many"]) fun _ _ _ _ _ _ us hl => match us, hl with | [_, _, _], _ => rfl, PySem.W.mg_of X G b1⟩
  have Y2 : DfC K mg "are_pieces" s_are_pieces ["thing"] g2 e2 k2 := ⟨G2, G2.fn.binds (ps := ["thing"]) fun _ _ _ _ _ _ us hl => match us, hl with | [_], _ => rfl, PySem.W.mg_of X G b2⟩
  have Y3 : DfC K mg "are_small_frames" s_are_small_frames ["thing"] g3 e3 k3 := ⟨G3, G3.fn.binds (ps := ["thing"]) fun _ _ _ _ _ _ us hl => match us, hl with | [_], _ => rfl, PySem.W.mg_of X G b3⟩
  have hC : Ec mg (atC [c0, c1, c2, c3, c4, c5, c6, c7, c8, c9, c10, c11, c12, c13, c14, c15, c16, c17, c18, c19]) := by
    refine ⟨fun n hn => ?_⟩
    simp only [errs, List.mem_cons, List.not_mem_nil, or_false] at hn
    rcases hn with rfl | rfl | rfl | rfl | rfl | rfl | rfl | rfl | rfl | rfl | rfl | rfl | rfl | rfl | rfl | rfl | rfl | rfl | rfl | rfl
    · exact PySem.W.mg_of X G n0
    · exact PySem.W.mg_of X G n1
    · exact PySem.W.mg_of X G n2
    · exact PySem.W.mg_of X G n3
    · exact PySem.W.mg_of X G n4
    · exact PySem.W.mg_of X G n5
    · exact PySem.W.mg_of X G n6
    · exact PySem.W.mg_of X G n7
    · exact PySem.W.mg_of X G n8
    · exact PySem.W.mg_of X G n9
    · exact PySem.W.mg_of X G n10
    · exact PySem.W.mg_of X G n11
    · exact PySem.W.mg_of X G n12
    · exact PySem.W.mg_of X G n13
    · exact PySem.W.mg_of X G n14
    · exact PySem.W.mg_of X G n15
    · exact PySem.W.mg_of X G n16
    · exact PySem.W.mg_of X G n17
    · exact PySem.W.mg_of X G n18
    · exact PySem.W.mg_of X G n19
  have hE : E1 K (atC [c0, c1, c2, c3, c4, c5, c6, c7, c8, c9, c10, c11, c12, c13, c14, c15, c16, c17, c18, c19]) "NoSmall" := by
    refine ⟨eC, fun n hn => ?_, kit_ve ve, PySem.W.exm_ref be h0 t0 s0⟩
    simp only [errs, List.mem_cons, List.not_mem_nil, or_false] at hn
    rcases hn with rfl | rfl | rfl | rfl | rfl | rfl | rfl | rfl | rfl | rfl | rfl | rfl | rfl | rfl | rfl | rfl | rfl | rfl | rfl
    · exact kit_cl t1 h1 s1 s10
    · exact kit_cl t2 h2 s2 s10
    · exact kit_cl t3 h3 s3 s10
    · exact kit_cl t4 h4 s4 s10
    · exact kit_cl t5 h5 s5 s10
    · exact kit_cl t6 h6 s6 s10
    · exact kit_cl t7 h7 s7 s10
    · exact kit_cl t8 h8 s8 s10
    · exact kit_cl t9 h9 s9 s10
    · exact kit_cl t10 h10 s10 s10
    · exact kit_cl t11 h11 s11 s10
    · exact kit_cl t12 h12 s12 s10
    · exact kit_cl t13 h13 s13 s10
    · exact kit_cl t14 h14 s14 s10
    · exact kit_cl t15 h15 s15 s10
    · exact kit_cl t16 h16 s16 s10
    · exact kit_cl t17 h17 s17 s10
    · exact kit_cl t18 h18 s18 s10
    · exact kit_cl t19 h19 s19 s10
  have hR : Rz K mg "NoSmall" c10 := ⟨PySem.W.mg_of X G n10, xi, kp, bx, t10⟩
  have hRul : ∀ H : Hp, SqT K H aR RUL := fun H => .inr ⟨_, _, _, lR, rfl, rfl, (show 3 ≤ sizeLine by decide), .cons ⟨_, rfl⟩ (.cons ⟨_, rfl⟩ (.cons ⟨_, rfl⟩ .nil))⟩
  refine ⟨[("are_walks", k0, p0), ("is_walk", k1, p1), ("are_pieces", k2, p2), ("are_small_frames", k3, p3)], d0, spLaw K [p0, p1, p2, p3], ?_, hb, ?_, fun base _ _ hTB => ?_⟩
  · intro p hp
    simp only [List.mem_cons, List.not_mem_nil, or_false] at hp
    rcases hp with rfl | rfl | rfl | rfl
    · exact ⟨r0, tab_mk b0 G0 q0 u0, l0⟩
    · exact ⟨r1, tab_mk b1 G1 q1 u1, l1⟩
    · exact ⟨r2, tab_mk b2 G2 q2 u2, l2⟩
    · exact ⟨r3, tab_mk b3 G3 q3 u3, l3⟩
  · intro H a ns hl hH hS
    refine ⟨a, ns, rfl, hS, hl, fun P hP => ?_, fun H' hT => ⟨fun p hp => ?_, rfl⟩⟩
    · simp only [List.mem_cons, List.not_mem_nil, or_false] at hP
      rcases hP with hP | hP | hP | hP
      · rw [hP]
        exact hH ("are_walks", k0, p0) (by simp)
      · rw [hP]
        exact hH ("is_walk", k1, p1) (by simp)
      · rw [hP]
        exact hH ("are_pieces", k2, p2) (by simp)
      · rw [hP]
        exact hH ("are_small_frames", k3, p3) (by simp)
    · simp only [List.mem_cons, List.not_mem_nil, or_false] at hp
      rcases hp with rfl | rfl | rfl | rfl
      · exact hT p0 (by simp)
      · exact hT p1 (by simp)
      · exact hT p2 (by simp)
      · exact hT p3 (by simp)
  · have T0 : GxR.TabB base mg k0 p0 := hTB ("are_walks", k0, p0) (by simp)
    have T1 : GxR.TabB base mg k1 p1 := hTB ("is_walk", k1, p1) (by simp)
    have T2 : GxR.TabB base mg k2 p2 := hTB ("are_pieces", k2, p2) (by simp)
    have T3 : GxR.TabB base mg k3 p3 := hTB ("are_small_frames", k3, p3) (by simp)
    have g1 : Pr l.prog w K mg base 1 "is_whole" s_is_whole ["thing"] (spF K [p0, p1, p2, p3] (fn1 isWhole)) := pr_whole T ⟨_, _, D16⟩
    have g2 : Pr l.prog w K mg base 2 "is_within" s_is_within ["thing", "low", "high"] (spF K [p0, p1, p2, p3] (fn3 isWithin)) := pr_within T ⟨_, _, D17⟩ g1
    have g3 : Pr l.prog w K mg base 1 "is_tuple_of" s_is_tuple_of ["thing", "least", "most"] (spF K [p0, p1, p2, p3] (fn3 isTupleOf)) := pr_tuple_of T ⟨_, _, D18⟩
    have g4 : Pr l.prog w K mg base 4 "are_pieces" s_are_pieces ["thing"] (spF K [p0, p1, p2, p3] (fn1 isPieces9)) := pr_pieces T ⟨_, _, _, p2, Y2, T2, by simp⟩ g3 g2
    have g5 : Pr l.prog w K mg base 4 "is_walk" s_is_walk ["thing", "at", "many"] (spF K [p0, p1, p2, p3] fWalk) := pr_walk T ⟨_, _, _, p1, Y1, T1, by simp⟩ g3 g2
    have g6 : Pr l.prog w K mg base 6 "are_walks" s_are_walks ["thing", "many"] (spF K [p0, p1, p2, p3] (fn2 isWalks9)) := pr_walks T ⟨_, _, _, p0, Y0, T0, by simp⟩ g3 g5
    have g7 : Pr l.prog w K mg base 1 "is_rule" s_is_rule ["thing"] (spF K [p0, p1, p2, p3] (fn1 isRule)) := pr_rule T (PySem.W.mg_of X G gR) hRul ⟨_, _, D19⟩
    have g8 : Pr l.prog w K mg base 3 "is_small_frame" s_is_small_frame ["thing"] (spF K [p0, p1, p2, p3] (fn1 smFrame)) := pr_frame T (PySem.W.mg_of X G gT) ⟨_, _, D20⟩ g3 g2
    have g9 : Pr l.prog w K mg base 5 "are_small_frames" s_are_small_frames ["thing"] (spF K [p0, p1, p2, p3] (fn1 smFrames)) := pr_frames T (PySem.W.mg_of X G gT) ⟨_, _, _, p3, Y3, T3, by simp⟩ g3 g8
    have g10 : Pr l.prog w K mg base 7 "is_small_yard" s_is_small_yard ["thing"] (spF K [p0, p1, p2, p3] (fn1 isSmall)) := pr_yard T (PySem.W.mg_of X G gB) ⟨_, _, D21⟩ g3 g2 g9 g6 g4 g7
    have g11 : Pr l.prog w K mg base 8 "is_small" s_is_small ["thing"] (spF K [p0, p1, p2, p3] (fn1 isSmall)) := pr_small ⟨_, _, D13⟩ g10
    obtain ⟨_, _, Dy, Gy⟩ := g10
    obtain ⟨_, _, Ds, Gs⟩ := g11
    have m1 := ok_need T hR D22 Dy Gy
    have m2 := ok_played D14 D22 m1
    have m3 := ok_worst D15 D22 m1
    have m4 := ok_asked (Ps := [p0, p1, p2, p3]) (j := 9) T hC hE D10 D4 D14 m2 D15 m3
    have m5 := ok_right (Ps := [p0, p1, p2, p3]) (j := 9) (by decide) T D11 D9 (ok_is_small T D9 D6 D7 D8) Ds (FnOk.mono Gs (by decide)) D10 m4
    exact ok_law (j := 9) (by decide) T D0 D1 D2 D3 D5 D12 D11 m5
end K34

set_option Elab.async false
set_option linter.all false
set_option maxRecDepth 100000
set_option maxHeartbeats 4000000
open PySem PySem.W PyProof.Rows
set_option maxHeartbeats 0 in
theorem PySem.Challenge.cw_doffyard_k34_what_small_yards_are_holds : PySem.Challenge.rw_doffyard_k34_what_small_yards_are.Holds := by
  w_on; o_law; k_head; (case hw => w_witness2)
  k_fill
  refine GX.walk_ofX (l := PySem.Challenge.rw_doffyard_k34_what_small_yards_are) (n := 63) (k := 13) (x := "_law_script") rfl (by decide) rfl ⟨rfl, by decide, by decide⟩ (fun w h Y => PySem.W.km_in_of Y) ?F
  case F =>
    intro w mg fa h KX G hmg
    refine' K34.all_mk KX G hmg ?a0 (L2.fun_mk ?x0 ?v0 ?w0) ?a1 (L2.fun_mk ?x1 ?v1 ?w1) ?a2 (L2.fun_mk ?x2 ?v2 ?w2) ?a3 (L2.fun_mk ?x3 ?v3 ?w3) ?a4 (L2.fun_mk ?x4 ?v4 ?w4) ?a5 (L2.fun_mk ?x5 ?v5 ?w5) ?a6 (L2.fun_mk ?x6 ?v6 ?w6) ?a7 (L2.fun_mk ?x7 ?v7 ?w7) ?a8 (L2.fun_mk ?x8 ?v8 ?w8) ?a9 (L2.fun_mk ?x9 ?v9 ?w9) ?a10 (L2.fun_mk ?x10 ?v10 ?w10) ?a11 (L2.fun_mk ?x11 ?v11 ?w11) ?a12 (L2.fun_mk ?x12 ?v12 ?w12) ?a13 (L2.fun_mk ?x13 ?v13 ?w13) ?a14 (L2.fun_mk ?x14 ?v14 ?w14) ?a15 (L2.fun_mk ?x15 ?v15 ?w15) ?a16 (L2.fun_mk ?x16 ?v16 ?w16) ?a17 (L2.fun_mk ?x17 ?v17 ?w17) ?a18 (L2.fun_mk ?x18 ?v18 ?w18) ?a19 (L2.fun_mk ?x19 ?v19 ?w19) ?a20 (L2.fun_mk ?x20 ?v20 ?w20) ?a21 (L2.fun_mk ?x21 ?v21 ?w21) ?a22 (L2.fun_mk ?x22 ?v22 ?w22) ?b0 (GX.func_mk ?xx0 ?vv0 ?ww0) ?b1 (GX.func_mk ?xx1 ?vv1 ?ww1) ?b2 (GX.func_mk ?xx2 ?vv2 ?ww2) ?b3 (GX.func_mk ?xx3 ?vv3 ?ww3) ?r0 ?q0 ?u0 ?l0 ?r1 ?q1 ?u1 ?l1 ?r2 ?q2 ?u2 ?l2 ?r3 ?q3 ?u3 ?l3 ?n0 ?t0 ?h0 ?s0 ?n1 ?t1 ?h1 ?s1 ?n2 ?t2 ?h2 ?s2 ?n3 ?t3 ?h3 ?s3 ?n4 ?t4 ?h4 ?s4 ?n5 ?t5 ?h5 ?s5 ?n6 ?t6 ?h6 ?s6 ?n7 ?t7 ?h7 ?s7 ?n8 ?t8 ?h8 ?s8 ?n9 ?t9 ?h9 ?s9 ?n10 ?t10 ?h10 ?s10 ?n11 ?t11 ?h11 ?s11 ?n12 ?t12 ?h12 ?s12 ?n13 ?t13 ?h13 ?s13 ?n14 ?t14 ?h14 ?s14 ?n15 ?t15 ?h15 ?s15 ?n16 ?t16 ?h16 ?s16 ?n17 ?t17 ?h17 ?s17 ?n18 ?t18 ?h18 ?s18 ?n19 ?t19 ?h19 ?s19 ?z0 ?z1 ?z2 ?z3 ?z4 ?z5 ?z6 ?z7 ?z8 ?z9 ?z10 ?z11 ?z12 ?z13 ?z14 ?z15 ⟨?e0, ?e1, ?e2, ?e3, ?e4, ?e5, ?e6, ?e7⟩ ?ve ?be ?xi ?kp ?bx ?gR ?lR ?gT ?gB (fun s v => .of_eq rfl)
    (case a0 => k_is); (case x0 => k_is); (case v0 => k_is); (case w0 => k_is); (case a1 => k_is); (case x1 => k_is); (case v1 => k_is); (case w1 => k_is)
    (case a2 => k_is); (case x2 => k_is); (case v2 => k_is); (case w2 => k_is); (case a3 => k_is); (case x3 => k_is); (case v3 => k_is); (case w3 => k_is)
    (case a4 => k_is); (case x4 => k_is); (case v4 => k_is); (case w4 => k_is); (case a5 => k_is); (case x5 => k_is); (case v5 => k_is); (case w5 => k_is)
    (case a6 => k_is); (case x6 => k_is); (case v6 => k_is); (case w6 => k_is); (case a7 => k_is); (case x7 => k_is); (case v7 => k_is); (case w7 => k_is)
    (case a8 => k_is); (case x8 => k_is); (case v8 => k_is); (case w8 => k_is); (case a9 => k_is); (case x9 => k_is); (case v9 => k_is); (case w9 => k_is)
    (case a10 => k_is); (case x10 => k_is); (case v10 => k_is); (case w10 => k_is); (case a11 => k_is); (case x11 => k_is); (case v11 => k_is); (case w11 => k_is)
    (case a12 => k_is); (case x12 => k_is); (case v12 => k_is); (case w12 => k_is); (case a13 => k_is); (case x13 => k_is); (case v13 => k_is); (case w13 => k_is)
    (case a14 => k_is); (case x14 => k_is); (case v14 => k_is); (case w14 => k_is); (case a15 => k_is); (case x15 => k_is); (case v15 => k_is); (case w15 => k_is)
    (case a16 => k_is); (case x16 => k_is); (case v16 => k_is); (case w16 => k_is); (case a17 => k_is); (case x17 => k_is); (case v17 => k_is); (case w17 => k_is)
    (case a18 => k_is); (case x18 => k_is); (case v18 => k_is); (case w18 => k_is); (case a19 => k_is); (case x19 => k_is); (case v19 => k_is); (case w19 => k_is)
    (case a20 => k_is); (case x20 => k_is); (case v20 => k_is); (case w20 => k_is); (case a21 => k_is); (case x21 => k_is); (case v21 => k_is); (case w21 => k_is)
    (case a22 => k_is); (case x22 => k_is); (case v22 => k_is); (case w22 => k_is); (case b0 => k_is); (case xx0 => k_is); (case vv0 => k_is); (case ww0 => k_is)
    (case b1 => k_is); (case xx1 => k_is); (case vv1 => k_is); (case ww1 => k_is); (case b2 => k_is); (case xx2 => k_is); (case vv2 => k_is); (case ww2 => k_is)
    (case b3 => k_is); (case xx3 => k_is); (case vv3 => k_is); (case ww3 => k_is); (case r0 => decide +kernel); (case q0 => k_is); (case u0 => exact rfl); (case l0 => exact rfl)
    (case r1 => decide +kernel); (case q1 => k_is); (case u1 => exact rfl); (case l1 => exact rfl); (case r2 => decide +kernel); (case q2 => k_is); (case u2 => exact rfl); (case l2 => exact rfl)
    (case r3 => decide +kernel); (case q3 => k_is); (case u3 => exact rfl); (case l3 => exact rfl); (case n0 => k_is); (case n1 => k_is); (case n2 => k_is); (case n3 => k_is)
    (case n4 => k_is); (case n5 => k_is); (case n6 => k_is); (case n7 => k_is); (case n8 => k_is); (case n9 => k_is); (case n10 => k_is); (case n11 => k_is)
    (case n12 => k_is); (case n13 => k_is); (case n14 => k_is); (case n15 => k_is); (case n16 => k_is); (case n17 => k_is); (case n18 => k_is); (case n19 => k_is)
    (case t0 => k_is); (case h0 => k_is); (case s0 => k_is); (case t1 => k_is); (case h1 => k_is); (case s1 => k_is); (case t2 => k_is); (case h2 => k_is)
    (case s2 => k_is); (case t3 => k_is); (case h3 => k_is); (case s3 => k_is); (case t4 => k_is); (case h4 => k_is); (case s4 => k_is); (case t5 => k_is)
    (case h5 => k_is); (case s5 => k_is); (case t6 => k_is); (case h6 => k_is); (case s6 => k_is); (case t7 => k_is); (case h7 => k_is); (case s7 => k_is)
    (case t8 => k_is); (case h8 => k_is); (case s8 => k_is); (case t9 => k_is); (case h9 => k_is); (case s9 => k_is); (case t10 => k_is); (case h10 => k_is)
    (case s10 => k_is); (case t11 => k_is); (case h11 => k_is); (case s11 => k_is); (case t12 => k_is); (case h12 => k_is); (case s12 => k_is); (case t13 => k_is)
    (case h13 => k_is); (case s13 => k_is); (case t14 => k_is); (case h14 => k_is); (case s14 => k_is); (case t15 => k_is); (case h15 => k_is); (case s15 => k_is)
    (case t16 => k_is); (case h16 => k_is); (case s16 => k_is); (case t17 => k_is); (case h17 => k_is); (case s17 => k_is); (case t18 => k_is); (case h18 => k_is)
    (case s18 => k_is); (case t19 => k_is); (case h19 => k_is); (case s19 => k_is); (case z0 => k_is); (case z1 => k_is); (case z2 => k_is); (case z3 => k_is)
    (case z4 => k_is); (case z5 => k_is); (case z6 => k_is); (case z7 => k_is); (case z8 => k_is); (case z9 => k_is); (case z10 => k_is); (case z11 => k_is)
    (case z12 => k_is); (case z13 => k_is); (case z14 => k_is); (case z15 => k_is); (case e0 => k_is); (case e1 => k_is); (case e2 => k_is); (case e3 => k_is)
    (case e4 => k_is); (case e5 => k_is); (case e6 => k_is); (case e7 => k_is); (case ve => k_is); (case be => k_is); (case xi => k_exc); (case kp => k_is)
    (case bx => k_is); (case gR => k_is); (case lR => k_is); (case gT => k_is); (case gB => k_is)

