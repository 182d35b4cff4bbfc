import PyProof.Rows.All
import Wide.All
import OpenK.AllK
import Wide.FinOn
import HandS.ForMost
import HandS.Evl
import HandS.Flow
import HandS.IsInst
import HandS.Zip
import HandS.TupLe
import HandS.TupAny
import HandS.Wide
import HandS.WideBits
import HandS.SortRule
import HandS.Conv
import KE.DataFind
import HandS.Walk
import HandS.AnyAll
import HandS.GenOver
import HandS.EndTab
import KE.GoesMore
import KE.GoesEnum
import HandS.GenList
import PyProof.TupleOfGen
import Wide.Loose
import HandS.Lambda
import KE.KMinKey
import PyProof.WalkInts
import PyProof.MinMaxWalk
import HandS.Exc
import HandS.ExcOwn
import HandS.ExcIs
import HandS.ExcValue
import HandS.WordsExc
import HandS.TryOnly
import HandS.HotCalls
import HandS.Deep
import HandS.TupMul
import HandS.Style
import KE.KRevSl
import KE.KTupSum
import HandS.TupSets
import HandS.Small
import HandS.DictTup
import KE.KDictSum
import KE.KDictCopyH
import PyProof.EqAt
import HandS.SetFor
import PySem.Challenge.RW_doffyard_k42_fewest_doffers
set_option Elab.async false
set_option linter.all false
set_option maxRecDepth 100000
set_option maxHeartbeats 4000000
/-! Values as data: what an expression comes to, told by the datum that the value bears. -/
namespace DL
open PySem PySem.Spec PyProof.Rows L2 Evl

mutual
theorem dp_mono {K : PySem.W.Frag} {H H' : Hp} (e : Ex H H') : ∀ {d : PyData} {v : V}, Dp K H v d → Dp K H' v d
  | .none, _, h => by cases h; exact .non
  | .bool b, _, h => by cases h; exact .bl b
  | .int i, _, h => by cases h; exact .int i
  | .str x, _, h => by cases h; exact .str x
  | .list ds, _, h => by
    cases h with
    | lst hs ha => exact .lst (ex_l e hs) (da_mono e ha)
  | .tuple ds, _, h => by
    cases h with
    | tup hs ha => exact .tup (ex_t e hs) (da_mono e ha)
  | .dict _, _, h => by cases h
theorem da_mono {K : PySem.W.Frag} {H H' : Hp} (e : Ex H H') : ∀ {ds : List PyData} {vs : List V}, DpAll K H vs ds → DpAll K H' vs ds
  | [], _, h => by cases h; exact .nil
  | d :: ds, _, h => by
    cases h with
    | cons h1 h2 => exact .cons (dp_mono e h1) (da_mono e h2)
end
section
variable {K : PySem.W.Frag} {H H' : Hp}
theorem dp_int {v : V} {i : Int} (h : Dp K H v (.int i)) : v = .int i := by cases h; rfl
theorem dp_bool {v : V} {b : Bool} (h : Dp K H v (.bool b)) : v = .bl b := by cases h; rfl
theorem dp_str {v : V} {x : Str} (h : Dp K H v (.str x)) : v = .str x := by cases h; rfl
theorem dp_none {v : V} (h : Dp K H v .none) : v = .non := by cases h; rfl
theorem dp_tup {v : V} {ds : List PyData} (h : Dp K H v (.tuple ds)) : ∃ a xs, v = .ref a ∧ SqT K H a xs ∧ DpAll K H xs ds := by
  cases h with
  | tup hs ha => exact ⟨_, _, rfl, hs, ha⟩
theorem dp_lst {v : V} {ds : List PyData} (h : Dp K H v (.list ds)) : ∃ a xs, v = .ref a ∧ SqL K H a xs ∧ DpAll K H xs ds := by
  cases h with
  | lst hs ha => exact ⟨_, _, rfl, hs, ha⟩
theorem da_len : ∀ {ds : List PyData} {vs : List V}, DpAll K H vs ds → vs.length = ds.length
  | [], _, h => by cases h; rfl
  | d :: ds, _, h => by
    cases h with
    | cons h1 h2 => rw [List.length_cons, List.length_cons, da_len h2]
theorem da_get : ∀ {ds : List PyData} {vs : List V} {i : Nat} {v : V}, DpAll K H vs ds → vs[i]? = some v → ∃ d, ds[i]? = some d ∧ Dp K H v d
  | [], _, i, v, h, e => by cases h; simp at e
  | d :: ds, _, i, v, h, e => by
    cases h with
    | cons h1 h2 =>
      cases i with
      | zero => simp at e; subst e; exact ⟨d, rfl, h1⟩
      | succ i => simp at e; simpa using da_get h2 e
theorem da_at : ∀ {ds : List PyData} {vs : List V} {i : Nat} {d : PyData}, DpAll K H vs ds → ds[i]? = some d → ∃ v, vs[i]? = some v ∧ Dp K H v d
  | [], _, i, v, h, e => by simp at e
  | d :: ds, _, i, v, h, e => by
    cases h with
    | cons h1 h2 =>
      cases i with
      | zero => simp at e; subst e; exact ⟨_, rfl, h1⟩
      | succ i => simp at e; simpa using da_at h2 e
theorem da_snoc : ∀ {ds : List PyData} {vs : List V} {v : V} {d : PyData}, DpAll K H vs ds → Dp K H v d → DpAll K H (vs ++ [v]) (ds ++ [d])
  | [], _, v, d, h, q => by cases h; exact .cons q .nil
  | _ :: ds, _, v, d, h, q => by
    cases h with
    | cons h1 h2 => exact .cons h1 (da_snoc h2 q)
theorem da_ints : ∀ (ns : List Int), DpAll K H (ns.map V.int) (ns.map PyData.int)
  | [] => .nil
  | n :: ns => .cons (.int n) (da_ints ns)
theorem da_ints_inv : ∀ {ns : List Int} {vs : List V}, DpAll K H vs (ns.map PyData.int) → vs = ns.map V.int
  | [], _, h => by cases h; rfl
  | n :: ns, _, h => by
    cases h with
    | cons h1 h2 => rw [dp_int h1, da_ints_inv h2]; rfl
theorem da_bools_inv : ∀ {ns : List Bool} {vs : List V}, DpAll K H vs (ns.map PyData.bool) → vs = ns.map V.bl
  | [], _, h => by cases h; rfl
  | n :: ns, _, h => by
    cases h with
    | cons h1 h2 => rw [dp_bool h1, da_bools_inv h2]; rfl
end

/-! ### what evaluates to which datum -/
def EvD (K : PySem.W.Frag) (te : TE) (σ : L2.St) (H : Hp) (d : PyData) : Prop := ∀ H1, Ex H H1 → ∀ Q : VK, (∀ v H2, Ex H1 H2 → Dp K H2 v d → Q v H2) → te σ H1 Q
def EvDA (K : PySem.W.Frag) (ta : TA) (σ : L2.St) (H : Hp) (ds : List PyData) : Prop := ∀ H1, Ex H H1 → ∀ Q : List V → Hp → Prop, (∀ vs H2, Ex H1 H2 → DpAll K H2 vs ds → Q vs H2) → ta σ H1 Q
/-- a two-place operation, a call, by data -/
def RD (K : PySem.W.Frag) (r : R2) (x y : PyData) (z : PyData) : Prop := ∀ v u H, Dp K H v x → Dp K H u y → ∀ Q : VK, (∀ w H2, Ex H H2 → Dp K H2 w z → Q w H2) → r v u H Q
def RDC (K : PySem.W.Frag) (r : List V → Hp → VK → Prop) (xs : List PyData) (z : PyData) : Prop := ∀ vs H, DpAll K H vs xs → ∀ Q : VK, (∀ w H2, Ex H H2 → Dp K H2 w z → Q w H2) → r vs H Q
section
variable {K : PySem.W.Frag} {σ : L2.St} {H H' : Hp} {ta tb te tx : TE} {t u : TT} {x y z d : PyData} {v : V} {r : R2}
theorem EvD.mono (e : Ex H H') (h : EvD K te σ H d) : EvD K te σ H' d := fun H1 a Q q => h H1 (e.trans a) Q q
theorem ed_of (h : Ev te σ H v) (hd : Dp K H v d) : EvD K te σ H d := fun H1 e Q q => h H1 e Q fun H2 e2 => q v H2 e2 (dp_mono (e.trans e2) hd)
theorem ev_int {i : Int} (h : EvD K te σ H (.int i)) : Ev te σ H (.int i) := fun H1 e Q q => h H1 e Q fun w H2 e2 hw => by rw [dp_int hw]; exact q H2 e2
theorem ev_bool {b : Bool} (h : EvD K te σ H (.bool b)) : Ev te σ H (.bl b) := fun H1 e Q q => h H1 e Q fun w H2 e2 hw => by rw [dp_bool hw]; exact q H2 e2
theorem ed_int {i : Int} (h : Ev te σ H (.int i)) : EvD K te σ H (.int i) := ed_of h (.int i)
theorem ed_bool {b : Bool} (h : Ev te σ H (.bl b)) : EvD K te σ H (.bool b) := ed_of h (.bl b)
theorem ed_var {i : Nat} (h : σ[i]? = some (some v)) (hd : Dp K H v d) : EvD K (tVar i) σ H d := ed_of (ev_var h) hd
theorem ed_ci {i : Int} : EvD K (tC (.int i)) σ H (.int i) := ed_of ev_c (.int i)
theorem ed_cb {b : Bool} : EvD K (tC (.bl b)) σ H (.bool b) := ed_of ev_c (.bl b)
theorem ed_cn : EvD K (tC .non) σ H .none := ed_of ev_c .non
theorem ed_cs {s : Str} : EvD K (tC (.str s)) σ H (.str s) := ed_of ev_c (.str s)
theorem ed_op (ha : EvD K ta σ H x) (hb : EvD K tb σ H y) (hr : RD K r x y z) : EvD K (tOp r ta tb) σ H z := fun H1 e Q q =>
  ha H1 e _ fun v H2 e2 hv => hb H2 (e.trans e2) _ fun w H3 e3 hw => hr v w H3 (dp_mono e3 hv) hw Q fun z' H4 e4 hz => q z' H4 ((e2.trans e3).trans e4) hz
theorem rd_I0 {g : Int → Int → Int} {i j : Int} : RD K (rI0 fun i j => .int (g i j)) (.int i) (.int j) (.int (g i j)) := fun v u H hv hu Q q => ⟨i, j, dp_int hv, dp_int hu, q _ H (Ex.refl H) (.int _)⟩
theorem rd_I {C : Int → Int → Prop} {g : Int → Int → Int} {i j : Int} (hc : C i j) : RD K (rI C fun i j => .int (g i j)) (.int i) (.int j) (.int (g i j)) := fun v u H hv hu Q q => ⟨i, j, dp_int hv, dp_int hu, hc, q _ H (Ex.refl H) (.int _)⟩
theorem rd_B0 {g : Int → Int → Bool} {i j : Int} : RD K (rI0 fun i j => .bl (g i j)) (.int i) (.int j) (.bool (g i j)) := fun v u H hv hu Q q => ⟨i, j, dp_int hv, dp_int hu, q _ H (Ex.refl H) (.bl _)⟩
theorem rd_eqI {i j : Int} : RD K rEq (.int i) (.int j) (.bool (decide (i = j))) := fun v u H hv hu Q q => by
  rw [dp_int hv, dp_int hu]
  refine ⟨rfl, ?_⟩
  have e : decide (V.int i = V.int j) = decide (i = j) := by
    by_cases h : i = j
    · subst h; simp
    · rw [decide_eq_false h, decide_eq_false (fun q => h (V.int.inj q))]
  rw [e]
  exact q _ H (Ex.refl H) (.bl _)
theorem rd_neI {i j : Int} : RD K rNe (.int i) (.int j) (.bool (!decide (i = j))) := fun v u H hv hu Q q => by
  rw [dp_int hv, dp_int hu]
  refine ⟨rfl, ?_⟩
  have e : decide (V.int i = V.int j) = decide (i = j) := by
    by_cases h : i = j
    · subst h; simp
    · rw [decide_eq_false h, decide_eq_false (fun q => h (V.int.inj q))]
  rw [e]
  exact q _ H (Ex.refl H) (.bl _)
theorem rd_eqD (hx : SeqAt.shaped x = true) (hy : SeqAt.shaped y = true) : RD K (rEqD K) x y (.bool (PyData.eqv x y)) := fun v u H hv hu Q q => ⟨x, y, hv, hu, hx, hy, q _ H (Ex.refl H) (.bl _)⟩
theorem rd_neD (hx : SeqAt.shaped x = true) (hy : SeqAt.shaped y = true) : RD K (rNeD K) x y (.bool (!PyData.eqv x y)) := fun v u H hv hu Q q => ⟨x, y, hv, hu, hx, hy, q _ H (Ex.refl H) (.bl _)⟩
theorem rd_ixT {ds : List PyData} {i : Int} {k : Nat} (hk : ixN ds.length i = some k) (h : ds[k]? = some d) : RD K (rIxT K) (.tuple ds) (.int i) d := fun v u H hv hu Q q => by
  obtain ⟨a, xs, rfl, hs, ha⟩ := dp_tup hv
  obtain ⟨w, hw, hd⟩ := da_at ha h
  refine ⟨a, xs, i, w, rfl, dp_int hu, hs, ?_, q w H (Ex.refl H) hd⟩
  unfold atI
  rw [da_len ha, hk]
  exact hw
theorem rd_ixL {ds : List PyData} {i : Int} {k : Nat} (hk : ixN ds.length i = some k) (h : ds[k]? = some d) : RD K (rIxL K) (.list ds) (.int i) d := fun v u H hv hu Q q => by
  obtain ⟨a, xs, rfl, hs, ha⟩ := dp_lst hv
  obtain ⟨w, hw, hd⟩ := da_at ha h
  refine ⟨a, xs, i, w, rfl, dp_int hu, hs, ?_, q w H (Ex.refl H) hd⟩
  unfold atI
  rw [da_len ha, hk]
  exact hw
theorem eda_nil : EvDA K tNil σ H [] := fun H1 _ _ q => q [] H1 (Ex.refl H1) .nil
theorem eda_cons {tr : TA} {ds : List PyData} (h : EvD K ta σ H x) (hr : EvDA K tr σ H ds) : EvDA K (tCons ta tr) σ H (x :: ds) := fun H1 e _ q =>
  h H1 e _ fun v H2 e2 hv => hr H2 (e.trans e2) _ fun vs H3 e3 hvs => q (v :: vs) H3 (e2.trans e3) (.cons (dp_mono e3 hv) hvs)
theorem ed_tup {ta : TA} {ds : List PyData} (h : EvDA K ta σ H ds) (hl : ds.length ≤ 100000) : EvD K (tTup ta) σ H (.tuple ds) := fun H1 e _ q =>
  h H1 e _ fun vs H2 e2 hv => ⟨by rw [da_len hv]; exact sz_of hl, fun p hp => q (.ref p) _ (e2.trans (Ex.new hp)) (.tup (st_of upd_same) (da_mono (Ex.new hp) hv))⟩
theorem ed_lst {ta : TA} {ds : List PyData} (h : EvDA K ta σ H ds) (hl : ds.length ≤ 100000) : EvD K (tLst ta) σ H (.list ds) := fun H1 e _ q =>
  h H1 e _ fun vs H2 e2 hv => ⟨by rw [da_len hv]; exact sz_of hl, fun p hp => q (.ref p) _ (e2.trans (Ex.new hp)) (.lst (sq_of upd_same) (da_mono (Ex.new hp) hv))⟩
theorem ed_cbt {r : List V → Hp → VK → Prop} {ta : TA} {ds : List PyData} (h : EvDA K ta σ H ds) (hr : RDC K r ds z) : EvD K (tCB r ta) σ H z := fun H1 e Q q =>
  h H1 e _ fun vs H2 e2 hv => hr vs H2 hv Q fun w H3 e3 hw => q w H3 (e2.trans e3) hw
theorem ed_and {a b : Bool} (h1 : EvD K ta σ H (.bool a)) (h2 : a = true → EvD K tb σ H (.bool b)) : EvD K (tAndV ta tb) σ H (.bool (a && b)) := ed_bool (ev_andV (ev_bool h1) fun e => ev_bool (h2 e))
theorem ed_or {a b : Bool} (h1 : EvD K ta σ H (.bool a)) (h2 : a = false → EvD K tb σ H (.bool b)) : EvD K (tOrV ta tb) σ H (.bool (a || b)) := ed_bool (ev_orV (ev_bool h1) fun e => ev_bool (h2 e))
theorem ed_not {a : Bool} (h1 : EvD K ta σ H (.bool a)) : EvD K (tNotV ta) σ H (.bool (!a)) := ed_bool (ev_notV (ev_bool h1))
theorem et_D {b : Bool} (h : EvD K te σ H (.bool b)) : EvT (tTest te) σ H b := et_test (ev_bool h)
theorem et_DB {b : Bool} (h : EvD K te σ H (.bool b)) : EvT (tB te) σ H b := et_B (ev_bool h)
theorem ed_is {d' : PyData} (h : EvD K te σ H d) (e : d = d') : EvD K te σ H d' := by rw [← e]; exact h
/-- a < b < c -/
theorem ed_chain {r r' : R2} {tc : TE} {w : PyData} {a b : Bool} (ha : EvD K ta σ H x) (hb : EvD K tb σ H y) (hc : a = true → EvD K tc σ H w) (h1 : RD K r x y (.bool a)) (h2 : RD K r' y w (.bool b)) : EvD K (tChain r r' ta tb tc) σ H (.bool (a && b)) := fun H1 e Q q =>
  ha H1 e _ fun v H2 e2 hv => hb H2 (e.trans e2) _ fun u H3 e3 hu => h1 v u H3 (dp_mono e3 hv) hu _ fun z H4 e4 hz => ⟨a, dp_bool hz, by
    cases a with
    | true =>
      show tc σ H4 _
      exact hc rfl H4 (((e.trans e2).trans e3).trans e4) _ fun w' H5 e5 hw => h2 u w' H5 (dp_mono (e4.trans e5) hu) hw Q fun z' H6 e6 hz' => q z' H6 ((((e2.trans e3).trans e4).trans e5).trans e6) hz'
    | false =>
      show Q (.bl false) H4
      exact q _ H4 ((e2.trans e3).trans e4) (.bl false)⟩
end

/-! ### promises -/
/-- a def that makes of data ds a datum d, as R says, and leaves all that stood -/
def spR (K : PySem.W.Frag) (R : List PyData → PyData → Prop) : Sp := fun vs H Q _ => ∃ ds d, DpAll K H vs ds ∧ R ds d ∧ ∀ v H', Ex H H' → Dp K H' v d → Q v H'
section
variable {K : PySem.W.Frag} {σ : L2.St} {H H' : Hp} {ta tb te tx : TE} {d : PyData}
theorem ed_call {R : List PyData → PyData → Prop} {E : XK} {ta : TA} {ds : List PyData} (h : EvDA K ta σ H ds) (hr : R ds d) : EvD K (tCall (spR K R) [] E ta) σ H d := fun H1 e Q q =>
  h H1 e _ fun vs H2 e2 hv => ⟨ds, d, by rw [List.append_nil]; exact hv, hr, fun w H3 e3 hw => q w H3 (e2.trans e3) hw⟩
/-! ### statements -/
variable {D : Ends} {tu tw tz : TS} {g : TG} {t : TT}
theorem sd_ret {v : V} (h : EvD K te σ H d) (k : ∀ v H1, Ex H H1 → Dp K H1 v d → D.rt v H1) : tRet te D σ H := h H (Ex.refl H) _ fun v H1 e hv => k v H1 e hv
theorem qd_asg {i : Nat} (h : EvD K te σ H d) (k : ∀ v H1, Ex H H1 → Dp K H1 v d → tz D (σ.set i (some v)) H1) : tSeq (tAsg te (gName i)) tz D σ H := h H (Ex.refl H) _ fun v H1 e hv => k v H1 e hv
end
end DL

set_option Elab.async false
set_option linter.all false
set_option maxRecDepth 100000
set_option maxHeartbeats 4000000
/-! Data without lists stay under stores to lists; comprehensions and built-in calls by data. -/
namespace DL
open PySem PySem.Spec PyProof.Rows L2 Evl

/-! ### tuples stay -/
def ExT (H H' : Hp) : Prop := ∀ a xs, Rd H a (.tup xs) → Rd H' a (.tup xs)
theorem ExT.refl (H : Hp) : ExT H H := fun _ _ h => h
theorem ExT.trans {H H1 H2 : Hp} (a : ExT H H1) (b : ExT H1 H2) : ExT H H2 := fun x o h => b x o (a x o h)
theorem ext_of {H H' : Hp} (e : Ex H H') : ExT H H' := fun a xs h => ex_rd e h
theorem ext_upd {H : Hp} {a : Addr} {xs ys : List V} (h : H a = some (.lst xs)) : ExT H (upd H a (.lst ys)) := fun b zs r => by
  have hb : b ≠ a := fun z => by
    subst z
    rcases r with r | ⟨o, r⟩
    · rw [h] at r; cases r
    · rw [h] at r; cases r
  rcases r with r | ⟨o, r⟩
  · exact .inl (by rw [upd_ne hb]; exact r)
  · exact .inr ⟨o, by rw [upd_ne hb]; exact r⟩
theorem ext_sq {K : PySem.W.Frag} {H H' : Hp} {a : Addr} {xs : List V} (e : ExT H H') (h : SqT K H a xs) : SqT K H' a xs := by
  rcases h with h | h
  · exact .inl (e a xs h)
  · exact .inr h
mutual
/-- no list and no dict in it -/
def noL : PyData → Bool
  | .none => true
  | .bool _ => true
  | .int _ => true
  | .str _ => true
  | .list _ => false
  | .tuple ds => noLs ds
  | .dict _ => false
def noLs : List PyData → Bool
  | [] => true
  | d :: ds => noL d && noLs ds
end
mutual
theorem dp_monoT {K : PySem.W.Frag} {H H' : Hp} (e : ExT H H') : ∀ {d : PyData} {v : V}, noL d = true → Dp K H v d → Dp K H' v d
  | .none, _, _, h => by cases h; exact .non
  | .bool b, _, _, h => by cases h; exact .bl b
  | .int i, _, _, h => by cases h; exact .int i
  | .str x, _, _, h => by cases h; exact .str x
  | .list ds, _, n, h => nomatch n
  | .tuple ds, _, n, h => by
    cases h with
    | tup hs ha => exact .tup (ext_sq e hs) (da_monoT e n ha)
  | .dict _, _, _, h => by cases h
theorem da_monoT {K : PySem.W.Frag} {H H' : Hp} (e : ExT H H') : ∀ {ds : List PyData} {vs : List V}, noLs ds = true → DpAll K H vs ds → DpAll K H' vs ds
  | [], _, _, h => by cases h; exact .nil
  | d :: ds, _, n, h => by
    have n' : noL d = true ∧ noLs ds = true := by simpa [noLs] using n
    cases h with
    | cons h1 h2 => exact .cons (dp_monoT e n'.1 h1) (da_monoT e n'.2 h2)
end
theorem noLs_snoc : ∀ {ds : List PyData} {d : PyData}, noLs ds = true → noL d = true → noLs (ds ++ [d]) = true
  | [], d, _, h => by simp [noLs, h]
  | x :: xs, d, n, h => by
    have n' : noL x = true ∧ noLs xs = true := by simpa [noLs] using n
    show noLs (x :: (xs ++ [d])) = true
    simp [noLs, n'.1, noLs_snoc n'.2 h]
theorem noLs_map {α : Type} {f : α → PyData} : ∀ (l : List α), (∀ x ∈ l, noL (f x) = true) → noLs (l.map f) = true
  | [], _ => rfl
  | x :: xs, h => by
    show (noL (f x) && noLs (xs.map f)) = true
    rw [h x (by simp), noLs_map xs fun y hy => h y (by simp [hy])]; rfl
theorem noL_at : ∀ {ds : List PyData} {i : Nat} {d : PyData}, noLs ds = true → ds[i]? = some d → noL d = true
  | [], i, d, _, e => by simp at e
  | x :: xs, 0, d, n, e => by
    have n' : noL x = true ∧ noLs xs = true := by simpa [noLs] using n
    simp at e; subst e; exact n'.1
  | x :: xs, i + 1, d, n, e => by
    have n' : noL x = true ∧ noLs xs = true := by simpa [noLs] using n
    exact noL_at n'.2 (by simpa using e)

/-! ### what is walked -/
def WkD (K : PySem.W.Frag) (J : It) (H : Hp) (ds : List PyData) : Prop := ∃ (G : Hp → Prop) (Y : Nat → Hp → V → Hp → Prop), Walk J ds.length G Y ∧ (∀ H1, Ex H H1 → G H1) ∧
  ∀ i H1 x H2, Ex H H1 → Y i H1 x H2 → Ex H1 H2 ∧ ∃ d, ds[i]? = some d ∧ Dp K H2 x d
def EvW (K : PySem.W.Frag) (wi : TI) (σ : L2.St) (H : Hp) (ds : List PyData) : Prop := ∀ H1, Ex H H1 → ∀ R : It → Hp → Prop, (∀ J H2, Ex H1 H2 → WkD K J H2 ds → R J H2) → wi σ H1 R
section
variable {K : PySem.W.Frag} {σ : L2.St} {H : Hp} {ta tb te tl : TE} {ds es : List PyData}
theorem ew_tup (h : EvD K tl σ H (.tuple ds)) : EvW K (iTup K tl) σ H ds := fun H1 e R q => h H1 e _ fun v H2 e2 hv => by
  obtain ⟨a, xs, rfl, hs, ha⟩ := dp_tup hv
  refine ⟨a, rfl, ⟨xs, hs⟩, q _ H2 e2 ⟨fun H3 => SqT K H3 a xs, YAt xs, by rw [← da_len ha]; exact walk_tup (xs := xs), fun H3 e3 => ex_t e3 hs, fun i H3 x H4 e3 y => ?_⟩⟩
  obtain ⟨rfl, hx⟩ := y
  exact ⟨Ex.refl _, da_get (da_mono e3 ha) hx⟩
theorem ew_lst (h : EvD K tl σ H (.list ds)) : EvW K (iList K tl) σ H ds := fun H1 e R q => h H1 e _ fun v H2 e2 hv => by
  obtain ⟨a, xs, rfl, hs, ha⟩ := dp_lst hv
  refine ⟨a, rfl, ⟨xs, hs⟩, q _ H2 e2 ⟨fun H3 => SqL K H3 a xs, YAt xs, by rw [← da_len ha]; exact walk_list (xs := xs), fun H3 e3 => ex_l e3 hs, fun i H3 x H4 e3 y => ?_⟩⟩
  obtain ⟨rfl, hx⟩ := y
  exact ⟨Ex.refl _, da_get (da_mono e3 ha) hx⟩
theorem ew_rng1 {ta : TA} {n : Int} (h : EvDA K ta σ H [.int n]) (hn : -(2 ^ 62) ≤ n ∧ n < 2 ^ 62) : EvW K (iRng1 ta) σ H ((List.range n.toNat).map fun (i : Nat) => PyData.int (i : Int)) := fun H1 e R q => h H1 e _ fun vs H2 e2 hv => by
  have ev : vs = [.int n] := da_ints_inv (ns := [n]) hv
  refine ⟨n, ev, hn.1, hn.2, q _ H2 e2 ⟨fun _ => True, fun i H x H' => H' = H ∧ x = .int ((0 : Int) + (i : Nat)) ∧ i < n.toNat, by
    rw [List.length_map, List.length_range]
    exact ⟨fun _ _ hi _ => hi, fun _ _ => Nat.le_refl _, fun _ _ _ _ hi _ y => ⟨y.1, y.2, hi⟩⟩, fun H3 _ => trivial, fun i H3 x H4 e3 y => ?_⟩⟩
  obtain ⟨rfl, rfl, hi⟩ := y
  refine ⟨Ex.refl _, .int ((i : Nat) : Int), ?_, ?_⟩
  · rw [List.getElem?_map, List.getElem?_range hi]; rfl
  · rw [Int.zero_add]; exact .int _
theorem ew_zipT {ds es : List PyData} (ha : EvD K ta σ H (.tuple ds)) (hb : EvD K tb σ H (.tuple es)) : EvW K (RZ.iZipA K (tCons ta (tCons tb tNil))) σ H ((ds.zip es).map fun p => PyData.tuple [p.1, p.2]) := fun H1 e R q =>
  ha H1 e _ fun v H2 e2 hv => hb H2 (e.trans e2) _ fun u H3 e3 hu => by
    obtain ⟨a, xs, rfl, hs, hx⟩ := dp_tup (dp_mono e3 hv)
    obtain ⟨b, ys, rfl, ht, hy⟩ := dp_tup hu
    refine ⟨a, b, xs, ys, rfl, .inr ⟨hs, ht, q _ H3 (e2.trans e3) ?_⟩⟩
    have hn : ((ds.zip es).map fun p => PyData.tuple [p.1, p.2]).length = min xs.length ys.length := by rw [List.length_map, List.length_zip, da_len hx, da_len hy]
    refine ⟨fun H4 => SqT K H4 a xs ∧ SqT K H4 b ys, YPair (fun i => xs[i]?) (fun i => ys[i]?), ?_, fun H4 e4 => ⟨ex_t e4 hs, ex_t e4 ht⟩, fun i H4 x H5 e4 y => ?_⟩
    · rw [hn]
      refine ⟨fun i _ hi q => ?_, fun _ q => ⟨xs, ys, q.1, q.2, by omega⟩, fun i H v H' _ q y => ?_⟩
      · have h1 : i < xs.length := by omega
        have h2 : i < ys.length := by omega
        exact ⟨xs, ys, xs[i], ys[i], q.1, q.2, by simp [h1], by simp [h2]⟩
      · obtain ⟨T, x, z, h1, h2, h3, h4, h5⟩ := y
        exact ⟨T, x, z, h1, h2, h3, h4 xs q.1, h5 ys q.2⟩
    · obtain ⟨T, x1, y1, rfl, hT, rfl, h1, h2⟩ := y
      obtain ⟨d1, g1, p1⟩ := da_get (da_mono e4 hx) h1
      obtain ⟨d2, g2, p2⟩ := da_get (da_mono e4 hy) h2
      refine ⟨Ex.new hT, .tuple [d1, d2], ?_, .tup (st_of upd_same) (.cons (dp_mono (Ex.new hT) p1) (.cons (dp_mono (Ex.new hT) p2) .nil))⟩
      have gz : (ds.zip es)[i]? = some (d1, d2) := List.getElem?_zip_eq_some.mpr ⟨g1, g2⟩
      rw [List.getElem?_map, gz]
      rfl
end
/-! ### targets -/
def TgD (g : TG) (x : V) (σ : L2.St) (H : Hp) (σ2 : L2.St) : Prop := ∀ H1, Ex H H1 → ∀ Q : L2.St → Hp → Prop, Q σ2 H1 → g x σ H1 Q
theorem tg_name {i : Nat} {x : V} {σ : L2.St} {H : Hp} : TgD (gName i) x σ H (σ.set i (some x)) := fun H1 _ Q q => q
theorem tg_pair {K : PySem.W.Frag} {i j : Nat} {a : Addr} {x y : V} {σ : L2.St} {H : Hp} (h : SqT K H a [x, y]) : TgD (gTup K 2 (gCons (gName i) (gCons (gName j) gNil))) (.ref a) σ H ((σ.set i (some x)).set j (some y)) :=
  fun H1 e Q q => ⟨a, [x, y], rfl, ex_t e h, rfl, x, [y], rfl, y, [], rfl, rfl, q⟩
/-! ### comprehensions -/
section
variable {K : PySem.W.Frag} {σ : L2.St} {H : Hp} {te : TE} {tt : TT} {wi : TI} {g : TG}
theorem ed_lc {vs : List Nat} {ds : List PyData} (f : PyData → Bool) (h : PyData → PyData) (hw : EvW K wi σ H ds) (hz : ds.length ≤ 40000)
    (hs : ∀ (i : Nat) (d : PyData) (x : V) (H1 : Hp), Ex H H1 → ds[i]? = some d → Dp K H1 x d → ∃ σ2, TgD g x (wipe σ vs) H1 σ2 ∧ wipe σ2 vs = wipe σ vs ∧ EvT tt σ2 H1 (f d) ∧ (f d = true → noL (h d) = true ∧ EvD K te σ2 H1 (h d))) :
    EvD K (tLc wi g tt te vs) σ H (.list ((ds.filter f).map h)) := fun H0 e0 Q q => hw H0 e0 _ fun J H1 e1 wk Dl hD => by
  obtain ⟨G, Y, wlk, hG, hY⟩ := wk
  refine lc_it (σ := σ) wlk (fun i H' => Ex H1 H' ∧ noLs (((ds.take i).filter f).map h) = true ∧ ∃ xs, H' Dl = some (.lst xs) ∧ xs.length ≤ i ∧ DpAll K H' xs (((ds.take i).filter f).map h))
    ⟨Ex.new hD, rfl, [], upd_same, Nat.le_refl _, .nil⟩ (fun i H' _ p => hG H' p.1) (fun i x H2 H3 hi p y => ?_) (fun H' p => ?_)
  · obtain ⟨ex, hn, xs, hx, hl, ha⟩ := p
    obtain ⟨ey, d, hd, hdp⟩ := hY i H2 x H3 ex y
    obtain ⟨σ2, tg, hwp, ht, he⟩ := hs i d x H3 ((e0.trans e1).trans (ex.trans ey)) hd hdp
    refine tg H3 (Ex.refl H3) _ ⟨hwp, ht H3 (Ex.refl H3) _ fun H4 e4 => ?_⟩
    have tk : ds.take (i + 1) = ds.take i ++ [d] := by rw [List.take_add_one, hd]; rfl
    cases hf : f d with
    | true =>
      show te σ2 H4 _
      obtain ⟨hno, hev⟩ := he hf
      refine hev H4 e4 _ fun v H5 e5 hv => ?_
      have xD : H5 Dl = some (.lst xs) := e5 _ _ (e4 _ _ (ey _ _ hx))
      refine ⟨xs, xD, sz_lt (by omega), Ex.mut ((ex.trans ey).trans (e4.trans e5)) hD, ?_, xs ++ [v], upd_same, by rw [List.length_append]; show xs.length + 1 ≤ i + 1; omega, ?_⟩
      · rw [tk, List.filter_append, List.map_append, show [d].filter f = [d] by simp [hf]]
        exact noLs_snoc hn hno
      · rw [tk, List.filter_append, List.map_append, show [d].filter f = [d] by simp [hf]]
        exact da_monoT (ext_upd xD) (noLs_snoc hn hno) (da_snoc (da_mono (ey.trans (e4.trans e5)) ha) hv)
    | false =>
      show Ex H1 H4 ∧ _
      rw [tk, List.filter_append, List.map_append, show [d].filter f = [] by simp [hf]]
      refine ⟨(ex.trans ey).trans e4, by simpa using hn, xs, e4 _ _ (ey _ _ hx), by omega, ?_⟩
      simpa using da_mono (ey.trans e4) ha
  · obtain ⟨ex, hn, xs, hx, hl, ha⟩ := p
    rw [List.take_of_length_le (Nat.le_refl _)] at ha
    exact q (.ref Dl) H' (e1.trans ex) (.lst (sq_of hx) ha)
/-- without a test -/
theorem ed_lc0 {vs : List Nat} {ds : List PyData} (h : PyData → PyData) (hw : EvW K wi σ H ds) (hz : ds.length ≤ 40000)
    (hs : ∀ (i : Nat) (d : PyData) (x : V) (H1 : Hp), Ex H H1 → ds[i]? = some d → Dp K H1 x d → ∃ σ2, TgD g x (wipe σ vs) H1 σ2 ∧ wipe σ2 vs = wipe σ vs ∧ noL (h d) = true ∧ EvD K te σ2 H1 (h d)) :
    EvD K (tLc wi g tYes te vs) σ H (.list (ds.map h)) := by
  have z := ed_lc (te := te) (g := g) (tt := tYes) (vs := vs) (fun _ => true) h hw hz fun i d x H1 e hd hx => by
    obtain ⟨σ2, a, b, c, d⟩ := hs i d x H1 e hd hx
    exact ⟨σ2, a, b, fun H2 _ Q q => q H2 (Ex.refl H2), fun _ => ⟨c, d⟩⟩
  rwa [List.filter_eq_self.mpr (fun _ _ => rfl)] at z
end
/-! ### built-in calls by data -/
section
variable {K : PySem.W.Frag} {ds : List PyData}
theorem rdc_all {bs : List Bool} : RDC K (rAll K) [.list (bs.map .bool)] (.bool (bs.all id)) := fun vs H hv Q q => by
  cases hv with
  | cons h1 h2 =>
    cases h2
    obtain ⟨a, xs, rfl, hs, ha⟩ := dp_lst h1
    rw [da_bools_inv ha] at hs
    exact ⟨a, bs, rfl, hs, q _ H (Ex.refl H) (.bl _)⟩
theorem rdc_lenT : RDC K (fun xs H Q => ∃ p ys, xs = [.ref p] ∧ (SqL K H p ys ∨ SqT K H p ys) ∧ Q (.int ys.length) H) [.tuple ds] (.int ds.length) := fun vs H hv Q q => by
  cases hv with
  | cons h1 h2 =>
    cases h2
    obtain ⟨a, xs, rfl, hs, ha⟩ := dp_tup h1
    exact ⟨a, xs, rfl, .inr hs, by rw [da_len ha]; exact q _ H (Ex.refl H) (.int _)⟩
theorem rdc_lenL : RDC K (fun xs H Q => ∃ p ys, xs = [.ref p] ∧ (SqL K H p ys ∨ SqT K H p ys) ∧ Q (.int ys.length) H) [.list ds] (.int ds.length) := fun vs H hv Q q => by
  cases hv with
  | cons h1 h2 =>
    cases h2
    obtain ⟨a, xs, rfl, hs, ha⟩ := dp_lst h1
    exact ⟨a, xs, rfl, .inl hs, by rw [da_len ha]; exact q _ H (Ex.refl H) (.int _)⟩
theorem rdc_tupL : RDC K (fun xs H Q => ∃ p ys, xs = [.ref p] ∧ ((SqL K H p ys ∧ ∀ l, H l = none → Q (.ref l) (upd H l (.tup ys))) ∨ (SqT K H p ys ∧ Q (.ref p) H))) [.list ds] (.tuple ds) := fun vs H hv Q q => by
  cases hv with
  | cons h1 h2 =>
    cases h2
    obtain ⟨a, xs, rfl, hs, ha⟩ := dp_lst h1
    exact ⟨a, xs, rfl, .inl ⟨hs, fun l hl => q _ _ (Ex.new hl) (.tup (st_of upd_same) (da_mono (Ex.new hl) ha))⟩⟩
theorem rdc_min2 {i j : Int} : RDC K (fun xs H Q => ∃ i j, xs = [.int i, .int j] ∧ Q (.int (if j < i then j else i)) H) [.int i, .int j] (.int (min i j)) := fun vs H hv Q q => by
  refine ⟨i, j, da_ints_inv (ns := [i, j]) hv, ?_⟩
  have e : (if j < i then j else i) = min i j := by rw [Int.min_def]; split <;> split <;> omega
  rw [e]
  exact q _ H (Ex.refl H) (.int _)
theorem rdc_max2 {i j : Int} : RDC K (fun xs H Q => ∃ i j, xs = [.int i, .int j] ∧ Q (.int (if j > i then j else i)) H) [.int i, .int j] (.int (max i j)) := fun vs H hv Q q => by
  refine ⟨i, j, da_ints_inv (ns := [i, j]) hv, ?_⟩
  have e : (if j > i then j else i) = max i j := by rw [Int.max_def]; split <;> split <;> omega
  rw [e]
  exact q _ H (Ex.refl H) (.int _)
end
end DL

set_option Elab.async false
set_option linter.all false
set_option maxRecDepth 100000
set_option maxHeartbeats 4000000
/-! A tuple whose very object is known (no dict of its own): its methods. -/
namespace DL
open PySem PySem.Spec PyProof.Rows L2 Evl

/-- a tuple that is known to the object -/
def FrzT (H : Hp) (x : V) : Prop := ∃ (a : Addr) (o : Obj) (xs : List V), x = .ref a ∧ H a = some (.frz o (.tup xs)) ∧ o.dict = none
theorem FrzT.ex {H H' : Hp} {x : V} (e : Ex H H') (h : FrzT H x) : FrzT H' x := by
  obtain ⟨a, o, xs, h1, h2, h3⟩ := h
  exact ⟨a, o, xs, h1, e _ _ h2, h3⟩
section
variable {X : Cx} {o e : Expr} {es : List Expr} {to : TE} {t : TA} {name : Str} {apos cpos : Pos} {id : String} {r : V → List V → Hp → VK → Prop}
theorem frz_is {pins : List (Addr × Obj)} {σ : L2.St} {H : Hp} {s : Shared} {x : V} {v : Value} (I : Inv X pins σ H s) (rx : RelV x v) (h : FrzT H x) : s.TypeIs v "tuple" ∧ ∀ a, v = .ref a → ∃ ob, s.heap.get? a = some ob ∧ ob.dict = none := by
  obtain ⟨a, o, xs, rfl, ha, hd⟩ := h
  cases rx
  obtain ⟨g, _, its, _, ob, h1, h2, _⟩ := (show ObjOk X.prog X.w H s.heap a (.frz o (.tup xs)) from I.hok a _ ha)
  refine ⟨⟨ob, h1, h2⟩, fun b e => ?_⟩
  cases e
  exact ⟨o, g, hd⟩
def tBMT (r : V → List V → Hp → VK → Prop) (to : TE) (t : TA) : TE := fun σ H Q => to σ H fun x H1 => FrzT H1 x ∧ t σ H1 fun xs H2 => r x xs H2 Q
theorem pe_bmT (pa : PlainAttrs "tuple") (slot : Slot "tuple" name id) (hty : typeOf (.builtin id) = pure (.type "method_descriptor")) (hm : MtR X id r) (ho : PE X o to) (ha : PA X (e :: es) t)
    (hbase : attributeBase o name X.env (eval o X.env) = eval o X.env := by rfl)
    (hfew : ((backTo cpos (starEach (e :: es) X.env)).all (fun x => !x.1) && (backToKw cpos (keywordEach [] X.env)).all (fun x => x.1.isSome)
      && decide ((e :: es).length + ([] : List Keyword).length + (if ([] : List Keyword).isEmpty then 0 else 1) < 30)) = true := by rfl)
    (hline : (apos.endLine == cpos.line) = true := by rfl) (hs : starEach (e :: es) X.env = (false, eval e X.env) :: starEach es X.env := by rfl) (hplain : (backTo cpos (starEach es X.env)).any (·.1) = false := by rfl) :
    PE X (.Call (.Attribute o name apos) (e :: es) [] cpos) (tBMT r to t) := by
  refine ⟨fun pins s σ H Q I h => ?_⟩
  refine wpAny_Call_method_late hbase hfew hline rfl (thn (ho.run pins s σ H _ I h) fun v s1 ⟨x, H1, I1, r1, ty, q1⟩ => ?_)
  obtain ⟨h1, h2⟩ := frz_is I1 r1 ty
  refine ⟨"tuple", id, pa, slot, hty, h1, h2, ?_⟩
  have hA := ha.run cpos pins s1 σ H1 _ I1 q1
  rw [hs] at hA ⊢
  refine Calls.callWith_builtin (by show (false || (backTo cpos (starEach es X.env)).any (·.1)) = false; rw [hplain] <;> rfl) (Calls.evalArgs_plain ?_)
  exact thn hA fun us s2 ⟨vs, H2, I2, r2, q2⟩ => hm pins s2 σ H2 x vs v us Q I2 r1 r2 q2
/-- t.count(x), ints -/
def rCountT (K : PySem.W.Frag) : V → List V → Hp → VK → Prop := fun x xs H Q => ∃ (a : Addr) (ns : List Int) (m : Int), x = .ref a ∧ xs = [.int m] ∧ SqT K H a (ns.map V.int) ∧ Q (.int ((ns.count m : Nat) : Int)) H
theorem plain_ints : ∀ ns : List Int, PyData.plainAll (ns.map PyData.int) = true
  | [] => rfl
  | n :: ns => by
    show (PyData.plain (.int n) && PyData.plainAll (ns.map PyData.int)) = true
    rw [plain_ints ns]
    rfl
theorem count_ints (ns : List Int) (m : Int) : (ns.map PyData.int).countP (fun y => PyData.eqv y (.int m)) = ns.count m := by
  rw [List.countP_map, List.count]
  refine List.countP_congr fun x _ => ?_
  simp [PyData.eqv]
theorem mt_countT (hu : X.A.units + 64 < cLine) : MtR X "tuple.count" (rCountT X.K) := by
  intro pins s σ H x xs v us Q I rx rxs h
  obtain ⟨a, ns, m, rfl, rfl, hs, q⟩ := h
  cases rx
  obtain ⟨u, rfl, ru⟩ := Vals.one rxs
  obtain ⟨its, rv, hT, _⟩ := I.tuple hs
  obtain ⟨as, h1⟩ := Dp.readsAll I (ns.map PyData.int) _ _ (da_ints ns) rv
  obtain ⟨bs, h2⟩ := Dp.reads I (.int m) _ _ (.int m) ru
  refine PySem.SeqAt.count_tuple_data (vs := its.toArray) (xs := ns.map PyData.int) (d := .int m) hT (by simpa using h1) h2 (plain_ints ns) rfl ?_ ?_
  · have : min (PyData.depthAll (ns.map PyData.int)) (PyData.depth (.int m)) ≤ PyData.depth (.int m) := Nat.min_le_right _ _
    have z : PyData.depth (.int m) ≤ 1 := by first | exact Nat.zero_le _ | exact Nat.le_refl _ | decide
    omega
  · rw [count_ints]
    exact ⟨.int _, H, I.tok _, ⟨_, rfl⟩, q⟩
/-- tuple(xs) of a list, the object known -/
theorem call_tuple_ofF : CallR X (.type "tuple") (fun xs H Q => ∃ p ys, xs = [.ref p] ∧ SqL X.K H p ys ∧ ∀ l o, H l = none → o.dict = none → Q (.ref l) (upd H l (.frz o (.tup ys)))) := by
  intro pins s σ H xs us Q I r h
  obtain ⟨p, ys, rfl, hq, q⟩ := h
  obtain ⟨u, rfl, rx⟩ := vals1 r
  cases rx
  obtain ⟨its, r', pl, hz⟩ := I.list hq
  have hlen := r'.length
  refine call_tuple_list pl.isList (fun h' kp => ?_) (by simp only [List.size_toArray] <;> omega)
  have I1 : Inv X pins σ H { s with heap := h' } := I.kept (t' := s.toks) kp
  have I2 : Inv X pins σ (upd H h'.objs.size (.frz { cls := .type "tuple", data := .seq its.toArray } (.tup ys))) { s with heap := h'.push { cls := .type "tuple", data := .seq its.toArray } } :=
    I1.laid (t' := s.toks) (fun b o e => Heap.get?_push_of_some _ e) (Nat.le_refl _) (show ObjOk X.prog X.w _ _ _ (.frz _ (.tup ys)) from ⟨Heap.get?_push_size _ rfl, hz, its, r', IsTup.new _ _⟩)
  exact ⟨.ref h'.objs.size, _, I2, rfl, q _ _ (I1.hok.fresh (Nat.le_refl _)) rfl⟩
end
end DL

set_option Elab.async false
set_option linter.all false
set_option maxRecDepth 100000
set_option maxHeartbeats 4000000
/-! Generator expressions whose elements may do anything: all(..), any(..) of them. -/
namespace GX
open PySem PySem.Spec PyProof.Rows L2 Evl DL

/-- a table of code objects, whatever stands in it -/
def TabPhi (P : Addr) : Heap → Prop := fun h => ∃ ps : Array Value, h.get? P = some { cls := .none, data := .fields ps } ∧ TriplesOk ps.toList
def TabE (P : Addr) : HO := .ext (TabPhi P)
theorem upd_self {H : Hp} {a : Addr} {o : HO} (h : H a = some o) : upd H a o = H := by
  funext b
  unfold upd
  split
  · rename_i e
    rw [e, h]
  · rfl
section
variable {X : Cx} {pins : List (Addr × Obj)} {σ : L2.St} {H : Hp} {s : Shared}
theorem tab_ok {P : Addr} {Pr : Program} {w : World} {h : Heap} {ps : Array Value} (e : h.get? P = some { cls := .none, data := .fields ps }) (ht : TriplesOk ps.toList) : ObjOk Pr w H h P (TabE P) :=
  ⟨⟨ps, e, ht⟩, ⟨_, e⟩, fun h1 h2 ⟨qs, e1, t1⟩ k => ⟨qs, k _ e1, t1⟩⟩
/-- the table is written, all else stays -/
theorem tab_write {P : Addr} {h' : Heap} {t' : Nat} {ps : Array Value} (I : Inv X pins σ H s) (hP : H P = some (TabE P)) (k : ∀ b o, b ≠ P → s.heap.get? b = some o → h'.get? b = some o) (hm : h'.get? P = some { cls := .none, data := .fields ps }) (ht : TriplesOk ps.toList) :
    Inv X pins σ H { s with heap := h', toks := t' } := by
  have J := I.write (x := P) (e := P) (o := TabE P) (t' := t') (by rw [hP]; trivial) (.inl rfl) k ⟨_, hm⟩ (tab_ok hm ht)
  rw [upd_self hP] at J
  exact J
/-- the gens, the draws and the tokens may be others -/
theorem inv_gens {g' : Array GenState} {d' : Drawn} {t' : Nat} (I : Inv X pins σ H s) (hg : AllBare g') : Inv X pins σ H { s with gens := g', drawn := d', toks := t' } :=
  ⟨I.ok, I.os, hg, I.base, I.loc, I.cell, I.free, I.freeC, I.pin, I.hok, I.len⟩
end
/-- the context of a generator expression's frame -/
abbrev gblk (X : Cx) (A : Around) (s : Shared) (H : Hp) (ge : Env) (fp : List Addr) : Cx :=
  { X with A := A, s_0 := s, H_0 := H, env := ge, outer := X.stack, stack := ge :: X.stack, ex := fp, fn := fun _ => false, pn := [], xe := fun _ _ => False }
/-- its names: its own in their slots, or captured -/
structure GenOk (N : List Str) (sc scope : Scope) (own : List (Str × Nat)) : Prop where
  blk : BlkOk N sc scope own
  co : scope.isCoroutine = false
  cell : ∀ y ∈ scope.names, y.2 ≠ .cell
  dot : scope.names.lookup (".0" : Str) = some NameKind.local
section
variable {X : Cx} {pins : List (Addr × Obj)} {σ : L2.St} {H : Hp} {s : Shared}
theorem gen_start {A : Around} {scope : Scope} {own : List (Str × Nat)} {fp : List Addr} {code it : Value} {a : Addr} {gob : Obj} {s5 : Shared} (I : Inv X pins σ H s) (G : GenOk X.N X.env.scope scope own) (hN : X.N.Nodup) (hfp : ∀ b ∈ fp, FpOk X pins H b ∧ b < s.heap.objs.size)
    (hA : A.handled = none) (hF : A.frames = some (genEnv scope (cloFrom X.env.cells scope.names []) s.heap.objs.size code builtinsNs X.env :: X.stack))
    (hn : s5.heap.Ns s.heap.objs.size (fun y => if y = ".0" then some it else none)) (kp : ∀ b o, s.heap.get? b = some o → s5.heap.get? b = some o) (hos : s5.os = s.os) (hb : AllBare s5.gens)
    (ha : s5.heap.get? a = some gob) (hac : ∀ v, gob.data ≠ .cell v) (hal : s.heap.objs.size < a) :
    Inv (gblk X A s H (genEnv scope (cloFrom X.env.cells scope.names []) s.heap.objs.size code builtinsNs X.env) fp) [(a, gob)] (wipe σ (own.map (·.2))) H s5 := by
  have ok := G.blk
  have hfree : ∀ y ∈ scope.names, y.2 = .free → ∃ c, X.env.cells.lookup y.1 = some c := fun y hy e => by
    rcases ok.free y hy e with k | k
    · exact I.ok.has _ (.inl k)
    · exact I.ok.has _ (.inr k)
  have cm : ∀ {y : Str} {c : Addr}, (cloFrom X.env.cells scope.names []).lookup y = some c → X.env.cells.lookup y = some c ∧ c < s.heap.objs.size := fun {y c} e => by
    rcases cloFrom_mem (PySem.mem_of_lookup e) with hm | ⟨h1, hc0⟩
    · cases hm
    · obtain ⟨c', hc'⟩ := hfree _ h1 rfl
      have e1 : X.env.cells.lookup y = some c := by
        rw [hc'] at hc0
        subst hc0
        exact hc'
      obtain ⟨w, z⟩ := I.cell _ _ e1
      exact ⟨e1, z.lt⟩
  have look : ∀ {y : Str}, scope.names.lookup y = some .free → ∃ c, (cloFrom X.env.cells scope.names []).lookup y = some c ∧ X.env.cells.lookup y = some c := fun {y} hl => by
    obtain ⟨c', e'⟩ := mem_lookup (cloFrom_has (cells := X.env.cells) (acc := []) (PySem.mem_of_lookup hl))
    exact ⟨c', e', (cm e').1⟩
  have okG : (gblk X A s H (genEnv scope (cloFrom X.env.cells scope.names []) s.heap.objs.size code builtinsNs X.env) fp).Ok := by
    refine ⟨I.ok.mod, ok.kind, I.ok.glob, rfl, Nat.le_refl _, fun y z c e1 e2 => I.ok.inj y z c (cm e1).1 (cm e2).1, fun y hy => ?_, fun y c z e => (by cases z), fun _ => hA, hF, .inr ⟨rfl, rfl⟩, fun b hb => ⟨?_, fun y c e z => ?_⟩, I.bs, Nat.le_trans I.ok.bsz I.sz, fun b o e hb => ?_, fun b hb z => ?_, I.stack, I.stkFree⟩
    · rcases hy with hy | hy
      · exact absurd rfl (G.cell _ (PySem.mem_of_lookup hy))
      · obtain ⟨c, h1, _⟩ := look hy
        exact ⟨c, h1⟩
    · exact Nat.ne_of_lt (hfp b hb).2
    · exact (hfp b hb).1.2.2.2.2.1 y c (cm e).1 z
    · rcases (hfp b hb).1.2.2.2.1 with z | z
      · exact I.ok.noex b o e z
      · exact absurd (Nat.lt_of_lt_of_le (Heap.lt_size e) (Nat.le_trans I.ok.bsz z)) (Nat.lt_irrefl _)
    · rcases List.mem_cons.mp (I.stkSub b z) with z | z
      · exact (hfp b hb).1.2.1 z
      · exact (hfp b hb).1.2.2.1 z
  refine ⟨okG, hos, hb, Un.kept kp, ⟨_, hn, fun i y av e1 e2 e3 => ?_⟩, fun y c e => ?_, I.hok.fresh (Nat.le_refl _), fun y c e => I.freeC y c (cm e).1, fun p hp => ?_, I.hok.kept kp, by rw [wipe_length]; exact I.len⟩
  · obtain ⟨e2, hne⟩ := wipe_some e2
    have hfr : scope.names.lookup y = some .free := by
      have no : ∀ k, scope.names.lookup y = some k → ¬ (k = .local ∨ k = .cell) := fun k e hh => by
        rcases ok.own _ (PySem.mem_of_lookup e) hh with e' | e'
        · obtain ⟨p, hp, hpy⟩ := List.mem_map.mp e'
          have e3 := ok.ix p hp
          have : p.1 = y := hpy
          rw [this] at e3
          exact hne (List.mem_map.mpr ⟨p, hp, nodup_ix hN e3 e1⟩)
        · exact e' (List.mem_of_getElem? e1)
      have e3 : Vis scope y := e3
      rcases e3 with e3 | e3 | e3
      · exact absurd (.inl rfl) (no _ e3)
      · exact absurd (.inr rfl) (no _ e3)
      · exact e3
    obtain ⟨m, _, hl⟩ := I.loc
    have hvis : Vis X.env.scope y := (ok.free _ (PySem.mem_of_lookup hfr) rfl).elim (fun k => .inr (.inl k)) (fun k => .inr (.inr k))
    obtain ⟨u, r, q⟩ := hl i y av e1 e2 hvis
    refine ⟨u, r, .inr ⟨.inr hfr, ?_⟩⟩
    obtain ⟨c, h1, h2⟩ := look hfr
    rcases q with ⟨k, _⟩ | ⟨_, c', e', z⟩
    · have k : X.env.scope.names.lookup y = some .local := k
      rcases ok.free _ (PySem.mem_of_lookup hfr) rfl with k' | k' <;> rw [show X.env.scope.names.lookup y = _ from k'] at k <;> cases k
    · rw [h2] at e'
      cases e'
      exact ⟨c, h1, z.keeps kp⟩
  · obtain ⟨w, z⟩ := I.cell y c (cm e).1
    exact ⟨w, z.keeps kp⟩
  · have hp : p ∈ ([] : List (Addr × Obj)) ++ [(a, gob)] := hp
    rw [List.nil_append, List.mem_singleton] at hp
    subst hp
    refine ⟨ha, I.hok.fresh (Nat.le_of_lt hal), Nat.ne_of_gt hal, fun z => ?_, hac⟩
    have h1 := I.stack.mem z
    obtain ⟨_, o, ho, _⟩ := h1
    exact absurd (Nat.lt_trans hal (Heap.lt_size ho)) (Nat.lt_irrefl _)
end
end GX

set_option Elab.async false
set_option linter.all false
set_option maxRecDepth 100000
set_option maxHeartbeats 4000000
namespace GX
open PySem PySem.Spec PyProof.Rows L2 Evl DL

abbrev gExp (elt tg iter : Expr) (scope : Scope) (pos : Pos) : Expr := .GeneratorExp elt [⟨tg, iter, [], 0⟩] scope pos
abbrev gLoop (elt tg iter : Expr) (scope : Scope) (pos : Pos) (it : Addr) (ge : Env) : Code := .compLoop (gExp elt tg iter scope pos) 0 (.ref it) .none ge
/-- a turn may begin -/
def GS (Xg : Cx) (gp : List (Addr × Obj)) (τ : L2.St) (fp : List Addr) (tn : Nat → Heap → Prop) (W : Nat → Hp → Prop) (i : Nat) (s : Shared) : Prop :=
  ∃ H', Inv Xg gp τ H' s ∧ tn i s.heap ∧ (∀ b ∈ fp, H' b = none) ∧ W i H'
/-- between two turns nothing but generators' states changes -/
def Re (s s'' : Shared) : Prop := s''.heap = s.heap ∧ s''.os = s.os ∧ AllBare s''.gens
def gR (Xg : Cx) (gp : List (Addr × Obj)) (τ : L2.St) (c : Bool) (Qt : Bool → Hp → Prop) : GenEnd := fun _ _ r s₁ => r = .ok .next ∧ ∃ H', Inv Xg gp τ H' s₁ ∧ Qt c H'
def gY (Xg : Cx) (gp : List (Addr × Obj)) (τ : L2.St) (fp : List Addr) (tn : Nat → Heap → Prop) (W : Nat → Hp → Prop) (c : Bool) (Qt : Bool → Hp → Prop) (N : Nat) : Protocol := fun n _ v s kap =>
  ∃ b, v = .bool b ∧ if b = c then (∃ i, n = N - i ∧ i ≤ N ∧ GS Xg gp τ fp tn W i s) ∧ ∀ s'', Re s s'' → kap (.send .none) s'' else ∃ H', Inv Xg gp τ H' s ∧ Qt b H'
theorem GS.re {Xg : Cx} {gp : List (Addr × Obj)} {τ : L2.St} {fp : List Addr} {tn : Nat → Heap → Prop} {W : Nat → Hp → Prop} {i : Nat} {s s'' : Shared} (h : GS Xg gp τ fp tn W i s) (r : Re s s'') : GS Xg gp τ fp tn W i s'' := by
  obtain ⟨H', I, st, n, w⟩ := h
  obtain ⟨e1, e2, e3⟩ := r
  obtain ⟨hp, gs, dr, tk, os⟩ := s''
  have e1 : hp = s.heap := e1
  have e2 : os = s.os := e2
  subst e1
  subst e2
  exact ⟨H', inv_gens I e3, st, n, w⟩
theorem gen_seg {X : Cx} {A : Around} {elt tg iter : Expr} {scope : Scope} {pos : Pos} {ge : Env} {s3 : Shared} {H3 : Hp} {fp : List Addr} {it : Addr} {tn : Nat → Heap → Prop} {J : It} {g : TG} {te : TE} {vs : List Nat} {σ : L2.St} {gp : List (Addr × Obj)} {N : Nat} {W : Nat → Hp → Prop} {c : Bool} {Qt : Bool → Hp → Prop}
    (hc : X.calm = true) (hco : ge.scope.isCoroutine = false) (T : Turn X.prog X.w X.K tg J fp it tn) (hgp : ∀ p ∈ gp, ∀ b ∈ fp, p.1 ≠ b)
    (pg : PG (gblk X (A.over (gLoop elt tg iter scope pos it ge) []) s3 H3 ge fp) tg g) (pe : PE (gblk X (A.over (gLoop elt tg iter scope pos it ge) []) s3 H3 ge fp) elt te)
    (turn : ∀ i H, W i H → (J.stop i H ∧ Qt c H) ∨ (J.go i H ∧ i < N ∧ ∀ x H', J.yld i H x H' → g x (wipe σ vs) H' fun σ2 H2 => wipe σ2 vs = wipe σ vs ∧ te σ2 H2 fun y H4 => ∃ b, y = .bl b ∧ if b = c then W (i + 1) H4 else Qt b H4)) :
    ∀ (k i : Nat) (s₀ s : Shared), N - i = k → i ≤ N → GS (gblk X (A.over (gLoop elt tg iter scope pos it ge) []) s3 H3 ge fp) gp (wipe σ vs) fp tn W i s →
      Seg (model X.prog X.w) A (gR (gblk X (A.over (gLoop elt tg iter scope pos it ge) []) s3 H3 ge fp) gp (wipe σ vs) c Qt) (gY (gblk X (A.over (gLoop elt tg iter scope pos it ge) []) s3 H3 ge fp) gp (wipe σ vs) fp tn W c Qt N) k s₀
        (gLoop elt tg iter scope pos it ge) ((model X.prog X.w).den (gLoop elt tg iter scope pos it ge)) [] s := by
  generalize hXg : gblk X (A.over (gLoop elt tg iter scope pos it ge) []) s3 H3 ge fp = Xg at pg pe
  have hXA : Xg.A = A.over (gLoop elt tg iter scope pos it ge) [] := by rw [← hXg]
  have hXp : Xg.prog = X.prog := by rw [← hXg]
  have hXw : Xg.w = X.w := by rw [← hXg]
  have hXK : Xg.K = X.K := by rw [← hXg]
  have hXc : Xg.calm = true := by rw [← hXg]; exact hc
  have hXe : Xg.env = ge := by rw [← hXg]
  have hXx : Xg.ex = fp := by rw [← hXg]
  have hXn : Xg.pn = [] := by rw [← hXg]
  have hXf : Xg.xe = fun _ _ => False := by rw [← hXg]
  have stat : ∀ {σ' : L2.St} {H' : Hp} {s' : Shared}, Inv Xg gp σ' H' s' → (∀ b ∈ fp, H' b = none) → ∀ b ∈ fp, FpOk Xg gp H' b := fun {σ' H' s'} I' hn b hb => by
    have hbx : b ∈ Xg.ex := by rw [hXx]; exact hb
    refine ⟨hn b hb, (I'.ok.exf b hbx).1, I'.ok.exfs b hbx, .inl hbx, fun x c e => (I'.ok.exf b hbx).2 x c e, fun p hp => ?_⟩
    rw [hXn, List.nil_append] at hp
    exact hgp p hp b hb
  have hy : ∀ v, yieldOut ge v = yieldValue v := fun v => by simp only [yieldOut, hco, Bool.false_eq_true, if_false]
  intro k
  induction k with
  | zero =>
    intro i s₀ s hk hi hG
    obtain ⟨H5, I5, st5, n5, w5⟩ := hG
    show Seg _ A _ _ _ s₀ _ ((compTurn (gExp elt tg iter scope pos) 0 (.ref it) .none ge).onRaise (leaving ge)) [] s
    rw [compTurn_gen, Sem.onRaise_eq_wrap]
    refine seg_bind_wrap (wpAny_standAt ?_)
    rcases turn i H5 w5 with ⟨stop, qq⟩ | ⟨_, hlt, _⟩
    · have td := T.done Xg hXp hXw hXK hXc i gp s _ H5 (fun _ _ => False) I5 (stat I5 n5) st5 stop
      rw [hXA] at td
      refine seg_bind_wrap (thnF td fun r s6 ⟨hr, I6⟩ => ?_)
      subst hr
      exact seg_end (.ok .next) ⟨rfl, H5, I6, qq⟩
    · omega
  | succ k ih =>
    intro i s₀ s hk hi hG
    obtain ⟨H5, I5, st5, n5, w5⟩ := hG
    show Seg _ A _ _ _ s₀ _ ((compTurn (gExp elt tg iter scope pos) 0 (.ref it) .none ge).onRaise (leaving ge)) [] s
    rw [compTurn_gen, Sem.onRaise_eq_wrap]
    refine seg_bind_wrap (wpAny_standAt ?_)
    rcases turn i H5 w5 with ⟨stop, qq⟩ | ⟨go, hlt, step⟩
    · have td := T.done Xg hXp hXw hXK hXc i gp s _ H5 (fun _ _ => False) I5 (stat I5 n5) st5 stop
      rw [hXA] at td
      refine seg_bind_wrap (thnF td fun r s6 ⟨hr, I6⟩ => ?_)
      subst hr
      exact seg_end (.ok .next) ⟨rfl, H5, I6, qq⟩
    · have ti := T.item Xg hXp hXw hXK hXc i gp s _ H5 (fun _ _ => False) I5 (stat I5 n5) st5 go
      rw [hXA] at ti
      refine seg_bind_wrap (thnF ti fun r s6 ⟨u, hr, h6⟩ => ?_)
      subst hr
      refine seg_bind_wrap (thnF h6 fun _ s7 ⟨x, H7, I7, r7, y7, st7, n7⟩ => ?_)
      have I7' := I7.pinned (stat I7 n7) (T.obj _ _ st7)
      have rg := pg.run _ s7 _ H7 x u _ I7' r7 (step x H7 y7)
      rw [hXA, hXe, hXf, hXp, hXw] at rg
      refine seg_bind_wrap (thnF rg fun _ s8 ⟨σ8, H8, I8, hw8, q8⟩ => ?_)
      refine seg_bind_wrap (wpAny_tests_nil ?_)
      simp only [if_true]
      simp only [hy]
      rw [Sem.bind_eq_wrap', Sem.bind_eq_wrap', Sem.wrap_wrap, Sem.wrap_wrap]
      have re := pe.run _ s8 σ8 H8 _ I8 q8
      rw [hXA, hXe, hXf, hXp, hXw] at re
      refine seg_wrap (thnF re fun z s9 ⟨yv, H9, I9, r9, b, hb, q9⟩ => ?_)
      subst hb
      have hz : z = .bool b := r9
      subst hz
      have pin' : ∀ b ∈ fp, ∀ o, s7.heap.get? b = some o → s9.heap.get? b = some o ∧ H9 b = none := fun b hb o e => by
        have z := I9.pin (b, o) (List.mem_append_right _ (List.mem_append_right _ (mem_pinsAt hb e)))
        exact ⟨z.1, z.2.1⟩
      have hl : (wipe σ vs).length = σ8.length := by rw [← hw8, wipe_length]
      have I9' : Inv Xg gp (wipe σ vs) H9 s9 := (I9.unpinned (pins := gp)).weak hl fun j v e => by
        rw [← hw8] at e
        exact (wipe_some e).1
      refine seg_at (seg_yield rfl rfl rfl ⟨b, rfl, ?_⟩)
      by_cases hbc : b = c
      · rw [if_pos hbc] at q9 ⊢
        have hG9 : GS Xg gp (wipe σ vs) fp tn W (i + 1) s9 := by
          refine ⟨H9, I9', T.keep _ _ _ st7 fun b hb o e => (pin' b hb o e).1, fun b hb => ?_, q9⟩
          obtain ⟨o, e, _⟩ := T.obj _ _ st7 b hb
          exact (pin' b hb o e).2
        refine ⟨⟨i + 1, by omega, hlt, hG9⟩, fun s'' hre => ?_⟩
        exact seg_again rfl (ih (i + 1) s'' s'' (by omega) hlt (hG9.re hre))
      · rw [if_neg hbc] at q9 ⊢
        exact ⟨H9, I9', q9⟩
/-- the generator's first waking -/
theorem gen_first {X : Cx} {A : Around} {R : GenEnd} {Y : Protocol} {elt tg iter : Expr} {scope : Scope} {pos : Pos} {ge : Env} {fp : List Addr} {it : Addr} {tn : Nat → Heap → Prop} {J : It} {n : Nat} {s₀ s : Shared} (T : Turn X.prog X.w X.K tg J fp it tn) (st : tn 0 s.heap)
    (loop : Seg (model X.prog X.w) A R Y n s₀ (gLoop elt tg iter scope pos it ge) ((model X.prog X.w).den (gLoop elt tg iter scope pos it ge)) [] s) :
    Seg (model X.prog X.w) A R Y n s₀ (.compStart (gExp elt tg iter scope pos) 0 (.ref it) .none ge) ((model X.prog X.w).den (.compStart (gExp elt tg iter scope pos) 0 (.ref it) .none ge)) [] s := by
  show Seg _ A _ _ _ s₀ _ ((compStart (gExp elt tg iter scope pos) 0 (.ref it) .none ge).onRaise (leaving ge)) [] s
  unfold compStart
  rw [Sem.onRaise_eq_wrap]
  show Seg _ A _ _ _ s₀ _ ((ask >>= _).wrap _ _ _ _) [] s
  refine seg_bind_wrap (wpAny_askSetting ?_)
  split
  · exact seg_again rfl loop
  · refine seg_bind_wrap (wpAny_rule ?_)
    exact seg_bind_wrap (wpAny_standAt (seg_bind_wrap (T.self _ 0 s _ _ st (seg_again rfl loop))))
end GX

set_option Elab.async false
set_option linter.all false
set_option maxRecDepth 100000
set_option maxHeartbeats 4000000
namespace GX
open PySem PySem.Spec PyProof.Rows L2 Evl DL
theorem bare_set {s : Shared} {g : Nat} {x : GenState} (h : AllBare s.gens) (hx : x.bare = true) : AllBare (s.setGen g x).gens := fun y hy => by
  have hy' : y ∈ s.gens.setIfInBounds g x := hy
  obtain ⟨i, hi, rfl⟩ := Array.mem_iff_getElem.mp hy'
  have hi' : i < s.gens.size := by simpa using hi
  rw [Array.getElem_setIfInBounds hi']
  split
  · exact hx
  · exact h _ (Array.getElem_mem hi')
theorem re_set {s : Shared} {g : Nat} {x : GenState} (h : AllBare s.gens) (hx : x.bare = true) : Re s (s.setGen g x) := ⟨rfl, rfl, bare_set h hx⟩
/-- the generator at a stands before turn i -/
def At (X Xg : Cx) (A : Around) (gp : List (Addr × Obj)) (τ : L2.St) (fp : List Addr) (tn : Nat → Heap → Prop) (W : Nat → Hp → Prop) (c : Bool) (Qt : Bool → Hp → Prop) (N g i : Nat) (s : Shared) : Prop :=
  GS Xg gp τ fp tn W i s ∧ ∃ gs, s.gens[g]? = some gs ∧ ∀ s'', Re s s'' → gs.Goes (model X.prog X.w) A (gR Xg gp τ c Qt) (gY Xg gp τ fp tn W c Qt N) (N - i) (.send .none) s''
theorem next_at {X Xg : Cx} {A : Around} {gp : List (Addr × Obj)} {τ : L2.St} {fp : List Addr} {tn : Nat → Heap → Prop} {W : Nat → Hp → Prop} {c : Bool} {Qt : Bool → Hp → Prop} {N g i : Nat} {a : Addr} {s : Shared} {E : Value → Shared → Prop} {Q : Option Value → Shared → Prop}
    (hh : A.handled = none) (hroom : A.depth < recursionLimit) (hgen : ∀ s' H', Inv Xg gp τ H' s' → s'.heap.IsGen a g) (h : At X Xg A.in1 gp τ fp tn W c Qt N g i s) (hi : i ≤ N)
    (hN : ∀ s' H', Inv Xg gp τ H' s' → Qt c H' → Q none s') (hD : ∀ b s' H', b ≠ c → Inv Xg gp τ H' s' → Qt b H' → Q (some (.bool b)) s')
    (hG : ∀ i' s', i < i' → i' ≤ N → At X Xg A.in1 gp τ fp tn W c Qt N g i' s' → Q (some (.bool c)) s') :
    wpAny (model X.prog X.w) A (pyNext (.ref a)) Q E s := by
  obtain ⟨⟨H', I, st, n, w⟩, gs, hgs, hgo⟩ := h
  have hsz : g + 1 ≤ s.gens.size := by
    rcases Nat.lt_or_ge g s.gens.size with h' | h'
    · exact h'
    · rw [Array.getElem?_eq_none h'] at hgs
      cases hgs
  refine GenW.wpAny_gsz hsz ?_
  refine wpAny_mono (Q := fun r s' => g + 1 ≤ s'.gens.size → Q r s') ?_ (fun _ _ q => q) fun _ _ e _ => e
  refine wpAny_pyNext_genexpQ (P := fun _ _ s₁ => ∃ H', Inv Xg gp τ H' s₁ ∧ Qt c H') (n := N - i) hh I.nolimit hroom (hgen s H' I) hgs (hgo _ (re_set I.bare rfl)) (fun v s₁ gs' hb hv hz => ?_) (fun s₁ hp h' hk _ => ?_)
  · obtain ⟨b, rfl, hv⟩ := hv
    by_cases hbc : b = c
    · rw [if_pos hbc] at hv
      subst hbc
      obtain ⟨⟨i', hn, hi', hG1⟩, hkap⟩ := hv
      obtain ⟨H1, I1, _⟩ := id hG1
      cases hm : N - i with
      | zero =>
        rw [hm] at hkap
        exact (hkap s₁ ⟨rfl, rfl, I1.bare⟩).elim
      | succ m =>
        rw [hm] at hkap hn
        refine hG i' _ (by omega) hi' ⟨hG1.re (re_set I1.bare hb), gs', ?_, fun s'' hre => ?_⟩
        · have h1 : g < (s₁.setGen g gs').gens.size := hz
          have h2 : g < s₁.gens.size := by simpa [Shared.setGen] using h1
          exact setGen_self (gs := s₁.gens[g]) (Array.getElem?_eq_getElem h2)
        · have e : N - i' = m := by omega
          rw [e]
          exact hkap s'' ⟨hre.1, hre.2.1, hre.2.2⟩
    · rw [if_neg hbc] at hv
      obtain ⟨H1, I1, q1⟩ := hv
      exact hD b _ H1 hbc (inv_gens I1 (bare_set I1.bare hb)) q1
  · obtain ⟨H1, I1, q1⟩ := hp
    exact hN _ H1 (inv_gens (I1.kept (t' := s₁.toks) hk) (bare_set I1.bare rfl)) q1
/-- all's loop over it -/
theorem all_loop {X Xg : Cx} {A : Around} {gp : List (Addr × Obj)} {τ : L2.St} {fp : List Addr} {tn : Nat → Heap → Prop} {W : Nat → Hp → Prop} {Qt : Bool → Hp → Prop} {N g : Nat} {a : Addr} {R : Result → Shared → Prop}
    (hh : A.handled = none) (hroom : A.depth < recursionLimit) (hgen : ∀ s' H', Inv Xg gp τ H' s' → s'.heap.IsGen a g) (hR : ∀ b s' H', Inv Xg gp τ H' s' → Qt b H' → R (.ok (.ret (.bool b))) s') :
    ∀ (k i : Nat) (s : Shared), N - i = k → i ≤ N → At X Xg A.in1.in1 gp τ fp tn W true Qt N g i s → codeAny (model X.prog X.w) A (.builtin "all.loop" ⟨[.ref a], []⟩) R s := by
  intro k
  induction k using Nat.strongRecOn with
  | ind k ih =>
    intro i s hk hi hA
    refine codeAny_builtin F.entry_all_loop ?_
    rw [Around.under_plainId F.plain_all_loop _]
    show wpAny _ A.in1 (pyNext (.ref a) >>= _) _ _ s
    refine wpAny_bind (next_at (A := A.in1) hh hroom hgen hA hi (fun s' H' I q => ?_) (fun b s' H' hb I q => ?_) fun i' s' h1 h2 h3 => ?_)
    · exact wpAny_bind (wpAny_rule (wpAny_pure (hR true s' H' I q)))
    · have hb : b = false := by
        cases b with
        | true => exact absurd rfl hb
        | false => rfl
      subst hb
      refine wpAny_bind (wpAny_holding (wpAny_truthy_bool ?_))
      refine wpAny_bind (wpAny_letGo ?_)
      simp only [Bool.false_eq_true, if_false]
      exact wpAny_bind (wpAny_rule (wpAny_pure (hR false s' H' I q)))
    · refine wpAny_bind (wpAny_holding (wpAny_truthy_bool ?_))
      refine wpAny_bind (wpAny_letGo ?_)
      simp only [if_true]
      exact wpAny_pure ⟨plainId_quiet F.plain_all_loop _, ih (N - i') (by omega) i' s' rfl h2 h3⟩
end GX

set_option Elab.async false
set_option linter.all false
set_option maxRecDepth 100000
set_option maxHeartbeats 4000000
namespace GX
open PySem PySem.Spec PyProof.Rows L2 Evl DL
/-- all(e for t in it) (c true), any(..) (c false): N bounds the turns, W by the turn -/
def tQuant (c : Bool) (P : Addr) (wi : TI) (g : TG) (te : TE) (vs : List Nat) : TE := fun σ H Q => wi σ H fun J H1 => H1 P = some (TabE P) ∧ ∃ (N : Nat) (W : Nat → Hp → Prop), W 0 H1 ∧
  ∀ i H, W i H → (J.stop i H ∧ Q (.bl c) H) ∨ (J.go i H ∧ i < N ∧ ∀ x H', J.yld i H x H' → g x (wipe σ vs) H' fun σ2 H2 => wipe σ2 vs = wipe σ vs ∧ te σ2 H2 fun y H4 => ∃ b, y = .bl b ∧ if b = c then W (i + 1) H4 else Q (.bl b) H4)
theorem room_gen {A : Around} {k : Nat} {elt tg iter : Expr} {scope : Scope} {pos : Pos} {it : Addr} {ge : Env} (hr : Room (k + 1) A) : Room k (A.in1.in1.over (gLoop elt tg iter scope pos it ge) []) := by
  have h1 := hr.dp
  have h2 := hr.un
  refine ⟨hr.hd, ?_, ?_⟩
  · show A.depth + 0 + 1 + 3 * k + 5 < _
    omega
  · show A.units + 1 + 1 + 0 + 3 + 16 * k + 200 < _
    omega
theorem frames_gen {A : Around} {l : List Env} {elt tg iter : Expr} {scope : Scope} {pos : Pos} {it : Addr} {ge : Env} (h : A.frames = some l) : (A.in1.in1.over (gLoop elt tg iter scope pos it ge) []).frames = some (ge :: l) := by
  show pushEnvs [ge] (pushEnvs [] A.frames) = _
  rw [h]
  rfl
section
variable {X : Cx}
theorem gen_made {c P : Addr} {cc : Bool} {elt tg iter : Expr} {scope : Scope} {gpos : Pos} {own : List (Str × Nat)} {wi : TI} {g : TG} {te : TE} {k : Nat} {pins : List (Addr × Obj)} {σ : L2.St} {H : Hp} {s : Shared} {Q : VK} {Q' : Value → Shared → Prop}
    (hr : Room (k + 1) X.A) (hcm : X.calm = true) (hN : X.N.Nodup) (TB : GxR.TabB X.base X.mg c P) (hcode : X.env.code = .ref c) (G : GenOk X.N X.env.scope scope own) (hi : PI X tg iter wi)
    (hg : ∀ (A : Around) (s : Shared) (H : Hp) (cl : List (Str × Addr)) (C : Addr) (code : Value) (fp : List Addr), PG (gblk X A s H (genEnv scope cl C code builtinsNs X.env) fp) tg g)
    (he : ∀ (A : Around) (s : Shared) (H : Hp) (cl : List (Str × Addr)) (C : Addr) (code : Value) (fp : List Addr), Room k A → PE (gblk X A s H (genEnv scope cl C code builtinsNs X.env) fp) elt te)
    (hs : ∀ v, genFold iter X.env v = pure v) (I : Inv X pins σ H s) (h : tQuant cc P wi g te (own.map (·.2)) σ H Q)
    (hQ : ∀ (a : Addr) (s5 : Shared) (Xg : Cx) (gp : List (Addr × Obj)) (fp : List Addr) (tn : Nat → Heap → Prop) (W : Nat → Hp → Prop) (N gi : Nat), At X Xg X.A.in1.in1 gp (wipe σ (own.map (·.2))) fp tn W cc (fun b H' => Q (.bl b) H') N gi 0 s5 →
      (∀ s' H', Inv Xg gp (wipe σ (own.map (·.2))) H' s' → s'.heap.IsGen a gi) → (∀ s' H', Inv Xg gp (wipe σ (own.map (·.2))) H' s' → Inv X pins σ H' s') → Q' (.ref a) s5) :
    wpAny (model X.prog X.w) X.A (eval (gExp elt tg iter scope gpos) X.env) Q' X.xe s := by
  have hfree : ∀ y ∈ scope.names, y.2 = .free → ∃ c, X.env.cells.lookup y.1 = some c := fun y hy e => by
    rcases G.blk.free y hy e with k | k
    · exact I.ok.has _ (.inl k)
    · exact I.ok.has _ (.inr k)
  refine wpAny_GeneratorExp_make G.co (closure_ok hfree) G.cell G.dot G.blk.kind (by have := hr.dp; omega) ?_ hs
  refine thn (hi.run pins s σ H _ I h) fun xv s1 hx => thn hx fun itv s2 h2 => ?_
  obtain ⟨it, fp, tn, J, H2, rfl, I2, T, st2, f2, hP, N, W, w0, turn⟩ := h2
  refine ⟨I2.nolimit, ?_⟩
  obtain ⟨⟨ps, hPs, ht⟩, _⟩ := I2.hok P _ hP
  have cd : PySem.W.CodeHd s2.heap c P := TB.code.keeps fun b u e => I2.bk b u e
  have sz : ∀ b ∈ fp, b < s2.heap.objs.size := fun b hb => by
    obtain ⟨o, e, _⟩ := T.obj _ _ st2 b hb
    exact Heap.lt_size e
  have cont : ∀ (code : Value) (h3 : Heap) (tk : Nat), Inv X pins σ H2 { s2 with heap := h3, toks := tk } → tn 0 h3 → (∀ b ∈ fp, b < h3.objs.size) →
      wpAny (model X.prog X.w) X.A (builtinsFor X.env.globals X.env.builtins) (fun bi s₄ => ∀ h', h'.Ns s₄.heap.objs.size (fun y => if y = ".0" then some (.ref it) else none) → Heap.SameBut s₄.heap.objs.size (s₄.heap.push { cls := .type "frame", data := .dict #[] }) h' →
          Q' (.ref h'.objs.size) { s₄ with
            gens := s₄.gens.push (.fresh (.compStart (gExp elt tg iter scope gpos) 0 (.ref it) .none (genEnv scope (cloFrom X.env.cells scope.names []) s₄.heap.objs.size code bi X.env))),
            toks := s₄.toks + 1 + 1 + 1,
            heap := h'.push { cls := .type "generator", data := .fields #[.int s₄.gens.size 0, .str "<genexpr>" (s₄.toks + 1), .str (X.env.qual ++ "<genexpr>") (s₄.toks + 1 + 1)] } }) X.xe { s2 with heap := h3, toks := tk } := by
    intro code h3 tk I3 st3 sz3
    obtain ⟨bm, ob, e1, e2, e3, e4, e5, e6, e7, e8⟩ := TB.bm
    refine wpAny_builtinsFor (m := X.mg) (by rw [I3.ok.glob]; exact I3.mod.glob.keeps I3.bk) e1 e2 (I3.bk _ _ e5) e6 e7 e8 ?_
    intro h' hn' hs'
    generalize hs4 : ({ s2 with heap := h3, toks := tk } : Shared) = s4 at I3 hn' hs' ⊢
    have h34 : s4.heap = h3 := by rw [← hs4]
    have hsz : h'.objs.size = s4.heap.objs.size + 1 := by rw [hs'.1, Heap.size_push]
    generalize hgob : ({ cls := .type "generator", data := .fields #[.int s4.gens.size 0, .str "<genexpr>" (s4.toks + 1), .str (X.env.qual ++ "<genexpr>") (s4.toks + 1 + 1)] } : Obj) = gob
    have kp : ∀ b o, s4.heap.get? b = some o → (h'.push gob).get? b = some o := fun b o e => Heap.get?_push_of_some _ (hs'.extBut b o (Nat.ne_of_lt (Heap.lt_size e)) (Heap.get?_push_of_some _ e))
    have ha : (h'.push gob).get? h'.objs.size = some gob := Heap.get?_push_size _ (by rw [← hgob]; rfl)
    have bare5 : AllBare (s4.gens.push (.fresh (.compStart (gExp elt tg iter scope gpos) 0 (.ref it) .none (genEnv scope (cloFrom X.env.cells scope.names []) s4.heap.objs.size code builtinsNs X.env)))) := I3.bare.push rfl
    have Ig := gen_start (A := X.A.in1.in1.over (gLoop elt tg iter scope gpos it (genEnv scope (cloFrom X.env.cells scope.names []) s4.heap.objs.size code builtinsNs X.env)) []) (it := .ref it) (a := h'.objs.size) (gob := gob) (code := code) (fp := fp)
      (s5 := { s4 with gens := s4.gens.push (.fresh (.compStart (gExp elt tg iter scope gpos) 0 (.ref it) .none (genEnv scope (cloFrom X.env.cells scope.names []) s4.heap.objs.size code builtinsNs X.env))), toks := s4.toks + 1 + 1 + 1, heap := h'.push gob }) I3 G hN
      (fun b hb => ⟨f2 b hb, by rw [h34]; exact sz3 b hb⟩) hr.hd (frames_gen I3.ok.frames) (hn'.push _) kp rfl bare5 ha (fun v q => by rw [← hgob] at q; cases q) (by omega)
    have st5 : tn 0 (h'.push gob) := T.keep _ _ _ (h34 ▸ st3 : tn 0 s4.heap) fun b _ o e => kp b o e
    refine hQ h'.objs.size _ _ [(h'.objs.size, gob)] fp tn W N s4.gens.size ⟨⟨H2, Ig, st5, fun b hb => (f2 b hb).1, w0⟩, _, Array.getElem?_push_size .., fun s'' hre => ⟨rfl, ?_⟩⟩ (fun s' H' I' => ?_) fun s' H' I' => ?_
    · refine gen_first T (by rw [hre.1]; exact st5) (gen_seg (c := cc) (Qt := fun b H' => Q (.bl b) H') hcm G.co T (fun p hp b hb => ?_) (hg _ _ _ _ _ _ _) (he _ _ _ _ _ _ _ (room_gen hr)) turn N 0 s'' s'' (Nat.sub_zero _) (Nat.zero_le _) (GS.re ⟨H2, Ig, st5, fun b hb => (f2 b hb).1, w0⟩ hre))
      rw [List.mem_singleton] at hp
      subst hp
      have := sz3 b hb
      rw [← h34] at this
      exact Nat.ne_of_gt (by rw [hsz]; exact Nat.lt_succ_of_lt this)
    · have z := I'.pin (h'.objs.size, gob) (List.mem_append_right _ List.mem_cons_self)
      rw [← hgob] at z
      exact ⟨_, _, _, z.1, rfl, rfl, rfl⟩
    · exact I3.call' (ch := fp) I'.os I'.base I'.hok I'.bare fun b hb => ⟨(f2 b hb).2.2.2.1, (f2 b hb).2.1, (f2 b hb).2.2.2.2.1, (f2 b hb).2.2.2.2.2⟩
  cases hf : codeAmong gpos ps.toList with
  | none =>
    refine wpAny_genexprCodeX hcode (cd.code hPs ht) (cd.tab hPs) hf fun c' h' tk hx hge hlt hco' _ htab' _ => ?_
    obtain ⟨o1, vs, f1, tf, fl, tg', inF, tx, tt, op, _, _, _, _, _, _, _, _, _, htr, _⟩ := hco'
    have hk : ∀ b o, b ≠ P → s2.heap.get? b = some o → h'.get? b = some o := fun b o hb e => hx b o hb e
    have nP : ∀ b ∈ fp, b ≠ P := fun b hb z => by
      have := (f2 b hb).1
      rw [z, hP] at this
      cases this
    exact cont _ h' tk (tab_write I2 hP hk htab'.2 htr) (T.keep _ _ _ st2 fun b hb o e => hk b o (nP b hb) e) fun b hb => Nat.lt_of_lt_of_le (sz b hb) (Nat.le_trans hge (Nat.le_of_lt hlt))
  | some cv =>
    refine wpAny_genexprCode_hit hcode (cd.code hPs ht) hf ?_
    exact cont cv s2.heap s2.toks I2 st2 sz
/-- all(e for t in it) -/
theorem pe_allG {c P : Addr} {elt tg iter : Expr} {scope : Scope} {p pos gpos : Pos} {own : List (Str × Nat)} {wi : TI} {g : TG} {te : TE} {k : Nat}
    (hr : Room (k + 1) X.A) (hgl : Gl X "all") (hm : X.mg "all" = none) (hcm : X.calm = true) (hN : X.N.Nodup) (TB : GxR.TabB X.base X.mg c P) (hcode : X.env.code = .ref c) (G : GenOk X.N X.env.scope scope own) (hi : PI X tg iter wi)
    (hg : ∀ (A : Around) (s : Shared) (H : Hp) (cl : List (Str × Addr)) (C : Addr) (code : Value) (fp : List Addr), PG (gblk X A s H (genEnv scope cl C code builtinsNs X.env) fp) tg g)
    (he : ∀ (A : Around) (s : Shared) (H : Hp) (cl : List (Str × Addr)) (C : Addr) (code : Value) (fp : List Addr), Room k A → PE (gblk X A s H (genEnv scope cl C code builtinsNs X.env) fp) elt te)
    (hs : ∀ v, genFold iter X.env v = pure v := by intro _; rfl)
    (hst : starEach [gExp elt tg iter scope gpos] X.env = (false, eval (gExp elt tg iter scope gpos) X.env) :: starEach [] X.env := by rfl) :
    PE X (.Call (.Name "all" p) [gExp elt tg iter scope gpos] [] pos) (tQuant true P wi g te (own.map (·.2))) := by
  refine ⟨fun pins s σ H Q I h => ?_⟩
  refine wpAny_Call_Name_kw (ld_blt I hgl hm boot_all ?_)
  refine PyProof.Rows.callWith_builtin1 ?_ hst (by rfl)
  rw [hst]
  show wpAny _ _ (spliced ((false, eval (gExp elt tg iter scope gpos) X.env) :: backTo pos (starEach [] X.env))) _ _ s
  refine Calls.spliced_cons (gen_made (cc := true) hr hcm hN TB hcode G hi hg he hs I h fun a s5 Xg gp fp tn W N gi hat hgen hback => Calls.spliced_nil ?_)
  refine call_function_tree F.kind_all F.plain_all F.entry_all (F.args_all1 _) ?_
  unfold Builtin.«all»
  refine wpAny_bind (m := oneArg "all" _) (wpAny_pure ?_)
  obtain ⟨⟨H5, I5, _⟩, _⟩ := id hat
  refine wpAny_bind (wpAny_pyIter_gen (hgen s5 H5 I5) ?_)
  refine wpAny_pure ⟨plainId_quiet F.plain_all_loop _, all_loop (A := X.A) hr.hd (by have := hr.dp; omega) hgen (fun b s' H' I' q => ?_) N 0 s5 (Nat.sub_zero _) (Nat.zero_le _) hat⟩
  exact ⟨.bl b, H', hback s' H' I', rfl, q⟩
end
end GX

set_option Elab.async false
set_option linter.all false
set_option maxRecDepth 100000
set_option maxHeartbeats 4000000
namespace GX
open PySem PySem.Spec PyProof.Rows L2 Evl DL

/-! ### tables tracked as tables, or whatever they hold -/
def reT (Ps : List Addr) (H : Hp) : Hp := fun b => if b ∈ Ps then some (TabE b) else H b
theorem reT_in {Ps : List Addr} {H : Hp} {b : Addr} (h : b ∈ Ps) : reT Ps H b = some (TabE b) := if_pos h
theorem reT_out {Ps : List Addr} {H : Hp} {b : Addr} (h : b ∉ Ps) : reT Ps H b = H b := if_neg h
/-- back: what the tables hold in the heap h -/
def tblOf (h : Heap) (b : Addr) : HO := match h.get? b with
  | some o => (match o.data with
    | .fields ps => .tbl ps
    | _ => .tbl #[])
  | none => .tbl #[]
def deT (Ps : List Addr) (h : Heap) (H : Hp) : Hp := fun b => if b ∈ Ps then some (tblOf h b) else H b
theorem deT_in {Ps : List Addr} {h : Heap} {H : Hp} {b : Addr} (e : b ∈ Ps) : deT Ps h H b = some (tblOf h b) := if_pos e
theorem deT_out {Ps : List Addr} {h : Heap} {H : Hp} {b : Addr} (e : b ∉ Ps) : deT Ps h H b = H b := if_neg e
def spT (Ps : List Addr) (sp : Sp) : Sp := fun vs H Q _ => (∀ b ∈ Ps, H b = some (.tbl #[])) ∧ sp vs (reT Ps H) (fun v H' => (∀ b ∈ Ps, H' b = some (TabE b)) ∧ ∀ Hb, Q v Hb) fun _ _ _ => False
theorem tblOf_eq {h : Heap} {b : Addr} {ps : Array Value} (e : h.get? b = some { cls := .none, data := .fields ps }) : tblOf h b = .tbl ps := by
  unfold tblOf
  rw [e]
theorem retrack {P : Program} {w : World} {K : PySem.W.Frag} {mg : Str → Option Value} {base : Heap} {k : Nat} {f : Addr} {fd : FuncData} {qs : List Str} {sp : Sp} {Ps : List Addr} (F : FnOk P w K mg base CX0 k f fd qs sp) : FnOk P w K mg base CX0 k f fd qs (spT Ps sp) := by
  refine ⟨fun vs H Q E h => F.len _ _ _ _ h.2, fun A outer s H args us vs Q E hr e0 hb hv hsp => ?_⟩
  obtain ⟨hH, hsp⟩ := hsp
  have out : ∀ b, H b = none → b ∉ Ps := fun b e z => by
    rw [hH b z] at e
    cases e
  have outT : ∀ b xs, H b = some (.tup xs) → b ∉ Ps := fun b xs e z => by
    rw [hH b z] at e
    cases e
  have outO : ∀ b x, H b = some (.own x) → b ∉ Ps := fun b x e z => by
    rw [hH b z] at e
    cases e
  have e1 : Env0 P w K mg base A outer s (reT Ps H) := by
    refine ⟨e0.frames, e0.mod, fun b o e => ⟨(e0.bs b o e).1, ?_⟩, e0.bsz, e0.funs, fun b hb => ?_, fun b u e => ?_, e0.bare⟩
    · rw [reT_out (out b (e0.bs b o e).2)]
      exact (e0.bs b o e).2
    · rw [reT_out (out b (e0.frf b hb))]
      exact e0.frf b hb
    · by_cases hbP : b ∈ Ps
      · rw [reT_in hbP] at e
        cases e
        have q : s.heap.get? b = some { cls := .none, data := .fields #[] } := e0.hok b _ (hH b hbP)
        exact tab_ok q True.intro
      · rw [reT_out hbP] at e
        exact (e0.hok b u e).stay (fun _ _ _ q => q) (fun c q => by rw [reT_out (outO c _ q)]; exact q) fun c xs q => by rw [reT_out (outT c _ q)]; exact q
  refine codeAny_mono (F.run A outer s (reT Ps H) args us vs _ _ hr e1 hb hv hsp) fun r s' h => ?_
  cases r with
  | error e => exact h
  | ok fl =>
    cases fl with
    | next => exact h
    | brk => exact h
    | cont => exact h
    | ret u =>
      obtain ⟨v, H1, os, bare, un, hok, rv, hT, hq⟩ := h
      have tabs : ∀ b ∈ Ps, ∃ ps, s'.heap.get? b = some { cls := .none, data := .fields ps } := fun b hb => by
        obtain ⟨⟨ps, e, _⟩, _⟩ := hok b _ (hT b hb)
        exact ⟨ps, e⟩
      refine ⟨v, deT Ps s'.heap H1, os, bare, ⟨fun b o e n hb hx => ?_, fun b o e n hb hx => ?_, fun b o e n hx => ?_, fun b o e hx => un.there b o e hx, fun b xs e => ?_, fun b o u e => ?_, fun b ps e => ?_⟩, fun b u e => ?_, rv, hq _⟩
      · exact un.keep b o e (by rw [reT_out (out b n)]; exact n) hb hx
      · exact un.slot b o e (by rw [reT_out (out b n)]; exact n) hb hx
      · rw [deT_out (out b n)]
        exact un.free b o e (by rw [reT_out (out b n)]; exact n) hx
      · rw [deT_out (outT b xs e)]
        exact un.tups b xs (by rw [reT_out (outT b xs e)]; exact e)
      · have z : b ∉ Ps := fun z => by
          rw [hH b z] at e
          cases e
        rw [deT_out z]
        exact un.frzs b o u (by rw [reT_out z]; exact e)
      · by_cases z : b ∈ Ps
        · rw [hH b z] at e
          cases e
          obtain ⟨qs, hqs⟩ := tabs b z
          exact ⟨qs, by rw [deT_in z, tblOf_eq hqs]; simp⟩
        · rw [deT_out z]
          exact un.tbls b ps (by rw [reT_out z]; exact e)
      · by_cases z : b ∈ Ps
        · rw [deT_in z] at e
          obtain ⟨qs, hqs⟩ := tabs b z
          rw [tblOf_eq hqs] at e
          cases e
          exact hqs
        · rw [deT_out z] at e
          have no1 : ∀ c x, H1 c = some (.own x) → c ∉ Ps := fun c x q z => by
            rw [hT c z] at q
            cases q
          have no2 : ∀ c xs, H1 c = some (.tup xs) → c ∉ Ps := fun c x q z => by
            rw [hT c z] at q
            cases q
          exact (hok b u e).stay (fun _ _ _ q => q) (fun c q => by rw [deT_out (no1 c _ q)]; exact q) fun c xs q => by rw [deT_out (no2 c _ q)]; exact q
/-- the law's end, with tables: xs, the defs' names with their code objects and tables -/
theorem walk_ofX {l : PySem.W.OpenLaw} {n k : Nat} {q : Program} {loose : List Str} {XP : (Str → Option Value) → Heap → Prop} {YP : World → Heap → Prop} {d : DefRec} {K : Params → PySem.W.Frag} {x : Str}
    (hn : l.most = some n) (hn2 : n ≤ sizeLine) (hdf : d.params.defaults = []) (hr : Room k callerA) (hY : ∀ (w : World) (h : Heap), YP w h → (K w.params).In h)
    (F : ∀ (w : World) (mg : Str → Option Value) (fa : Addr) (h : Heap), (K w.params).In h → h.Ns mainGlobals mg → mg d.name = some (.ref fa) →
      ∃ (xs : List (Str × Addr × Addr)) (fd : FuncData) (sp : Sp), (∀ p ∈ xs, ((recsOf q).any fun e => e.name == p.1) = true ∧ PySem.W.tabIn (K w.params) p.1 = some p.2 ∧ (K w.params).lookup p.2.2 = none) ∧
        (∀ (s : Shared) (u : Value), BindsTo s fd ⟨[u], []⟩ [(x, u)]) ∧
        (∀ (H : Hp) (a : Addr) (ns : List Int), ns.length ≤ n → (∀ p ∈ xs, H p.2.2 = some (TabE p.2.2)) → SqL (K w.params) H a (ns.map V.int) → sp [.ref a] H (fun v H' => (∀ p ∈ xs, H' p.2.2 = some (TabE p.2.2)) ∧ v = .bl true) fun _ _ _ => False) ∧
        ∀ base : Heap, (K w.params).In base → base.Ns mainGlobals mg → (∀ p ∈ xs, GxR.TabB base mg p.2.1 p.2.2) → FnOk l.prog w (K w.params) mg base CX0 k fa fd [x] sp) :
    PySem.W.WalkO q loose XP YP l.row.toRowW d [] (fun f vs => PySem.call f vs) := by
  refine Att.attach_callB hn hdf fun w s₀ s₁ mg mb fa o pm cd doc a vs ns G Y ho hd hcd hmg hobj hints hlen hbits hg => ?_
  have KX := hY w _ Y
  obtain ⟨xs, fd, sp, hx, hb, hsp, hF⟩ := F w mg fa _ KX G.T.g hmg
  have tabs : ∀ p ∈ xs, PySem.W.CodeHd s₁.heap p.2.1 p.2.2 ∧ s₁.heap.get? p.2.2 = some (PySem.W.tabObj #[]) := fun p hp => by
    obtain ⟨h1, h2, _⟩ := hx p hp
    cases hfd : (recsOf q).find? (fun e => e.name == p.1) with
    | none =>
      obtain ⟨e, he, hn⟩ := List.any_eq_true.mp h1
      exact absurd hn (List.find?_eq_none.mp hfd e he)
    | some d' => exact PySem.W.tab_of G.T KX hfd h2
  have mem2 : ∀ b, b ∈ xs.map (fun p => p.2.2) ↔ ∃ p ∈ xs, p.2.2 = b := fun b => List.mem_map
  refine LamX.law_callTs (cs := xs.map (·.2)) (CX := CX0) (sp := spT (xs.map (fun p => p.2.2)) sp) KX G.T.g G.T.b G.T.builtins G.T.nolimit hg (fun p hp => ?_) (fun p hp => ?_) (fun p hp => ?_) G.T.bmain hobj hints (Nat.le_trans hlen hn2) hr (fun base KB NB hTB => retrack (hF base KB NB fun p hp => ?_)) hb (fun H hH hS => ⟨fun b hbb => ?_, ?_⟩) fun H e s' h => h
  · obtain ⟨p', hp', rfl⟩ := List.mem_map.mp hp
    exact (tabs p' hp').2
  · obtain ⟨p', hp', rfl⟩ := List.mem_map.mp hp
    exact (hx p' hp').2.2
  · obtain ⟨p', hp', rfl⟩ := List.mem_map.mp hp
    exact (tabs p' hp').1
  · have z := hTB p.2 (List.mem_map.mpr ⟨p, hp, rfl⟩)
    exact ⟨z.code, z.bm, z.gP⟩
  · obtain ⟨p, hp, rfl⟩ := (mem2 b).mp hbb
    exact hH p.2 (List.mem_map.mpr ⟨p, hp, rfl⟩)
  · have inT : ∀ p ∈ xs, p.2.2 ∈ xs.map (fun p => p.2.2) := fun p hp => List.mem_map.mpr ⟨p, hp, rfl⟩
    have hnT : ∀ u, (∀ ps, u ≠ .tbl ps) → H a = some u → a ∉ xs.map (fun p => p.2.2) := fun u hu e z => by
      obtain ⟨p, hp, rfl⟩ := (mem2 a).mp z
      rw [hH p.2 (List.mem_map.mpr ⟨p, hp, rfl⟩)] at e
      cases e
      exact hu _ rfl
    have hS' : SqL (K w.params) (reT (xs.map (fun p => p.2.2)) H) a (ns.map V.int) := by
      rcases hS with (e | ⟨o', e⟩) | e
      · exact .inl (.inl (by rw [reT_out (hnT _ (fun ps z => by cases z) e)]; exact e))
      · exact .inl (.inr ⟨o', by rw [reT_out (hnT _ (fun ps z => by cases z) e)]; exact e⟩)
      · exact .inr e
    have z := hsp (reT (xs.map (fun p => p.2.2)) H) a ns hlen (fun p hp => reT_in (inT p hp)) hS'
    refine cast ?_ z
    congr 1
    funext v H'
    refine propext ⟨fun ⟨h1, h2⟩ => ⟨fun b hb => ?_, fun _ => h2⟩, fun ⟨h1, h2⟩ => ⟨fun p hp => h1 _ (inT p hp), h2 H'⟩⟩
    obtain ⟨p, hp, rfl⟩ := (mem2 b).mp hb
    exact h1 p hp
end GX

set_option Elab.async false
set_option linter.all false
set_option maxRecDepth 100000
set_option maxHeartbeats 4000000
namespace GX
open PySem PySem.Spec PyProof.Rows L2 Evl DL

/-! ### all(..) by data -/
section
variable {K : PySem.W.Frag} {σ : L2.St} {H : Hp} {te : TE} {wi : TI} {g : TG}
theorem ed_allG {P : Addr} {vs : List Nat} {ds : List PyData} (f : PyData → Bool) (hw : EvW K wi σ H ds) (hP : H P = some (TabE P))
    (hs : ∀ (i : Nat) (d : PyData) (x : V) (H1 : Hp), Ex H H1 → ds[i]? = some d → Dp K H1 x d → ∃ σ2, TgD g x (wipe σ vs) H1 σ2 ∧ wipe σ2 vs = wipe σ vs ∧ EvD K te σ2 H1 (.bool (f d))) :
    EvD K (tQuant true P wi g te vs) σ H (.bool (ds.all f)) := fun H0 e0 Q q => hw H0 e0 _ fun J H1 e1 wk => by
  obtain ⟨G, Y, wlk, hG, hY⟩ := wk
  refine ⟨(e0.trans e1) _ _ hP, ds.length, fun i H' => Ex H1 H' ∧ i ≤ ds.length ∧ (ds.take i).all f = true, ⟨Ex.refl H1, Nat.zero_le _, rfl⟩, fun i H' hW => ?_⟩
  obtain ⟨ex, hi, hall⟩ := hW
  by_cases hlt : i < ds.length
  · refine .inr ⟨wlk.goes i H' hlt (hG H' ex), hlt, fun x H2 hy => ?_⟩
    obtain ⟨ey, d, hd, hdp⟩ := hY i H' x H2 ex (wlk.yields i H' x H2 hlt (hG H' ex) hy)
    obtain ⟨σ2, tg, hwp, hev⟩ := hs i d x H2 ((e0.trans e1).trans (ex.trans ey)) hd hdp
    refine tg H2 (Ex.refl H2) _ ⟨hwp, hev H2 (Ex.refl H2) _ fun v H3 e3 hv => ⟨f d, dp_bool hv, ?_⟩⟩
    by_cases hf : f d = true
    · rw [if_pos hf]
      refine ⟨(ex.trans ey).trans e3, hlt, ?_⟩
      rw [List.take_add_one, hd, List.all_append, hall]
      simp [hf]
    · rw [if_neg hf]
      have hff : f d = false := by simpa using hf
      have hz : ds.all f = false := by
        rw [List.all_eq_false]
        exact ⟨d, List.mem_of_getElem? hd, hf⟩
      have hq := q (.bl (ds.all f)) H3 (e1.trans ((ex.trans ey).trans e3)) (.bl _)
      rw [hz] at hq
      rw [hff]
      exact hq
  · have hin : i = ds.length := by omega
    subst hin
    refine .inl ⟨wlk.stops H' (hG H' ex), ?_⟩
    rw [List.take_of_length_le (Nat.le_refl _)] at hall
    have hq := q (.bl (ds.all f)) H' (e1.trans ex) (.bl _)
    rw [hall] at hq
    exact hq
end
/-! ### a def whose code object is known -/
structure FunC (K : PySem.W.Frag) (x qual : Str) (st : Stmt) (f : Addr) (fd : FuncData) (c : Addr) : Prop where
  ex : ∃ (oc : Value) (od : Option Addr) (kV doc pm : Value) (an : Option Addr) (ct : Value) (osl : Array (Option Value)),
    fd = PySem.W.fnOf x qual (defArgs st) (defBody st) (defScope st) .none kV doc pm an (.ref c) ct ∧ K.lookup f = some ⟨oc, od, .func fd, osl⟩ ∧ PySem.W.codeIn K (.ref c) qual = true
  kp : PySem.W.keepIn K (.ref f) = true
section
variable {P : Program} {w : World} {K : PySem.W.Frag} {mg : Str → Option Value} {base : Heap} {x qual : Str} {st : Stmt} {f c : Addr} {fd : FuncData}
theorem FunC.fn (F : FunC K x qual st f fd c) : Fun K x qual st f fd := by
  obtain ⟨⟨oc, od, kV, doc, pm, an, ct, osl, h1, h2, h3⟩, kp⟩ := F
  exact ⟨⟨oc, od, kV, doc, pm, an, .ref c, ct, osl, h1, h2, h3⟩, kp⟩
theorem FunC.ok {N ps : List Str} {k : Nat} {sp : Sp} (F : FunC K x qual st f fd c) (S : FnScope N ps (defScope st)) (len : ∀ vs H Q E, sp vs H Q E → vs.length = ps.length)
    (hbody : ∀ (A : Around) (outer : List Env) (s : Shared) (H : Hp) (vs : List V) (Q : VK) (E : XK), Room k (A.deeper (envOfC qual (defScope st) s.heap.objs.size f (.ref c))) → sp vs H Q E →
      ∃ t, PSs (cxOf CX0 P w K mg base N qual (defScope st) f (.ref c) A outer s H E).nox (defBody st) t ∧ t { nx := fun _ H' => Q .non H', rt := Q } (start N vs) H) : FnOk P w K mg base CX0 (k + 1) f fd ps sp := by
  obtain ⟨oc, od, kV, doc, pm, an, ct, osl, rfl, lk, hcd⟩ := F.ex
  refine fn_of lk hcd S len fun A outer s H vs Q E hr hsp => ?_
  obtain ⟨t, h1, h2⟩ := hbody A outer s H vs Q E hr hsp
  exact ⟨t, h1.nox, h2⟩
theorem func_mk {oc : Value} {od an : Option Addr} {osl : Array (Option Value)} {kV doc pm ct : Value} (l : K.lookup f = some ⟨oc, od, .func (PySem.W.fnOf x qual (defArgs st) (defBody st) (defScope st) .none kV doc pm an (.ref c) ct), osl⟩)
    (h : PySem.W.codeIn K (.ref c) qual = true) (k : PySem.W.keepIn K (.ref f) = true) : FunC K x qual st f (PySem.W.fnOf x qual (defArgs st) (defBody st) (defScope st) .none kV doc pm an (.ref c) ct) c := ⟨⟨oc, od, kV, doc, pm, an, ct, osl, rfl, l, h⟩, k⟩
end
end GX

set_option Elab.async false
set_option linter.all false
set_option maxRecDepth 100000
set_option maxHeartbeats 4000000
/-! for i, x in enumerate(t), t a tuple. -/
namespace GX
open PySem PySem.Spec PyProof.Rows L2 Evl DL
theorem enum_new1 {v : Value} {o : Obj} {HH : Heap → Prop} (B : Begins v o HH) :
    Meets (Builtin.«enumerate.__new__» ⟨[.type "enumerate", v], []⟩) (fun _ R s => HH s.heap ∧
      R (.ok (.ret (.ref (s.heap.push o).objs.size))) { s with heap := (s.heap.push o).push { cls := .type "enumerate", data := .fields #[.none, .bool false, .ref s.heap.objs.size, rawInt 0, .none, .none] } }) :=
  .of_wp fun prog w A R s hh => by
    obtain ⟨hp, gs, dr, tk, os⟩ := s
    obtain ⟨k1, kr⟩ := hh
    have sb := sub_enumerate
    have it1 : ∀ {A' : Around} {E : Value → Shared → Prop} {Q : Value → Shared → Prop}, Q (.ref hp.objs.size) ⟨hp.push o, gs, dr, tk, os⟩ → wpAny (model prog w) A' (pyIter v) Q E ⟨hp, gs, dr, tk, os⟩ :=
      fun kq => B.iter prog w _ _ ⟨hp, gs, dr, tk, os⟩ _ k1 kq
    wp_walk using it1
    refine wpAny_stack_any fun st => wpAny_pure ?_
    split
    · rename_i c _ _ _ _ _
      cases (c == Value.type "enumerate")
      · wp_walk using it1
        exact ⟨_, rfl, kr⟩
      · wp_walk using it1
        exact ⟨_, rfl, kr⟩
    · wp_walk using it1
      exact ⟨_, rfl, kr⟩
theorem call_enum1 {prog : Program} {w : World} {A : Around} {E : Value → Shared → Prop} {s : Shared} {v : Value} {o : Obj} {HH : Heap → Prop} {Q : Value → Shared → Prop} (B : Begins v o HH) (k1 : HH s.heap)
    (kq : ∀ h', IsEnum h' (s.heap.objs.size + 1) s.heap.objs.size 0 .none → h'.get? s.heap.objs.size = some o → h'.objs.size = s.heap.objs.size + 2 → (∀ b o, s.heap.get? b = some o → h'.get? b = some o) → Q (.ref (s.heap.objs.size + 1)) { s with heap := h' }) :
    wpAny (model prog w) A (call (.type "enumerate") [v]) Q E s := by
  refine callType_new F.called_enumerate (by decide) (F.typeCall_enumerate_1 _) (F.newCall_enumerate_1 _) (fun obj => F.args_object_init_2 obj _) F.entry_enumerate_new (enum_new1 B) ⟨k1, ?_⟩
  have sz1 : (s.heap.push o).objs.size = s.heap.objs.size + 1 := Heap.size_push ..
  show _ ∧ _
  rw [sz1]
  have isE : IsEnum ((s.heap.push o).push { cls := .type "enumerate", data := .fields #[.none, .bool false, .ref s.heap.objs.size, rawInt 0, .none, .none] }) (s.heap.objs.size + 1) s.heap.objs.size 0 .none := by
    have z := Heap.get?_push_size (s.heap.push o) (o := { cls := .type "enumerate", data := .fields #[.none, .bool false, .ref s.heap.objs.size, rawInt 0, .none, .none] }) rfl
    rw [sz1] at z
    exact z
  exact ⟨⟨_, isE, rfl⟩, kq _ isE (Heap.get?_push_of_some _ (Heap.get?_push_size _ B.free)) (by rw [Heap.size_push, sz1]) fun b o x => Heap.get?_push_of_some _ (Heap.get?_push_of_some _ x)⟩
/-- turn i: a new pair of i and the i-th item -/
def IteT (K : PySem.W.Frag) (a : Addr) : It :=
  ⟨fun i H => ∃ (xs : List V) (x : V), SqT K H a xs ∧ xs[i]? = some x, fun i H v H' => ∃ T x, v = .ref T ∧ H T = none ∧ H' = upd H T (.tup [.int (i : Nat), x]) ∧ ∀ xs, SqT K H a xs → xs[i]? = some x, fun i H => ∃ xs : List V, SqT K H a xs ∧ xs.length ≤ i⟩
theorem turn_enumT {P : Program} {w : World} {K : PySem.W.Frag} {elts : List Expr} {kk : Nat} {tpos : Pos} (a e it : Addr) (hai : a ≠ it) (hae : e ≠ a) :
    Turn P w K (.Tuple elts kk tpos) (IteT K a) [e, it] e (fun i h => (∃ old, IsEnum h e it ((i : Nat) : Int) old) ∧ h.IsTupleIter it a i ∧ e ≠ it) where
  mem := by simp
  obj := fun i h st b hb => by
    obtain ⟨⟨old, he⟩, ⟨o, ho, _, hd⟩, _⟩ := st
    rcases List.mem_cons.mp hb with z | z
    · subst z
      exact ⟨_, he, fun v q => nomatch q⟩
    · rw [List.mem_singleton] at z
      subst z
      exact ⟨o, ho, fun v q => by rw [hd] at q; cases q⟩
  keep := fun i h h' st k => by
    obtain ⟨⟨old, he⟩, hi, hne⟩ := st
    exact ⟨⟨old, k e (by simp) _ he⟩, hi.at fun o q => k it (by simp) o q, hne⟩
  item := by
    intro X hP hw hK hc i pins s σ H E I hf st hg
    subst hP hw hK
    obtain ⟨⟨old, he⟩, hit, hne⟩ := st
    obtain ⟨xs, x, hq, hx⟩ := hg
    obtain ⟨its, rv, p, hz⟩ := I.tuple hq
    obtain ⟨u, hu, ru⟩ := rv.get hx
    have hlt : i < its.toArray.size := by
      have := (List.getElem?_eq_some_iff.mp hu).1
      simpa using this
    have hel : e < s.heap.objs.size := Heap.lt_size he
    have hil : it < s.heap.objs.size := by
      obtain ⟨_, q, _⟩ := hit
      exact Heap.lt_size q
    have hTp : s.heap.IsTuple a its.toArray := p
    refine wpAny_pyNext_enum_itemD (Draws.tuple (A := X.A.in1) (I.ok.hd hc) it a hai its.toArray) he ⟨hit, hTp⟩ hlt hne (by simp [hne, hae]) fun y h' tk hy hout hst' hT hsz hk => ?_
    have ey : y = u := by
      have h2 : its.toArray[i]? = some u := by simpa using hu
      rw [h2] at hy
      exact (Option.some.inj hy).symm
    subst ey
    refine ⟨_, rfl, wpAny_letOwnedTupleGo_enum (s := { s with heap := h', toks := tk + 1 }) hout fun h'' he' sb => ?_⟩
    have hT2 : h''.get? s.heap.objs.size = some { cls := .type "tuple", data := .seq #[.int i tk, y] } := (sb.2 _ (Nat.ne_of_gt hel)).trans hT
    have new : ObjOk X.prog X.w (upd H s.heap.objs.size (.tup [.int (i : Nat), x])) h'' s.heap.objs.size (.tup [.int (i : Nat), x]) :=
      ⟨by show 2 ≤ sizeLine; decide, [.int i tk, y], .cons ⟨_, rfl⟩ (.cons ru .nil), ⟨_, hT2, rfl, _, rfl⟩⟩
    have I1 : Inv X pins σ (upd H s.heap.objs.size (.tup [.int (i : Nat), x])) { s with heap := h'', toks := tk + 1 } :=
      I.turnedNew (ch := [e, it]) (fun b ob hb q => (sb.2 b (fun z => hb (by simp [z]))).trans (hk b ob (fun z => hb (by simp [z])) (fun z => hb (by simp [z])) q)) hf (Nat.le_refl _) new
    refine ⟨.ref s.heap.objs.size, _, I1, rfl, ⟨_, x, rfl, I.hok.fresh (Nat.le_refl _), rfl, fun ys hy => by rw [I.tuple_inj hy hq]; exact hx⟩, ⟨⟨y, ?_⟩, hst'.1.at fun o q => (sb.2 it (Ne.symm hne)).trans q, hne⟩, fun b hb => ?_⟩
    · have e1 : ((i + 1 : Nat) : Int) = (i : Int) + 1 := by omega
      rw [e1]
      exact he'
    · have hb' : b < s.heap.objs.size := by
        rcases List.mem_cons.mp hb with z | z
        · rw [z]
          exact hel
        · rw [List.mem_singleton.mp z]
          exact hil
      rw [upd_ne (Nat.ne_of_lt hb')]
      exact (hf b hb).1
  done := by
    intro X hP hw hK hc i pins s σ H E I hf st hg
    subst hP hw hK
    obtain ⟨⟨old, he⟩, hit, hne⟩ := st
    obtain ⟨xs, hq, hx⟩ := hg
    obtain ⟨its, rv, p, hz⟩ := I.tuple hq
    have hTp : s.heap.IsTuple a its.toArray := p
    obtain ⟨f0, f1, f2, f3, f4, f5⟩ := hf it (by simp)
    have D : Draws X.prog X.w X.A.in1 it [it, a] i (fun _ _ => False) (fun j h => j = i ∧ h.IsTupleIter it a i ∧ h.IsTuple a its.toArray) :=
      { live := fun _ _ st => by
          obtain ⟨_, ⟨o, ho, _⟩, _⟩ := st
          exact ⟨o, ho⟩
        frame := fun _ _ _ st hk => ⟨st.1, st.2.1.at fun o e => hk it (by simp) o e, st.2.2.at fun o e => hk a (by simp) o e⟩
        item := fun j s Q E hj st _ => absurd st.1 (Nat.ne_of_lt hj)
        done := fun s Q E st hE => wpAny_nextOf_tuple_end (I.ok.hd hc) st.2.1 st.2.2 (by have := rv.length; simp; omega) hE }
    exact wpAny_pyNext_enum_endD D he ⟨rfl, hit, hTp⟩ fun h' eb => ⟨rfl, I.turned (t' := s.toks) (fun b o hb q => eb b o hb q) f0 f1 f3 f4 f5⟩
  self := fun A i s Q E st h => by
    obtain ⟨⟨_, he⟩, _⟩ := st
    exact wpAny_pyIter_enum he h
def iEnumT (K : PySem.W.Frag) (ta : TA) : TI := fun σ H R => ta σ H fun vs H1 => ∃ a xs, vs = [.ref a] ∧ SqT K H1 a xs ∧ R (IteT K a) H1
theorem pi_enumT {X : Cx} {e : Expr} {ta : TA} {p pos tpos : Pos} {elts : List Expr} {kk : Nat} (hg : Gl X "enumerate") (hm : X.mg "enumerate" = none) (ha : PA X [e] ta) (hs : starEach [e] X.env = [(false, eval e X.env)] := by rfl) :
    PI X (.Tuple elts kk tpos) (.Call (.Name "enumerate" p) [e] [] pos) (iEnumT X.K ta) := by
  refine ⟨fun pins s σ H R I h => ?_⟩
  refine Call_ (ld_blt I hg hm boot_enumerate (PyProof.Rows.callWith_type1 (thn (ha.run pos pins s σ H _ I h) fun us s1 ⟨vs, H1, I1, r1, q1⟩ => ?_) hs rfl))
  obtain ⟨a, xs, ex, hq, q⟩ := q1
  subst ex
  cases r1 with
  | cons r rr =>
    cases rr
    cases r
    obtain ⟨its, rv, p', hz⟩ := I1.tuple hq
    have hTp : s1.heap.IsTuple a its.toArray := p'
    have hal : a < s1.heap.objs.size := by
      obtain ⟨o, ho, _⟩ := hTp
      exact Heap.lt_size ho
    refine call_enum1 (begins_tuple a its.toArray) hTp fun h' he hit hsz hk => wpAny_pyIter_enum he ?_
    have I2 : Inv X pins σ H1 { s1 with heap := h' } := I1.kept (t' := s1.toks) hk
    refine ⟨s1.heap.objs.size + 1, [s1.heap.objs.size + 1, s1.heap.objs.size], _, _, H1, rfl, I2, turn_enumT a (s1.heap.objs.size + 1) s1.heap.objs.size (Nat.ne_of_lt hal) (Nat.ne_of_gt (Nat.lt_succ_of_lt hal)), ⟨⟨.none, he⟩, ⟨_, hit, rfl, rfl⟩, Nat.succ_ne_self _⟩, fun b hb => ?_, q⟩
    rcases List.mem_cons.mp hb with z | z
    · rw [z]
      exact I1.fpOk (Nat.le_succ _) (I1.hok.fresh (Nat.le_succ _))
    · rw [List.mem_singleton.mp z]
      exact I1.fpOk (Nat.le_refl _) (I1.hok.fresh (Nat.le_refl _))
end GX

set_option Elab.async false
set_option linter.all false
set_option maxRecDepth 100000
set_option maxHeartbeats 4000000
/-! tuple(e for t in it), whatever the elements do. -/
namespace GX
open PySem PySem.Spec PyProof.Rows L2 Evl DL
/-- W by the turn and what was told so far -/
def tTupG (P : Addr) (wi : TI) (g : TG) (te : TE) (vs : List Nat) : TE := fun σ H Q => wi σ H fun J H1 => H1 P = some (TabE P) ∧ ∃ (N : Nat) (W : Nat → List V → Hp → Prop), N ≤ 100000 ∧ W 0 [] H1 ∧
  ∀ i acc H, W i acc H → (J.stop i H ∧ ∀ p, H p = none → Q (.ref p) (upd H p (.tup acc))) ∨ (J.go i H ∧ i < N ∧ ∀ x H', J.yld i H x H' → g x (wipe σ vs) H' fun σ2 H2 => wipe σ2 vs = wipe σ vs ∧ te σ2 H2 fun y H4 => W (i + 1) (acc ++ [y]) H4)
theorem vals_snoc : ∀ {ys : List V} {us : List Value} {y : V} {u : Value}, Vals ys us → RelV y u → Vals (ys ++ [y]) (us ++ [u])
  | [], _, _, _, h, r => by cases h; exact .cons r .nil
  | _ :: _, _, _, _, h, r => by
    cases h with
    | cons h1 h2 => exact .cons h1 (vals_snoc h2 r)
/-- a turn may begin, the list at S has what was told -/
def GV (Xg : Cx) (gp : List (Addr × Obj)) (S : Addr) (τ : L2.St) (fp : List Addr) (tn : Nat → Heap → Prop) (W : Nat → List V → Hp → Prop) (i : Nat) (acc : List V) (s : Shared) : Prop :=
  ∃ (H' : Hp) (us : Array Value) (c : Nat), Inv Xg (gp ++ [(S, lstObj us c)]) τ H' s ∧ tn i s.heap ∧ (∀ b ∈ fp, H' b = none) ∧ Vals acc us.toList ∧ acc.length = i ∧ W i acc H'
def gRv (Xg : Cx) (gp : List (Addr × Obj)) (S : Addr) (τ : L2.St) (N : Nat) (Qt : List V → Hp → Prop) : GenEnd := fun _ _ r s₁ => r = .ok .next ∧ ∃ (H' : Hp) (us : Array Value) (c : Nat) (acc : List V), Inv Xg (gp ++ [(S, lstObj us c)]) τ H' s₁ ∧ Vals acc us.toList ∧ acc.length ≤ N ∧ Qt acc H'
def gYv (Xg : Cx) (gp : List (Addr × Obj)) (S : Addr) (τ : L2.St) (fp : List Addr) (tn : Nat → Heap → Prop) (W : Nat → List V → Hp → Prop) (N : Nat) : Protocol := fun n _ v s kap =>
  ∃ (i : Nat) (acc : List V) (y : V), n = N - (i + 1) ∧ i + 1 ≤ N ∧ (∃ (H' : Hp) (us : Array Value) (c : Nat), Inv Xg (gp ++ [(S, lstObj us c)]) τ H' s ∧ tn (i + 1) s.heap ∧ (∀ b ∈ fp, H' b = none) ∧ Vals acc us.toList ∧ acc.length = i ∧ RelV y v ∧ W (i + 1) (acc ++ [y]) H') ∧
    ∀ s'', GV Xg gp S τ fp tn W (i + 1) (acc ++ [y]) s'' → kap (.send .none) s''
theorem gen_segV {X : Cx} {A : Around} {elt tg iter : Expr} {scope : Scope} {pos : Pos} {ge : Env} {s3 : Shared} {H3 : Hp} {fp : List Addr} {it S : Addr} {tn : Nat → Heap → Prop} {J : It} {g : TG} {te : TE} {vs : List Nat} {σ : L2.St} {gp : List (Addr × Obj)} {N : Nat} {W : Nat → List V → Hp → Prop} {Qt : List V → Hp → Prop}
    (hc : X.calm = true) (hco : ge.scope.isCoroutine = false) (T : Turn X.prog X.w X.K tg J fp it tn) (hgp : ∀ p ∈ gp, ∀ b ∈ fp, p.1 ≠ b) (hSf : S ∉ fp)
    (pg : PG (gblk X (A.over (gLoop elt tg iter scope pos it ge) []) s3 H3 ge fp) tg g) (pe : PE (gblk X (A.over (gLoop elt tg iter scope pos it ge) []) s3 H3 ge fp) elt te)
    (turn : ∀ i acc H, W i acc H → (J.stop i H ∧ Qt acc H) ∨ (J.go i H ∧ i < N ∧ ∀ x H', J.yld i H x H' → g x (wipe σ vs) H' fun σ2 H2 => wipe σ2 vs = wipe σ vs ∧ te σ2 H2 fun y H4 => W (i + 1) (acc ++ [y]) H4)) :
    ∀ (k i : Nat) (acc : List V) (s₀ s : Shared), N - i = k → i ≤ N → GV (gblk X (A.over (gLoop elt tg iter scope pos it ge) []) s3 H3 ge fp) gp S (wipe σ vs) fp tn W i acc s →
      Seg (model X.prog X.w) A (gRv (gblk X (A.over (gLoop elt tg iter scope pos it ge) []) s3 H3 ge fp) gp S (wipe σ vs) N Qt) (gYv (gblk X (A.over (gLoop elt tg iter scope pos it ge) []) s3 H3 ge fp) gp S (wipe σ vs) fp tn W N) k s₀
        (gLoop elt tg iter scope pos it ge) ((model X.prog X.w).den (gLoop elt tg iter scope pos it ge)) [] s := by
  generalize hXg : gblk X (A.over (gLoop elt tg iter scope pos it ge) []) s3 H3 ge fp = Xg at pg pe
  have hXA : Xg.A = A.over (gLoop elt tg iter scope pos it ge) [] := by rw [← hXg]
  have hXp : Xg.prog = X.prog := by rw [← hXg]
  have hXw : Xg.w = X.w := by rw [← hXg]
  have hXK : Xg.K = X.K := by rw [← hXg]
  have hXc : Xg.calm = true := by rw [← hXg]; exact hc
  have hXe : Xg.env = ge := by rw [← hXg]
  have hXx : Xg.ex = fp := by rw [← hXg]
  have hXn : Xg.pn = [] := by rw [← hXg]
  have hXf : Xg.xe = fun _ _ => False := by rw [← hXg]
  have hgp' : ∀ (us : Array Value) (c : Nat), ∀ p ∈ gp ++ [(S, lstObj us c)], ∀ b ∈ fp, p.1 ≠ b := fun us c p hp b hb => by
    rcases List.mem_append.mp hp with z | z
    · exact hgp p z b hb
    · rw [List.mem_singleton.mp z]
      exact fun e => hSf (by rw [show S = b from e]; exact hb)
  have stat : ∀ {us : Array Value} {c : Nat} {σ' : L2.St} {H' : Hp} {s' : Shared}, Inv Xg (gp ++ [(S, lstObj us c)]) σ' H' s' → (∀ b ∈ fp, H' b = none) → ∀ b ∈ fp, FpOk Xg (gp ++ [(S, lstObj us c)]) H' b := fun {us c σ' H' s'} I' hn b hb => by
    have hbx : b ∈ Xg.ex := by rw [hXx]; exact hb
    refine ⟨hn b hb, (I'.ok.exf b hbx).1, I'.ok.exfs b hbx, .inl hbx, fun x c e => (I'.ok.exf b hbx).2 x c e, fun p hp => ?_⟩
    rw [hXn, List.nil_append] at hp
    exact hgp' us c p hp b hb
  have hy : ∀ v, yieldOut ge v = yieldValue v := fun v => by simp only [yieldOut, hco, Bool.false_eq_true, if_false]
  intro k
  induction k with
  | zero =>
    intro i acc s₀ s hk hi hG
    obtain ⟨H5, us, c, I5, st5, n5, hv5, hl5, w5⟩ := hG
    show Seg _ A _ _ _ s₀ _ ((compTurn (gExp elt tg iter scope pos) 0 (.ref it) .none ge).onRaise (leaving ge)) [] s
    rw [compTurn_gen, Sem.onRaise_eq_wrap]
    refine seg_bind_wrap (wpAny_standAt ?_)
    rcases turn i acc H5 w5 with ⟨stop, qq⟩ | ⟨_, hlt, _⟩
    · have td := T.done Xg hXp hXw hXK hXc i _ s _ H5 (fun _ _ => False) I5 (stat I5 n5) st5 stop
      rw [hXA] at td
      refine seg_bind_wrap (thnF td fun r s6 ⟨hr, I6⟩ => ?_)
      subst hr
      exact seg_end (.ok .next) ⟨rfl, H5, us, c, acc, I6, hv5, by omega, qq⟩
    · omega
  | succ k ih =>
    intro i acc s₀ s hk hi hG
    obtain ⟨H5, us, c, I5, st5, n5, hv5, hl5, w5⟩ := hG
    show Seg _ A _ _ _ s₀ _ ((compTurn (gExp elt tg iter scope pos) 0 (.ref it) .none ge).onRaise (leaving ge)) [] s
    rw [compTurn_gen, Sem.onRaise_eq_wrap]
    refine seg_bind_wrap (wpAny_standAt ?_)
    rcases turn i acc H5 w5 with ⟨stop, qq⟩ | ⟨go, hlt, step⟩
    · have td := T.done Xg hXp hXw hXK hXc i _ s _ H5 (fun _ _ => False) I5 (stat I5 n5) st5 stop
      rw [hXA] at td
      refine seg_bind_wrap (thnF td fun r s6 ⟨hr, I6⟩ => ?_)
      subst hr
      exact seg_end (.ok .next) ⟨rfl, H5, us, c, acc, I6, hv5, by omega, qq⟩
    · have ti := T.item Xg hXp hXw hXK hXc i _ s _ H5 (fun _ _ => False) I5 (stat I5 n5) st5 go
      rw [hXA] at ti
      refine seg_bind_wrap (thnF ti fun r s6 ⟨u, hr, h6⟩ => ?_)
      subst hr
      refine seg_bind_wrap (thnF h6 fun _ s7 ⟨x, H7, I7, r7, y7, st7, n7⟩ => ?_)
      have I7' := I7.pinned (stat I7 n7) (T.obj _ _ st7)
      have rg := pg.run _ s7 _ H7 x u _ I7' r7 (step x H7 y7)
      rw [hXA, hXe, hXf, hXp, hXw] at rg
      refine seg_bind_wrap (thnF rg fun _ s8 ⟨σ8, H8, I8, hw8, q8⟩ => ?_)
      refine seg_bind_wrap (wpAny_tests_nil ?_)
      simp only [if_true]
      simp only [hy]
      rw [Sem.bind_eq_wrap', Sem.bind_eq_wrap', Sem.wrap_wrap, Sem.wrap_wrap]
      have re := pe.run _ s8 σ8 H8 _ I8 q8
      rw [hXA, hXe, hXf, hXp, hXw] at re
      refine seg_wrap (thnF re fun z s9 ⟨yv, H9, I9, r9, q9⟩ => ?_)
      have pin' : ∀ b ∈ fp, ∀ o, s7.heap.get? b = some o → s9.heap.get? b = some o ∧ H9 b = none := fun b hb o e => by
        have z := I9.pin (b, o) (List.mem_append_right _ (List.mem_append_right _ (mem_pinsAt hb e)))
        exact ⟨z.1, z.2.1⟩
      have hl : (wipe σ vs).length = σ8.length := by rw [← hw8, wipe_length]
      have I9' : Inv Xg (gp ++ [(S, lstObj us c)]) (wipe σ vs) H9 s9 := (I9.unpinned (pins := gp ++ [(S, lstObj us c)])).weak hl fun j v e => by
        rw [← hw8] at e
        exact (wipe_some e).1
      refine seg_at (seg_yield rfl rfl rfl ⟨i, acc, yv, by omega, by omega, ⟨H9, us, c, I9', T.keep _ _ _ st7 fun b hb o e => (pin' b hb o e).1, fun b hb => ?_, hv5, hl5, r9, q9⟩, fun s'' hG'' => ?_⟩)
      · obtain ⟨o, e, _⟩ := T.obj _ _ st7 b hb
        exact (pin' b hb o e).2
      · exact seg_again rfl (ih (i + 1) (acc ++ [yv]) s'' s'' (by omega) (by omega) hG'')
end GX

set_option Elab.async false
set_option linter.all false
set_option maxRecDepth 100000
set_option maxHeartbeats 4000000
namespace GX
open PySem PySem.Spec PyProof.Rows L2 Evl DL
/-- the list at S is written -/
theorem pin_push {Xg : Cx} {gp : List (Addr × Obj)} {S : Addr} {τ : L2.St} {H' : Hp} {s : Shared} {us vs : Array Value} {c c' : Nat} {h' : Heap} {t' : Nat} (I : Inv Xg (gp ++ [(S, lstObj us c)]) τ H' s) (h0 : Xg.s_0.heap.objs.size ≤ S) (hp : ∀ p ∈ Xg.pn ++ gp, p.1 ≠ S)
    (k : ∀ b o, b ≠ S → s.heap.get? b = some o → h'.get? b = some o) (hS : h'.get? S = some (lstObj vs c')) : Inv Xg (gp ++ [(S, lstObj vs c')]) τ H' { s with heap := h', toks := t' } := by
  have z := I.pin (S, lstObj us c) (List.mem_append_right _ (List.mem_append_right _ (List.mem_singleton.mpr rfl)))
  have J : Inv Xg gp τ H' { s with heap := h', toks := t' } := (I.unpinned (pins := gp)).turned (it := S) k z.2.1 z.2.2.1 (.inr h0) (fun x d e q => by
    obtain ⟨v, o, ho, hd⟩ := I.cell x d e
    rw [q, z.1] at ho
    cases ho
    cases hd) hp
  refine J.pins_of fun p hp' => ?_
  rcases List.mem_append.mp hp' with q | q
  · exact J.pin p (List.mem_append_right _ q)
  · rw [List.mem_singleton.mp q]
    exact ⟨hS, z.2.1, z.2.2.1, z.2.2.2.1, fun v q => nomatch q⟩
theorem tup_loop {X Xg : Cx} {A : Around} {gp : List (Addr × Obj)} {S : Addr} {τ : L2.St} {fp : List Addr} {tn : Nat → Heap → Prop} {W : Nat → List V → Hp → Prop} {Qt : List V → Hp → Prop} {N g : Nat} {a : Addr} {res : Value} {R : Result → Shared → Prop}
    (hh : A.handled = none) (hroom : A.depth < recursionLimit) (hN : N ≤ 100000) (h0 : Xg.s_0.heap.objs.size ≤ S) (hpS : ∀ p ∈ Xg.pn ++ gp, p.1 ≠ S) (hSf : S ∉ fp)
    (tk : ∀ i h h', tn i h → (∀ b ∈ fp, ∀ o, h.get? b = some o → h'.get? b = some o) → tn i h')
    (hgen : ∀ s' H' us c, Inv Xg (gp ++ [(S, lstObj us c)]) τ H' s' → s'.heap.IsGen a g)
    (hR : ∀ s' H' us c acc, Inv Xg (gp ++ [(S, lstObj us c)]) τ H' s' → Vals acc us.toList → acc.length ≤ N → Qt acc H' → R (.ok (.ret res)) s') :
    ∀ (k i : Nat) (acc : List V) (s : Shared), N - i = k → i ≤ N → GV Xg gp S τ fp tn W i acc s →
      (∃ gs, s.gens[g]? = some gs ∧ ∀ s'', GV Xg gp S τ fp tn W i acc s'' → gs.Goes (model X.prog X.w) A.in1.in1 (gRv Xg gp S τ N Qt) (gYv Xg gp S τ fp tn W N) (N - i) (.send .none) s'') →
      codeAny (model X.prog X.w) A (.builtin "list.extend.loop" ⟨[.ref S, .ref a, res], []⟩) R s := by
  intro k
  induction k using Nat.strongRecOn with
  | ind k ih =>
    intro i acc s hk hi hG hgs
    obtain ⟨H', us, c, I, st, nf, hv, hl, hw⟩ := id hG
    obtain ⟨gs, hgs, hgo⟩ := hgs
    have hsz : g + 1 ≤ s.gens.size := by
      rcases Nat.lt_or_ge g s.gens.size with h' | h'
      · exact h'
      · rw [Array.getElem?_eq_none h'] at hgs
        cases hgs
    have hG' : GV Xg gp S τ fp tn W i acc (s.setGen g .running) := ⟨H', us, c, inv_gens I (bare_set I.bare rfl), st, nf, hv, hl, hw⟩
    refine codeAny_builtin F.entry_extend_loop ?_
    rw [Around.under_plainId F.plain_extend_loop _]
    show wpAny _ A.in1 (pyNext (.ref a) >>= _) _ _ s
    refine wpAny_bind (GenW.wpAny_gsz hsz ?_)
    refine wpAny_mono (wpAny_pyNext_genexpQ (A := A.in1) (E := fun _ _ => False) (P := fun _ _ s₁ => ∃ (H' : Hp) (us : Array Value) (c : Nat) (acc : List V), Inv Xg (gp ++ [(S, lstObj us c)]) τ H' s₁ ∧ Vals acc us.toList ∧ acc.length ≤ N ∧ Qt acc H') (n := N - i) hh I.nolimit hroom (hgen s H' us c I) hgs (hgo _ hG') (fun v s₁ gs' hb hv1 => ?_) (fun s₁ hp h' hk' => ?_)) (fun _ _ q => q) (fun _ _ q => q.elim)
    · intro hz
      obtain ⟨i', acc', y, hn, hi', ⟨H1, us1, c1, I1, st1, nf1, hv1, hl1, ry, w1⟩, hkap⟩ := hv1
      have z := I1.pin (S, lstObj us1 c1) (List.mem_append_right _ (List.mem_append_right _ (List.mem_singleton.mpr rfl)))
      have hus : us1.size = i' := by
        have h9 : acc'.length = us1.toList.length := Vals.length hv1
        have h10 : us1.toList.length = us1.size := Array.length_toList
        rw [← h10, ← h9]
        exact hl1
      have hline : us1.size < sizeLine := by
        rw [sizeLine_eq]
        omega
      show wpAny _ A.in1 (updateSeq S (·.push v) >>= _) _ _ _
      refine wpAny_bind ?_
      have zz : (s₁.setGen g gs').heap.get? S = some (lstObj us1 c1) := z.1
      refine wpAny_updateSeq zz rfl (wpAny_pure ⟨plainId_quiet F.plain_extend_loop _, ?_⟩) (Nat.le_of_lt hline) (by show (us1.push v).size ≤ sizeLine + 1; rw [Array.size_push]; omega)
      obtain ⟨c2, hc2⟩ : ∃ c2, (s₁.heap.update S (Obj.mapSeq (·.push v))).get? S = some (lstObj (us1.push v) c2) := ⟨_, PyProof.Rows.get?_update_seq z.1 (·.push v)⟩
      have ko : ∀ b o, b ≠ S → s₁.heap.get? b = some o → (s₁.heap.update S (Obj.mapSeq (·.push v))).get? b = some o := fun b o hbS e => (Heap.get?_update_other _ _ (Ne.symm hbS)).trans e
      have J1 := pin_push (t' := s₁.toks) I1 h0 hpS ko hc2
      have hG2 : ∀ g' : Array GenState, AllBare g' → GV Xg gp S τ fp tn W (i' + 1) (acc' ++ [y]) { s₁ with heap := s₁.heap.update S (Obj.mapSeq (·.push v)), gens := g' } := fun g' hg' =>
        ⟨H1, us1.push v, c2, inv_gens (d' := s₁.drawn) (t' := s₁.toks) J1 hg', tk _ _ _ st1 (fun b hb o e => ko b o (fun q => hSf (by rw [← q]; exact hb)) e), nf1, by rw [Array.toList_push]; exact vals_snoc hv1 ry, by rw [List.length_append, hl1]; rfl, w1⟩
      cases hm : N - i with
      | zero =>
        rw [hm] at hkap
        exact (hkap _ (hG2 s₁.gens I1.bare)).elim
      | succ m =>
        rw [hm] at hkap hn
        have e : i' = i := by omega
        have hz' : g + 1 ≤ (s₁.setGen g gs').gens.size := hz
        have h2 : g < s₁.gens.size := by
          have h1 : g < (s₁.setGen g gs').gens.size := hz'
          simpa [Shared.setGen] using h1
        refine ih (N - (i' + 1)) (by omega) (i' + 1) (acc' ++ [y]) _ rfl hi' (hG2 _ (bare_set I1.bare hb)) ⟨gs', setGen_self (gs := s₁.gens[g]) (Array.getElem?_eq_getElem h2), fun s'' hG'' => ?_⟩
        have e2 : N - (i' + 1) = m := by omega
        rw [e2]
        exact hkap s'' hG''
    · intro hz
      obtain ⟨H1, us1, c1, acc1, I1, hv1, hl1, q1⟩ := hp
      exact wpAny_pure (hR _ H1 us1 c1 acc1 (inv_gens (I1.kept (t' := s₁.toks) hk') (bare_set I1.bare rfl)) hv1 hl1 q1)
end GX

set_option Elab.async false
set_option linter.all false
set_option maxRecDepth 100000
set_option maxHeartbeats 4000000
namespace GX
open PySem PySem.Spec PyProof.Rows L2 Evl DL
/-- a generator has been made at a -/
def MadeV (X : Cx) (A : Around) (pins : List (Addr × Obj)) (σ : L2.St) (Qt : List V → Hp → Prop) (a : Addr) (s5 : Shared) : Prop :=
  ∃ (Xg : Cx) (gp : List (Addr × Obj)) (τ : L2.St) (fp : List Addr) (tn : Nat → Heap → Prop) (W : Nat → List V → Hp → Prop) (N gi : Nat) (gs : GenState) (H2 : Hp),
    N ≤ 100000 ∧ Inv Xg gp τ H2 s5 ∧ tn 0 s5.heap ∧ (∀ b ∈ fp, H2 b = none) ∧ W 0 [] H2 ∧ s5.gens[gi]? = some gs ∧
    (∀ S, S ∉ fp → ∀ s'', GV Xg gp S τ fp tn W 0 [] s'' → gs.Goes (model X.prog X.w) A (gRv Xg gp S τ N Qt) (gYv Xg gp S τ fp tn W N) N (.send .none) s'') ∧
    (∀ s' H', Inv Xg gp τ H' s' → s'.heap.IsGen a gi) ∧ (∀ s' H', Inv Xg gp τ H' s' → Inv X pins σ H' s') ∧ (∀ b ∈ fp, b < s5.heap.objs.size) ∧
    (∀ i h h', tn i h → (∀ b ∈ fp, ∀ o, h.get? b = some o → h'.get? b = some o) → tn i h') ∧ Xg.s_0.heap.objs.size ≤ s5.heap.objs.size ∧ Xg.pn = [] ∧ (∀ p ∈ gp, p.1 < s5.heap.objs.size)
theorem collectV {X : Cx} {A : Around} {pins : List (Addr × Obj)} {σ : L2.St} {Qt : List V → Hp → Prop} {a : Addr} {s : Shared} {E : Value → Shared → Prop} {Q : List Value → Shared → Prop} (hh : A.handled = none) (hroom : A.depth < recursionLimit) (M : MadeV X A.in1.in1 pins σ Qt a s)
    (hQ : ∀ s' H' us acc, Inv X pins σ H' s' → Vals acc us → us.length ≤ 100000 → Qt acc H' → Q us s') : wpAny (model X.prog X.w) A (collect (.ref a)) Q E s := by
  obtain ⟨Xg, gp, τ, fp, tn, W, N, gi, gs, H2, hN, I, st, nf, w0, hgs, hgo, hgen, hback, hfp, tk, h0, hpn, hgpl⟩ := M
  have hSf : s.heap.objs.size ∉ fp := fun hm => Nat.lt_irrefl _ (hfp _ hm)
  have hal : a < s.heap.objs.size := by
    obtain ⟨_, _, _, e, _⟩ := hgen s H2 I
    exact Heap.lt_size e
  have hSa : s.heap.objs.size ≠ a := Nat.ne_of_gt hal
  have hpS : ∀ p ∈ Xg.pn ++ gp, p.1 ≠ s.heap.objs.size := fun p hp => by
    rw [hpn, List.nil_append] at hp
    exact Nat.ne_of_lt (hgpl p hp)
  unfold collect
  refine wpAny_bind (wpAny_runValue (codeAny_builtin F.entry_proto_collect ?_))
  rw [Around.under_plainId F.plain_proto_collect _]
  show wpAny _ A.in1 (newList [] >>= fun l => again (.builtin "list.__iadd__" ⟨[l, .ref a], []⟩)) _ _ s
  refine wpAny_bind (wpAny_newObj_type ?_)
  refine wpAny_pure ⟨plainId_quiet F.plain_list_iadd _, codeAny_builtin F.entry_list_iadd ?_⟩
  rw [Around.under_plainId F.plain_list_iadd _]
  have up : ∀ (h : Heap) (f : Obj → Obj), (∀ b o, s.heap.get? b = some o → h.get? b = some o) → ∀ b o, s.heap.get? b = some o → (h.update s.heap.objs.size f).get? b = some o := fun h f q b o e =>
    (Heap.get?_update_other _ _ (Ne.symm (Nat.ne_of_lt (Heap.lt_size e)))).trans (q b o e)
  have k1 : ∀ b o, s.heap.get? b = some o → (s.heap.push { cls := .type "list", data := .seq ([] : List Value).toArray }).get? b = some o := fun b o e => Heap.get?_push_of_some _ e
  have gty : ∀ {h : Heap}, (∀ b o, s.heap.get? b = some o → h.get? b = some o) → h.IsGen a gi := fun {h} q => (hgen s H2 I).keeps q
  show wpAny _ A.in1 (Builtin.List.listExtendWith (.ref s.heap.objs.size) (.ref a) (.ref s.heap.objs.size)) _ _ _
  unfold Builtin.List.listExtendWith
  refine wpAny_bind (wpAny_typeOf (Heap.IsGen.typeIs (s := { s with heap := _ }) (gty k1)) ?_)
  have h1 : Builtin.List.listSameRef (.ref s.heap.objs.size) (.ref a) = false := by simp [Builtin.List.listSameRef, hSa]
  have h2 : (Value.type "generator" == Value.type "list") = false := by decide
  have h3 : (Value.type "generator" == Value.type "tuple") = false := by decide
  simp only [h1, h2, h3, Bool.or_false, Bool.false_eq_true, if_false]
  refine wpAny_bind (wpAny_pyIter_gen (s := { s with heap := _ }) (gty k1) ?_)
  refine wpAny_bind (wpAny_holding ?_)
  unfold Builtin.List.listLengthHint
  refine wpAny_bind (wpAny_specialOf (Heap.IsGen.typeIs (s := { s with heap := _ }) (gty k1)) F.gen_no_len ?_)
  show wpAny _ A.in1 (specialOf (Value.ref a) (Str.ofString "__length_hint__") >>= _) _ _ _
  refine wpAny_bind (wpAny_specialOf (Heap.IsGen.typeIs (s := { s with heap := _ }) (gty k1)) F.gen_no_hint ?_)
  refine wpAny_pure ?_
  show wpAny _ A.in1 (rule "list.extend.makes-room" >>= fun _ => Builtin.List.listTouch (.ref s.heap.objs.size) >>= fun _ =>
    again (.builtin "list.extend.loop" ⟨[.ref s.heap.objs.size, .ref a, .ref s.heap.objs.size], []⟩)) _ _ _
  refine wpAny_bind (wpAny_rule ?_)
  have hS₁ : (s.heap.push { cls := .type "list", data := .seq ([] : List Value).toArray }).get? s.heap.objs.size = some { cls := .type "list", data := .seq ([] : List Value).toArray } := Heap.get?_push_size _ rfl
  refine wpAny_bind ?_
  show wpAny _ A.in1 (updateSeq s.heap.objs.size (·.push .none) >>= fun _ => updateSeq s.heap.objs.size (·.pop)) _ _ _
  refine wpAny_bind (wpAny_updateSeq hS₁ rfl ?_)
  have hS₂ := Heap.get?_update_self (Obj.mapSeq (·.push Value.none)) hS₁ rfl
  refine wpAny_updateSeq hS₂ rfl ?_
  have hS₃ := Heap.get?_update_self (Obj.mapSeq (·.pop)) hS₂ rfl
  have k3 := up _ (Obj.mapSeq (·.pop)) (up _ (Obj.mapSeq (·.push Value.none)) k1)
  generalize hh3 : ((s.heap.push { cls := .type "list", data := .seq ([] : List Value).toArray }).update s.heap.objs.size (Obj.mapSeq (·.push Value.none))).update s.heap.objs.size (Obj.mapSeq (·.pop)) = h3' at hS₃ k3 ⊢
  obtain ⟨c3, hc3⟩ : ∃ c3, h3'.get? s.heap.objs.size = some (lstObj #[] c3) := ⟨_, hS₃⟩
  have J : Inv Xg (gp ++ [(s.heap.objs.size, lstObj #[] c3)]) τ H2 { s with heap := h3' } := by
    have J0 : Inv Xg gp τ H2 { s with heap := h3' } := I.kept (t' := s.toks) k3
    refine J0.pins_of fun p hp => ?_
    rcases List.mem_append.mp hp with q | q
    · exact J0.pin p (List.mem_append_right _ q)
    · rw [List.mem_singleton.mp q]
      exact ⟨hc3, I.hok.fresh (Nat.le_refl _), Nat.ne_of_gt I.lt, I.nofs (Nat.le_refl _), fun v q => nomatch q⟩
  have hG : GV Xg gp s.heap.objs.size τ fp tn W 0 [] { s with heap := h3' } := ⟨H2, #[], c3, J, tk _ _ _ st (fun b _ o e => k3 b o e), nf, .nil, rfl, w0⟩
  refine wpAny_pure ⟨plainId_quiet F.plain_extend_loop _, tup_loop (X := X) (A := A) hh hroom hN h0 hpS hSf tk (fun s' H' us c I' => hgen s' H' (I'.unpinned)) (fun s' H' us c acc I' hv hl q => ?_) N 0 [] _ (Nat.sub_zero _) (Nat.zero_le _) hG ⟨gs, hgs, fun s'' hG'' => hgo _ hSf s'' hG''⟩⟩
  have z := I'.pin (s.heap.objs.size, lstObj us c) (List.mem_append_right _ (List.mem_append_right _ (List.mem_singleton.mpr rfl)))
  show wpAny _ A (load s.heap.objs.size >>= _) _ _ s'
  refine wpAny_bind (wpAny_load z.1 ?_)
  refine wpAny_pure ?_
  have hlen : us.toList.length = acc.length := (Vals.length hv).symm
  exact hQ s' H' us.toList acc (hback s' H' (I'.unpinned)) hv (by omega) q
theorem call_tupV {X : Cx} {A : Around} {pins : List (Addr × Obj)} {σ : L2.St} {Qt : List V → Hp → Prop} {a : Addr} {s : Shared} {E : Value → Shared → Prop} {Q : Value → Shared → Prop} (hh : A.handled = none) (hroom : A.depth < recursionLimit) (M : MadeV X A.in1.in1.in1.in1 pins σ Qt a s)
    (hQ : ∀ s' H' us acc, Inv X pins σ H' s' → Vals acc us → us.length ≤ 100000 → Qt acc H' → Q (.ref s'.heap.objs.size) { s' with heap := s'.heap.push { cls := .type "tuple", data := .seq us.toArray } }) : wpAny (model X.prog X.w) A (call (.type "tuple") [.ref a]) Q E s := by
  have hTI : s.TypeIs (.ref a) "generator" := by
    obtain ⟨Xg, gp, τ, fp, tn, W, N, gi, gs, H2, hN, I, st, nf, w0, hgs, hgo, hgen, _⟩ := id M
    exact (hgen s H2 I).typeIs
  refine callType_codes (Q₁ := fun obj s₁ => s₁.TypeIs obj "tuple" ∧ Q obj s₁) F.called_tuple (F.typeCall_tuple_1 _) F.entry_object_init ?_ fun obj s₁ h₁ => ?_
  · refine codeAny_of_tree ?_
    show wpAny _ A.in1.in1 (do checkBuiltinCall "tuple.__new__" ⟨[.type "tuple", .ref a], []⟩; again (.builtin "tuple.__new__" ⟨[.type "tuple", .ref a], []⟩)) _ _ s
    refine wpAny_bind (wpAny_of_eq (F.newCall_tuple_1 _) (wpAny_pure ⟨plainId_quiet F.plain_tuple_new _, codeAny_builtin F.entry_tuple_new ?_⟩))
    rw [Around.under_plainId F.plain_tuple_new _]
    have hsub := sub_tuple_self
    have hinit := init_tuple_lookup
    have hmh := madeHere_tuple
    have col : ∀ {E' : Value → Shared → Prop} {Q' : List Value → Shared → Prop}, (∀ s' H' us acc, Inv X pins σ H' s' → Vals acc us → us.length ≤ 100000 → Qt acc H' → Q' us s') → wpAny (model X.prog X.w) A.in1.in1 (collect (.ref a)) Q' E' s := fun k => collectV hh hroom M k
    wp_walk using wpAny_typeOf hTI, col
    intro s' H' us acc I' hv hl q
    show wpAny _ _ (Builtin.Tuple.tupleExact us.toArray >>= fun v => ret v) _ _ _
    unfold Builtin.Tuple.tupleExact
    refine wpAny_bind (wpAny_newObj_type ?_ (by show us.toArray.size ≤ sizeLine; rw [sizeLine_eq, List.size_toArray]; omega))
    refine wpAny_pure ?_
    exact ⟨⟨_, Heap.get?_push_size _ rfl, rfl⟩, hQ s' H' us acc I' hv hl q⟩
  · exact ⟨h₁.1, F.args_object_init_2 obj _, object_init_meets F.called_tuple.init.lookup F.called_tuple.made (by decide) X.prog X.w A.in1 _ s₁ ⟨h₁.1, rfl, h₁.2⟩⟩
end GX

set_option Elab.async false
set_option linter.all false
set_option maxRecDepth 100000
set_option maxHeartbeats 4000000
namespace GX
open PySem PySem.Spec PyProof.Rows L2 Evl DL
theorem room_genV {A : Around} {k : Nat} {elt tg iter : Expr} {scope : Scope} {pos : Pos} {it : Addr} {ge : Env} (hr : Room (k + 1) A) : Room k (A.in1.in1.in1.in1.over (gLoop elt tg iter scope pos it ge) []) := by
  have h1 := hr.dp
  have h2 := hr.un
  refine ⟨hr.hd, ?_, ?_⟩
  · show A.depth + 0 + 1 + 3 * k + 5 < _
    omega
  · show A.units + 1 + 1 + 1 + 1 + 0 + 3 + 16 * k + 200 < _
    omega
theorem frames_genV {A : Around} {l : List Env} {elt tg iter : Expr} {scope : Scope} {pos : Pos} {it : Addr} {ge : Env} (h : A.frames = some l) : (A.in1.in1.in1.in1.over (gLoop elt tg iter scope pos it ge) []).frames = some (ge :: l) := by
  show pushEnvs [ge] (pushEnvs [] A.frames) = _
  rw [h]
  rfl
section
variable {X : Cx}
theorem gen_madeV {c P : Addr} {elt tg iter : Expr} {scope : Scope} {gpos : Pos} {own : List (Str × Nat)} {wi : TI} {g : TG} {te : TE} {k : Nat} {pins : List (Addr × Obj)} {σ : L2.St} {H : Hp} {s : Shared} {Q : VK} {Q' : Value → Shared → Prop}
    (hr : Room (k + 1) X.A) (hcm : X.calm = true) (hN : X.N.Nodup) (TB : GxR.TabB X.base X.mg c P) (hcode : X.env.code = .ref c) (G : GenOk X.N X.env.scope scope own) (hi : PI X tg iter wi)
    (hg : ∀ (A : Around) (s : Shared) (H : Hp) (cl : List (Str × Addr)) (C : Addr) (code : Value) (fp : List Addr), PG (gblk X A s H (genEnv scope cl C code builtinsNs X.env) fp) tg g)
    (he : ∀ (A : Around) (s : Shared) (H : Hp) (cl : List (Str × Addr)) (C : Addr) (code : Value) (fp : List Addr), Room k A → PE (gblk X A s H (genEnv scope cl C code builtinsNs X.env) fp) elt te)
    (hs : ∀ v, genFold iter X.env v = pure v) (I : Inv X pins σ H s) (h : tTupG P wi g te (own.map (·.2)) σ H Q)
    (hQ : ∀ (a : Addr) (s5 : Shared), MadeV X X.A.in1.in1.in1.in1 pins σ (fun acc H' => ∀ p, H' p = none → Q (.ref p) (upd H' p (.tup acc))) a s5 → Q' (.ref a) s5) :
    wpAny (model X.prog X.w) X.A (eval (gExp elt tg iter scope gpos) X.env) Q' X.xe s := by
  have hfree : ∀ y ∈ scope.names, y.2 = .free → ∃ c, X.env.cells.lookup y.1 = some c := fun y hy e => by
    rcases G.blk.free y hy e with k | k
    · exact I.ok.has _ (.inl k)
    · exact I.ok.has _ (.inr k)
  refine wpAny_GeneratorExp_make G.co (closure_ok hfree) G.cell G.dot G.blk.kind (by have := hr.dp; omega) ?_ hs
  refine thn (hi.run pins s σ H _ I h) fun xv s1 hx => thn hx fun itv s2 h2 => ?_
  obtain ⟨it, fp, tn, J, H2, rfl, I2, T, st2, f2, hP, N, W, hNN, w0, turn⟩ := h2
  refine ⟨I2.nolimit, ?_⟩
  obtain ⟨⟨ps, hPs, ht⟩, _⟩ := I2.hok P _ hP
  have cd : PySem.W.CodeHd s2.heap c P := TB.code.keeps fun b u e => I2.bk b u e
  have sz : ∀ b ∈ fp, b < s2.heap.objs.size := fun b hb => by
    obtain ⟨o, e, _⟩ := T.obj _ _ st2 b hb
    exact Heap.lt_size e
  have cont : ∀ (code : Value) (h3 : Heap) (tk : Nat), Inv X pins σ H2 { s2 with heap := h3, toks := tk } → tn 0 h3 → (∀ b ∈ fp, b < h3.objs.size) →
      wpAny (model X.prog X.w) X.A (builtinsFor X.env.globals X.env.builtins) (fun bi s₄ => ∀ h', h'.Ns s₄.heap.objs.size (fun y => if y = ".0" then some (.ref it) else none) → Heap.SameBut s₄.heap.objs.size (s₄.heap.push { cls := .type "frame", data := .dict #[] }) h' →
          Q' (.ref h'.objs.size) { s₄ with
            gens := s₄.gens.push (.fresh (.compStart (gExp elt tg iter scope gpos) 0 (.ref it) .none (genEnv scope (cloFrom X.env.cells scope.names []) s₄.heap.objs.size code bi X.env))),
            toks := s₄.toks + 1 + 1 + 1,
            heap := h'.push { cls := .type "generator", data := .fields #[.int s₄.gens.size 0, .str "<genexpr>" (s₄.toks + 1), .str (X.env.qual ++ "<genexpr>") (s₄.toks + 1 + 1)] } }) X.xe { s2 with heap := h3, toks := tk } := by
    intro code h3 tk I3 st3 sz3
    obtain ⟨bm, ob, e1, e2, e3, e4, e5, e6, e7, e8⟩ := TB.bm
    refine wpAny_builtinsFor (m := X.mg) (by rw [I3.ok.glob]; exact I3.mod.glob.keeps I3.bk) e1 e2 (I3.bk _ _ e5) e6 e7 e8 ?_
    intro h' hn' hs'
    generalize hs4 : ({ s2 with heap := h3, toks := tk } : Shared) = s4 at I3 hn' hs' ⊢
    have h34 : s4.heap = h3 := by rw [← hs4]
    have hsz : h'.objs.size = s4.heap.objs.size + 1 := by rw [hs'.1, Heap.size_push]
    generalize hgob : ({ cls := .type "generator", data := .fields #[.int s4.gens.size 0, .str "<genexpr>" (s4.toks + 1), .str (X.env.qual ++ "<genexpr>") (s4.toks + 1 + 1)] } : Obj) = gob
    have kp : ∀ b o, s4.heap.get? b = some o → (h'.push gob).get? b = some o := fun b o e => Heap.get?_push_of_some _ (hs'.extBut b o (Nat.ne_of_lt (Heap.lt_size e)) (Heap.get?_push_of_some _ e))
    have ha : (h'.push gob).get? h'.objs.size = some gob := Heap.get?_push_size _ (by rw [← hgob]; rfl)
    have bare5 : AllBare (s4.gens.push (.fresh (.compStart (gExp elt tg iter scope gpos) 0 (.ref it) .none (genEnv scope (cloFrom X.env.cells scope.names []) s4.heap.objs.size code builtinsNs X.env)))) := I3.bare.push rfl
    have Ig := gen_start (A := X.A.in1.in1.in1.in1.over (gLoop elt tg iter scope gpos it (genEnv scope (cloFrom X.env.cells scope.names []) s4.heap.objs.size code builtinsNs X.env)) []) (it := .ref it) (a := h'.objs.size) (gob := gob) (code := code) (fp := fp)
      (s5 := { s4 with gens := s4.gens.push (.fresh (.compStart (gExp elt tg iter scope gpos) 0 (.ref it) .none (genEnv scope (cloFrom X.env.cells scope.names []) s4.heap.objs.size code builtinsNs X.env))), toks := s4.toks + 1 + 1 + 1, heap := h'.push gob }) I3 G hN
      (fun b hb => ⟨f2 b hb, by rw [h34]; exact sz3 b hb⟩) hr.hd (frames_genV I3.ok.frames) (hn'.push _) kp rfl bare5 ha (fun v q => by rw [← hgob] at q; cases q) (by omega)
    have st5 : tn 0 (h'.push gob) := T.keep _ _ _ (h34 ▸ st3 : tn 0 s4.heap) fun b _ o e => kp b o e
    have hgp : ∀ p ∈ [(h'.objs.size, gob)], ∀ b ∈ fp, p.1 ≠ b := fun p hp b hb => by
      rw [List.mem_singleton] at hp
      subst hp
      have := sz3 b hb
      rw [← h34] at this
      exact Nat.ne_of_gt (by rw [hsz]; exact Nat.lt_succ_of_lt this)
    have szp : (h'.push gob).objs.size = h'.objs.size + 1 := Heap.size_push ..
    refine hQ h'.objs.size _ ⟨_, [(h'.objs.size, gob)], _, fp, tn, W, N, s4.gens.size, _, H2, hNN, Ig, st5, fun b hb => (f2 b hb).1, w0, Array.getElem?_push_size .., fun S hSf s'' hG'' => ⟨rfl, ?_⟩, fun s' H' I' => ?_, fun s' H' I' => ?_, fun b hb => ?_, fun i h h' a b => T.keep i h h' a b, ?_, rfl, fun p hp => ?_⟩
    · obtain ⟨H9, us9, c9, I9, st9, _⟩ := id hG''
      exact gen_first T st9 (gen_segV (A := X.A.in1.in1.in1.in1) (Qt := fun acc H' => ∀ p, H' p = none → Q (.ref p) (upd H' p (.tup acc))) hcm G.co T hgp hSf (hg _ _ _ _ _ _ _) (he _ _ _ _ _ _ _ (room_genV hr)) turn N 0 [] s'' s'' (Nat.sub_zero _) (Nat.zero_le _) hG'')
    · have z := I'.pin (h'.objs.size, gob) (List.mem_append_right _ List.mem_cons_self)
      rw [← hgob] at z
      exact ⟨_, _, _, z.1, rfl, rfl, rfl⟩
    · exact I3.call' (ch := fp) I'.os I'.base I'.hok I'.bare fun b hb => ⟨(f2 b hb).2.2.2.1, (f2 b hb).2.1, (f2 b hb).2.2.2.2.1, (f2 b hb).2.2.2.2.2⟩
    · have := sz3 b hb
      rw [← h34] at this
      show b < (h'.push gob).objs.size
      rw [szp, hsz]
      exact Nat.lt_succ_of_lt (Nat.lt_succ_of_lt this)
    · show s4.heap.objs.size ≤ (h'.push gob).objs.size
      omega
    · rw [List.mem_singleton.mp hp]
      show h'.objs.size < (h'.push gob).objs.size
      omega
  cases hf : codeAmong gpos ps.toList with
  | none =>
    refine wpAny_genexprCodeX hcode (cd.code hPs ht) (cd.tab hPs) hf fun c' h' tk hx hge hlt hco' _ htab' _ => ?_
    obtain ⟨o1, vs, f1, tf, fl, tg', inF, tx, tt, op, _, _, _, _, _, _, _, _, _, htr, _⟩ := hco'
    have hk : ∀ b o, b ≠ P → s2.heap.get? b = some o → h'.get? b = some o := fun b o hb e => hx b o hb e
    have nP : ∀ b ∈ fp, b ≠ P := fun b hb z => by
      have := (f2 b hb).1
      rw [z, hP] at this
      cases this
    exact cont _ h' tk (tab_write I2 hP hk htab'.2 htr) (T.keep _ _ _ st2 fun b hb o e => hk b o (nP b hb) e) fun b hb => Nat.lt_of_lt_of_le (sz b hb) (Nat.le_trans hge (Nat.le_of_lt hlt))
  | some cv =>
    refine wpAny_genexprCode_hit hcode (cd.code hPs ht) hf ?_
    exact cont cv s2.heap s2.toks I2 st2 sz
/-- tuple(e for t in it) -/
theorem pe_tupG {c P : Addr} {elt tg iter : Expr} {scope : Scope} {p pos gpos : Pos} {own : List (Str × Nat)} {wi : TI} {g : TG} {te : TE} {k : Nat}
    (hr : Room (k + 1) X.A) (hgl : Gl X "tuple") (hm : X.mg "tuple" = none) (hcm : X.calm = true) (hN : X.N.Nodup) (TB : GxR.TabB X.base X.mg c P) (hcode : X.env.code = .ref c) (G : GenOk X.N X.env.scope scope own) (hi : PI X tg iter wi)
    (hg : ∀ (A : Around) (s : Shared) (H : Hp) (cl : List (Str × Addr)) (C : Addr) (code : Value) (fp : List Addr), PG (gblk X A s H (genEnv scope cl C code builtinsNs X.env) fp) tg g)
    (he : ∀ (A : Around) (s : Shared) (H : Hp) (cl : List (Str × Addr)) (C : Addr) (code : Value) (fp : List Addr), Room k A → PE (gblk X A s H (genEnv scope cl C code builtinsNs X.env) fp) elt te)
    (hs : ∀ v, genFold iter X.env v = pure v := by intro _; rfl)
    (hst : starEach [gExp elt tg iter scope gpos] X.env = (false, eval (gExp elt tg iter scope gpos) X.env) :: starEach [] X.env := by rfl) :
    PE X (.Call (.Name "tuple" p) [gExp elt tg iter scope gpos] [] pos) (tTupG P wi g te (own.map (·.2))) := by
  refine ⟨fun pins s σ H Q I h => ?_⟩
  refine wpAny_Call_Name_kw (ld_blt I hgl hm boot_tuple ?_)
  refine PyProof.Rows.callWith_type1 ?_ hst (by rfl)
  rw [hst]
  show wpAny _ _ (spliced ((false, eval (gExp elt tg iter scope gpos) X.env) :: backTo pos (starEach [] X.env))) _ _ s
  refine Calls.spliced_cons (gen_madeV hr hcm hN TB hcode G hi hg he hs I h fun a s5 hmade => Calls.spliced_nil ?_)
  refine call_tupV hr.hd (by have := hr.dp; omega) hmade fun s' H' us acc I' hv hl q => ?_
  refine ⟨.ref s'.heap.objs.size, upd H' s'.heap.objs.size (.tup acc), I'.laid (t' := s'.toks) (fun b o e => Heap.get?_push_of_some _ e) (Nat.le_refl _) ⟨?_, us, hv, ?_⟩, rfl, q _ (I'.hok.fresh (Nat.le_refl _))⟩
  · show acc.length ≤ sizeLine
    rw [sizeLine_eq, Vals.length hv]
    omega
  · exact ⟨_, Heap.get?_push_size _ rfl, rfl, _, rfl⟩
end
end GX

set_option Elab.async false
set_option linter.all false
set_option maxRecDepth 100000
set_option maxHeartbeats 4000000
namespace GX
open PySem PySem.Spec PyProof.Rows L2 Evl DL
/-- the law's end, with tables and what is told of loose names: xs, the defs' names with their code objects and tables -/
theorem walk_ofXL {l : PySem.W.OpenLaw} {n k : Nat} {q : Program} {loose : List Str} {XP : (Str → Option Value) → Heap → Prop} {YP : World → Heap → Prop} {d : DefRec} {K : Params → PySem.W.Frag} {x : Str}
    (hn : l.most = some n) (hn2 : n ≤ sizeLine) (hdf : d.params.defaults = []) (hr : Room k callerA) (hY : ∀ (w : World) (h : Heap), YP w h → (K w.params).In h)
    (F : ∀ (w : World) (mg : Str → Option Value) (fa : Addr) (h : Heap), (K w.params).In h → h.Ns mainGlobals mg → XP mg h → mg d.name = some (.ref fa) →
      ∃ (xs : List (Str × Addr × Addr)) (fd : FuncData) (sp : Sp), (∀ p ∈ xs, ((recsOf q).any fun e => e.name == p.1) = true ∧ PySem.W.tabIn (K w.params) p.1 = some p.2 ∧ (K w.params).lookup p.2.2 = none) ∧
        (∀ (s : Shared) (u : Value), BindsTo s fd ⟨[u], []⟩ [(x, u)]) ∧
        (∀ (H : Hp) (a : Addr) (ns : List Int), ns.length ≤ n → (∀ p ∈ xs, H p.2.2 = some (TabE p.2.2)) → SqL (K w.params) H a (ns.map V.int) → sp [.ref a] H (fun v H' => (∀ p ∈ xs, H' p.2.2 = some (TabE p.2.2)) ∧ v = .bl true) fun _ _ _ => False) ∧
        ∀ base : Heap, (K w.params).In base → base.Ns mainGlobals mg → (∀ p ∈ xs, GxR.TabB base mg p.2.1 p.2.2) → FnOk l.prog w (K w.params) mg base CX0 k fa fd [x] sp) :
    PySem.W.WalkO q loose XP YP l.row.toRowW d [] (fun f vs => PySem.call f vs) := by
  refine Att.attach_callB hn hdf fun w s₀ s₁ mg mb fa o pm cd doc a vs ns G Y ho hd hcd hmg hobj hints hlen hbits hg => ?_
  have KX := hY w _ Y
  obtain ⟨xs, fd, sp, hx, hb, hsp, hF⟩ := F w mg fa _ KX G.T.g G.X hmg
  have tabs : ∀ p ∈ xs, PySem.W.CodeHd s₁.heap p.2.1 p.2.2 ∧ s₁.heap.get? p.2.2 = some (PySem.W.tabObj #[]) := fun p hp => by
    obtain ⟨h1, h2, _⟩ := hx p hp
    cases hfd : (recsOf q).find? (fun e => e.name == p.1) with
    | none =>
      obtain ⟨e, he, hn⟩ := List.any_eq_true.mp h1
      exact absurd hn (List.find?_eq_none.mp hfd e he)
    | some d' => exact PySem.W.tab_of G.T KX hfd h2
  have mem2 : ∀ b, b ∈ xs.map (fun p => p.2.2) ↔ ∃ p ∈ xs, p.2.2 = b := fun b => List.mem_map
  refine LamX.law_callTs (cs := xs.map (·.2)) (CX := CX0) (sp := spT (xs.map (fun p => p.2.2)) sp) KX G.T.g G.T.b G.T.builtins G.T.nolimit hg (fun p hp => ?_) (fun p hp => ?_) (fun p hp => ?_) G.T.bmain hobj hints (Nat.le_trans hlen hn2) hr (fun base KB NB hTB => retrack (hF base KB NB fun p hp => ?_)) hb (fun H hH hS => ⟨fun b hbb => ?_, ?_⟩) fun H e s' h => h
  · obtain ⟨p', hp', rfl⟩ := List.mem_map.mp hp
    exact (tabs p' hp').2
  · obtain ⟨p', hp', rfl⟩ := List.mem_map.mp hp
    exact (hx p' hp').2.2
  · obtain ⟨p', hp', rfl⟩ := List.mem_map.mp hp
    exact (tabs p' hp').1
  · have z := hTB p.2 (List.mem_map.mpr ⟨p, hp, rfl⟩)
    exact ⟨z.code, z.bm, z.gP⟩
  · obtain ⟨p, hp, rfl⟩ := (mem2 b).mp hbb
    exact hH p.2 (List.mem_map.mpr ⟨p, hp, rfl⟩)
  · have inT : ∀ p ∈ xs, p.2.2 ∈ xs.map (fun p => p.2.2) := fun p hp => List.mem_map.mpr ⟨p, hp, rfl⟩
    have hnT : ∀ u, (∀ ps, u ≠ .tbl ps) → H a = some u → a ∉ xs.map (fun p => p.2.2) := fun u hu e z => by
      obtain ⟨p, hp, rfl⟩ := (mem2 a).mp z
      rw [hH p.2 (List.mem_map.mpr ⟨p, hp, rfl⟩)] at e
      cases e
      exact hu _ rfl
    have hS' : SqL (K w.params) (reT (xs.map (fun p => p.2.2)) H) a (ns.map V.int) := by
      rcases hS with (e | ⟨o', e⟩) | e
      · exact .inl (.inl (by rw [reT_out (hnT _ (fun ps z => by cases z) e)]; exact e))
      · exact .inl (.inr ⟨o', by rw [reT_out (hnT _ (fun ps z => by cases z) e)]; exact e⟩)
      · exact .inr e
    have z := hsp (reT (xs.map (fun p => p.2.2)) H) a ns hlen (fun p hp => reT_in (inT p hp)) hS'
    refine cast ?_ z
    congr 1
    funext v H'
    refine propext ⟨fun ⟨h1, h2⟩ => ⟨fun b hb => ?_, fun _ => h2⟩, fun ⟨h1, h2⟩ => ⟨fun p hp => h1 _ (inT p hp), h2 H'⟩⟩
    obtain ⟨p, hp, rfl⟩ := (mem2 b).mp hb
    exact h1 p hp
/-- a loose name whose value is a number -/
theorem loose_int {p : Program} {lv : List (Str × PySem.W.WData)} {mg : Str → Option Value} {h : Heap} {x : Str} {n : Int} (X : PySem.W.XL p lv mg h) (hx : (x, PySem.W.WData.int n) ∈ lv) : ∃ t, mg x = some (.int n t) := by
  obtain ⟨v, e, r⟩ := X.2.val _ hx
  cases r
  exact ⟨_, e⟩
end GX

set_option Elab.async false
set_option linter.all false
set_option maxRecDepth 100000
set_option maxHeartbeats 4000000
namespace GX
open PySem PySem.Spec PyProof.Rows L2 Evl DL
/-- the law's end: xs, the defs with generator expressions; ys, those with lambdas -/
theorem walk_ofXT {l : PySem.W.OpenLaw} {n k : Nat} {q : Program} {loose : List Str} {XP : (Str → Option Value) → Heap → Prop} {YP : World → Heap → Prop} {d : DefRec} {K : Params → PySem.W.Frag} {x : Str}
    (hn : l.most = some n) (hn2 : n ≤ sizeLine) (hdf : d.params.defaults = []) (hr : Room k callerA) (hY : ∀ (w : World) (h : Heap), YP w h → (K w.params).In h)
    (F : ∀ (w : World) (mg : Str → Option Value) (fa : Addr) (h : Heap), (K w.params).In h → h.Ns mainGlobals mg → XP mg h → mg d.name = some (.ref fa) →
      ∃ (xs ys : List (Str × Addr × Addr)) (fd : FuncData) (sp : Sp), (∀ p ∈ xs ++ ys, ((recsOf q).any fun e => e.name == p.1) = true ∧ PySem.W.tabIn (K w.params) p.1 = some p.2 ∧ (K w.params).lookup p.2.2 = none) ∧ (∀ p ∈ ys, ∀ r ∈ xs, p.2.2 ≠ r.2.2) ∧
        (∀ (s : Shared) (u : Value), BindsTo s fd ⟨[u], []⟩ [(x, u)]) ∧
        (∀ (H : Hp) (a : Addr) (ns : List Int), ns.length ≤ n → (∀ p ∈ xs, H p.2.2 = some (TabE p.2.2)) → (∀ p ∈ ys, H p.2.2 = some (.tbl #[])) → SqL (K w.params) H a (ns.map V.int) → sp [.ref a] H (fun v H' => (∀ p ∈ xs, H' p.2.2 = some (TabE p.2.2)) ∧ v = .bl true) fun _ _ _ => False) ∧
        ∀ base : Heap, (K w.params).In base → base.Ns mainGlobals mg → (∀ p ∈ xs ++ ys, GxR.TabB base mg p.2.1 p.2.2) → FnOk l.prog w (K w.params) mg base CX0 k fa fd [x] sp) :
    PySem.W.WalkO q loose XP YP l.row.toRowW d [] (fun f vs => PySem.call f vs) := by
  refine Att.attach_callB hn hdf fun w s₀ s₁ mg mb fa o pm cd doc a vs ns G Y ho hd hcd hmg hobj hints hlen hbits hg => ?_
  have KX := hY w _ Y
  obtain ⟨xs, ys, fd, sp, hx, hxy, hb, hsp, hF⟩ := F w mg fa _ KX G.T.g G.X hmg
  have tabs : ∀ p ∈ xs ++ ys, PySem.W.CodeHd s₁.heap p.2.1 p.2.2 ∧ s₁.heap.get? p.2.2 = some (PySem.W.tabObj #[]) := fun p hp => by
    obtain ⟨h1, h2, _⟩ := hx p hp
    cases hfd : (recsOf q).find? (fun e => e.name == p.1) with
    | none =>
      obtain ⟨e, he, hn⟩ := List.any_eq_true.mp h1
      exact absurd hn (List.find?_eq_none.mp hfd e he)
    | some d' => exact PySem.W.tab_of G.T KX hfd h2
  have mem2 : ∀ b, b ∈ xs.map (fun p => p.2.2) ↔ ∃ p ∈ xs, p.2.2 = b := fun b => List.mem_map
  refine LamX.law_callTs (cs := (xs ++ ys).map (·.2)) (CX := CX0) (sp := spT (xs.map (fun p => p.2.2)) sp) KX G.T.g G.T.b G.T.builtins G.T.nolimit hg (fun p hp => ?_) (fun p hp => ?_) (fun p hp => ?_) G.T.bmain hobj hints (Nat.le_trans hlen hn2) hr (fun base KB NB hTB => retrack (hF base KB NB fun p hp => ?_)) hb (fun H hH hS => ⟨fun b hbb => ?_, ?_⟩) fun H e s' h => h
  · obtain ⟨p', hp', rfl⟩ := List.mem_map.mp hp
    exact (tabs p' hp').2
  · obtain ⟨p', hp', rfl⟩ := List.mem_map.mp hp
    exact (hx p' hp').2.2
  · obtain ⟨p', hp', rfl⟩ := List.mem_map.mp hp
    exact (tabs p' hp').1
  · have z := hTB p.2 (List.mem_map.mpr ⟨p, hp, rfl⟩)
    exact ⟨z.code, z.bm, z.gP⟩
  · obtain ⟨p, hp, rfl⟩ := (mem2 b).mp hbb
    exact hH p.2 (List.mem_map.mpr ⟨p, List.mem_append_left _ hp, rfl⟩)
  · have inT : ∀ p ∈ xs, p.2.2 ∈ xs.map (fun p => p.2.2) := fun p hp => List.mem_map.mpr ⟨p, hp, rfl⟩
    have hnT : ∀ u, (∀ ps, u ≠ .tbl ps) → H a = some u → a ∉ xs.map (fun p => p.2.2) := fun u hu e z => by
      obtain ⟨p, hp, rfl⟩ := (mem2 a).mp z
      rw [hH p.2 (List.mem_map.mpr ⟨p, List.mem_append_left _ hp, rfl⟩)] at e
      cases e
      exact hu _ rfl
    have hS' : SqL (K w.params) (reT (xs.map (fun p => p.2.2)) H) a (ns.map V.int) := by
      rcases hS with (e | ⟨o', e⟩) | e
      · exact .inl (.inl (by rw [reT_out (hnT _ (fun ps z => by cases z) e)]; exact e))
      · exact .inl (.inr ⟨o', by rw [reT_out (hnT _ (fun ps z => by cases z) e)]; exact e⟩)
      · exact .inr e
    have z := hsp (reT (xs.map (fun p => p.2.2)) H) a ns hlen (fun p hp => reT_in (inT p hp)) (fun p hp => by
      rw [reT_out (fun z => by
        obtain ⟨r, hr, e⟩ := (mem2 _).mp z
        exact hxy p hp r hr e.symm)]
      exact hH p.2 (List.mem_map.mpr ⟨p, List.mem_append_right _ hp, rfl⟩)) hS'
    refine cast ?_ z
    congr 1
    funext v H'
    refine propext ⟨fun ⟨h1, h2⟩ => ⟨fun b hb => ?_, fun _ => h2⟩, fun ⟨h1, h2⟩ => ⟨fun p hp => h1 _ (inT p hp), h2 H'⟩⟩
    obtain ⟨p, hp, rfl⟩ := (mem2 b).mp hb
    exact h1 p hp
end GX

set_option Elab.async false
set_option linter.all false
set_option maxRecDepth 100000
set_option maxHeartbeats 4000000
/-! Lambdas of one parameter as key=. -/
namespace LM
open PySem PySem.Spec PyProof.Rows L2 LamX Evl DL GX
/-- the code object that stands in the table for the lambda at pos bears its name -/
def TabL (H : Hp) (P : Addr) (pos : Pos) (q : Str) : Prop :=
  ∃ ps : Array Value, H P = some (.tbl ps) ∧ TriplesOk ps.toList ∧ ∀ cv : Value, codeAmong pos ps.toList = some cv → ∃ c, cv = .ref c ∧ H c = some (CodeO c q)
/-- tables of defs, each with its lambda -/
def Tbs (T : List (Addr × Pos × Str)) (H : Hp) : Prop := ∀ t ∈ T, TabL H t.1 t.2.1 t.2.2
theorem tabL_ex {H H' : Hp} {P : Addr} {pos : Pos} {q : Str} (t : TabL H P pos q) (e : Ex H H') : TabL H' P pos q := by
  obtain ⟨ps, h1, h2, h3⟩ := t
  refine ⟨ps, e _ _ h1, h2, fun cv hc => ?_⟩
  obtain ⟨c, e1, e2⟩ := h3 cv hc
  exact ⟨c, e1, e _ _ e2⟩
theorem tbs_ex {T : List (Addr × Pos × Str)} {H H' : Hp} (t : Tbs T H) (e : Ex H H') : Tbs T H' := fun p hp => tabL_ex (t p hp) e
theorem tabL_nil {H : Hp} {P : Addr} {pos : Pos} {q : Str} (h : H P = some (.tbl #[])) : TabL H P pos q :=
  ⟨#[], h, True.intro, fun cv hc => by
    have z : codeAmong pos [] = some cv := hc
    simp [codeAmong] at z⟩
section
variable {X : Cx} {pins : List (Addr × Obj)} {σ : L2.St} {H : Hp} {s : Shared}
/-- the names of a lambda of one parameter -/
structure Lam1 (N : List Str) (sc scope : Scope) (p : Str) (i : Nat) : Prop where
  blk : BlkOk N sc scope [(p, i)]
  co : scope.isCoroutine = false
  gen : scope.isGenerator = false
  cell : ∀ y ∈ scope.names, y.2 ≠ .cell
  par : scope.names.lookup p = some NameKind.local
theorem Lam1.caps {scope : Scope} {p : Str} {i : Nat} (L : Lam1 X.N X.env.scope scope p i) (ok : X.Ok) : ∀ y ∈ scope.names, y.2 = .free → ∃ c, X.env.cells.lookup y.1 = some c := fun y hy e =>
  (L.blk.free y hy e).elim (fun k => ok.has _ (.inl k)) fun k => ok.has _ (.inr k)
/-- the lambda is made, its code object new or found -/
theorem lam_make {T : List (Addr × Pos × Str)} {c P : Addr} {q : Str} {params : Arguments} {body : Expr} {scope : Scope} {pos : Pos} {E : Value → Shared → Prop} {Q : Value → Shared → Prop} (I : Inv X pins σ H s) (TB : TabB X.base X.mg c P) (hcode : X.env.code = .ref c) (hq : X.env.qual ++ "<lambda>" = q)
    (hm : (P, pos, q) ∈ T) (hu : ∀ t ∈ T, t.1 = P → t = (P, pos, q)) (hT : Tbs T H) (hdef : defaultsOf params X.env = ([], [])) (hcap : ∀ y ∈ scope.names, y.2 = .free → ∃ c, X.env.cells.lookup y.1 = some c)
    (fin : ∀ (f c' : Addr) (pm ctv : Value) (H1 : Hp) (s' : Shared), Inv X pins σ H1 s' → ExtN H H1 → Tbs T H1 → s'.heap.get? f = some (PySem.W.kla_obj "<lambda>" q params body scope (cloFrom X.env.cells scope.names []) pm c' ctv) → s.heap.objs.size ≤ f → H1 f = none → H1 c' = some (CodeO c' q) → Q (.ref f) s') :
    wpAny (model X.prog X.w) X.A (eval (.Lambda params body scope pos) X.env) Q E s := by
  subst hq
  obtain ⟨ps, hP, ht, hall⟩ := hT _ hm
  refine PySem.W.kla_eval hdef ?_
  have hPs : s.heap.get? P = some { cls := .none, data := .fields ps } := I.hok P _ hP
  cases look : codeAmong pos ps.toList with
  | some cv =>
    obtain ⟨c', rfl, hco⟩ := hall cv look
    refine PySem.W.kla_makeFunctionHit (mg := X.mg) (c := c) (P := P) (ps := ps) (closure_ok hcap) I.ok.glob (I.mod.glob.keeps I.bk) hcode (TB.code.keeps I.bk) hPs ht look (TB.bm.keeps I.bk) fun ctv h' tk hx hsz => ?_
    exact fin h'.objs.size c' ((X.mg "__name__").getD .none) ctv H _ (I.kept fun b o e => Heap.get?_push_of_some _ (hx b o e)) (ExtN.refl H) hT (Heap.get?_push_size _ rfl) hsz (I.hok.fresh hsz) hco
  | none =>
    refine PySem.W.kla_makeFunction (mg := X.mg) (c := c) (P := P) (ps := ps) (closure_ok hcap) I.ok.glob (I.mod.glob.keeps I.bk) hcode (TB.code.keeps I.bk) hPs ht look TB.gP (TB.bm.keeps I.bk) fun c' ctv h' tk hx hge hlt hrec htb => ?_
    obtain ⟨c2, oc, vs, t, e2, hoc, hd, hv⟩ := hrec
    cases e2
    have big : s.heap.objs.size ≤ h'.objs.size := Nat.le_trans hge (Nat.le_of_lt hlt)
    have nC : H c' = none := I.hok.fresh hge
    have hext : ExtN H (upd (upd H P (.tbl (ps ++ #[rawInt pos.line, rawInt pos.col, .ref c']))) c' (CodeO c' (X.env.qual ++ "<lambda>"))) := fun b o e n => by
      have n1 : b ≠ c' := ne_of_none e nC
      have n2 : b ≠ P := fun z => by
        rw [z, hP] at e
        exact n ps (Option.some.inj e).symm
      rw [upd_ne n1, upd_ne n2]
      exact e
    refine fin h'.objs.size c' ((X.mg "__name__").getD .none) ctv _ _
      (inv_table (t' := tk) (more := #[rawInt pos.line, rawInt pos.col, .ref c']) I hP (fun b o hb e => Heap.get?_push_of_some _ (hx b o hb e)) (Heap.get?_push_of_some _ htb) hge ⟨oc, vs, t, Heap.get?_push_of_some _ hoc, hd, hv⟩)
      hext (fun p hp => ?_) (Heap.get?_push_size _ rfl) big ?_ upd_same
    · by_cases hb : p.1 = P
      · rw [hu p hp hb]
        have el : (ps ++ #[rawInt pos.line, rawInt pos.col, .ref c']).toList = ps.toList ++ [rawInt pos.line, rawInt pos.col, .ref c'] := by simp
        refine ⟨_, by rw [upd_ne (ne_of_none hP nC), upd_same], by rw [el]; exact PySem.TriplesOk_snoc _ _ _ _ ht, fun cv hcv => ?_⟩
        rw [el] at hcv
        rcases among_app _ ht hcv with z | z
        · rw [look] at z
          cases z
        · exact ⟨c', z, upd_same⟩
      · obtain ⟨qs, a1, a2, a3⟩ := hT p hp
        refine ⟨qs, by rw [upd_ne (ne_of_none a1 nC), upd_ne hb]; exact a1, a2, fun cv hcv => ?_⟩
        obtain ⟨c0, e1, e2⟩ := a3 cv hcv
        exact ⟨c0, e1, hext _ _ e2 codeO_ne⟩
    · have n1 : h'.objs.size ≠ c' := Nat.ne_of_gt hlt
      have n2 : h'.objs.size ≠ P := Nat.ne_of_gt (Nat.lt_of_lt_of_le (Heap.lt_size hPs) big)
      rw [upd_ne n1, upd_ne n2]
      exact I.hok.fresh big
/-- where the lambda's body runs -/
abbrev lamC (X : Cx) (A : Around) (s : Shared) (H : Hp) (scope : Scope) (f c' : Addr) : Cx :=
  { X with A := A.deeper (lamEnv X scope s.heap.objs.size f c'), s_0 := s, H_0 := H, env := lamEnv X scope s.heap.objs.size f c', outer := X.stack, stack := lamEnv X scope s.heap.objs.size f c' :: X.stack, ex := [], fn := fun _ => false, calm := true, pn := [], xe := fun _ _ => False }
theorem lam_in {A : Around} {scope : Scope} {p : Str} {i : Nat} {f c' : Addr} {h₁ : Heap} {tk : Nat} {v : V} {u : Value} (I : Inv X pins σ H s) (L : Lam1 X.N X.env.scope scope p i) (hN : X.N.Nodup) (hA : A.frames = some X.stack) (hd : A.handled = none) (rv : RelV v u)
    (hns : h₁.Ns s.heap.objs.size fun y => ([(p, u)] : List (Str × Value)).reverse.lookup y) (kp : ∀ b o, s.heap.get? b = some o → h₁.get? b = some o) :
    Inv (lamC X A s H scope f c') [] (σ.set i (some v)) H { s with heap := h₁, toks := tk } := by
  have hcap := L.caps I.ok
  have cm : ∀ {y c}, (cloFrom X.env.cells scope.names []).lookup y = some c → X.env.cells.lookup y = some c := fun {y c} e => by
    rcases cloFrom_mem (PySem.mem_of_lookup e) with hm | ⟨h1, h2⟩
    · exact absurd hm (by simp)
    · obtain ⟨c1, hc⟩ := hcap _ h1 rfl
      have hc : X.env.cells.lookup y = some c1 := hc
      rw [hc] at h2
      have h2 : c = c1 := h2
      rw [h2]
      exact hc
  have look : ∀ {y}, scope.names.lookup y = some .free → ∃ c, (cloFrom X.env.cells scope.names []).lookup y = some c := fun {y} hl =>
    mem_lookup (cloFrom_has (cells := X.env.cells) (acc := []) (PySem.mem_of_lookup hl))
  have ok : (lamC X A s H scope f c').Ok := by
    refine ⟨I.ok.mod, L.blk.kind, rfl, rfl, Nat.le_refl _, fun y z c e1 e2 => I.ok.inj y z c (cm e1) (cm e2), fun y hy => ?_, fun y c z _ => (by cases z), fun _ => hd, Around.frames_deeper hA, .inr ⟨rfl, rfl⟩, fun b z => absurd z (by simp), I.bs, Nat.le_trans I.ok.bsz I.sz, fun b _ _ z => absurd z (by simp), fun b z => absurd z (by simp), I.stack, I.stkFree⟩
    rcases hy with hy | hy
    · exact absurd rfl (L.cell _ (PySem.mem_of_lookup hy))
    · exact look hy
  refine ⟨ok, rfl, I.bare, Un.kept kp, ⟨_, hns, fun j y v' e1 e2 e3 => ?_⟩, fun y c e => ?_, I.hok.fresh (Nat.le_refl _), fun y c e => I.freeC y c (cm e), fun q hq => absurd hq (by simp), I.hok.kept kp, by rw [List.length_set]; exact I.len⟩
  · have e1 : X.N[j]? = some y := e1
    have hix : X.N[i]? = some p := L.blk.ix (p, i) (by simp)
    have e3 : Vis scope y := e3
    by_cases hj : j = i
    · subst hj
      rw [hix] at e1
      cases e1
      have hlt : j < σ.length := by
        have h1 : j < X.N.length := (List.getElem?_eq_some_iff.mp hix).1
        have h2 : σ.length = X.N.length := I.len
        omega
      rw [List.getElem?_set_self hlt] at e2
      cases e2
      exact ⟨u, rv, .inl ⟨L.par, by simp⟩⟩
    · have e2 : (σ.set i (some v))[j]? = some (some v') := e2
      rw [List.getElem?_set_ne (Ne.symm hj)] at e2
      have hfr : scope.names.lookup y = some .free := by
        have no : ∀ k, scope.names.lookup y = some k → ¬ (k = .local ∨ k = .cell) := fun k e hh => by
          rcases L.blk.own _ (PySem.mem_of_lookup e) hh with z | z
          · have z : y = p := by simpa using z
            rw [z] at e1
            exact hj (nodup_ix hN e1 hix)
          · exact z (List.mem_of_getElem? e1)
        rcases e3 with e3 | e3 | e3
        · exact absurd (.inl rfl) (no _ e3)
        · exact absurd (.inr rfl) (no _ e3)
        · exact e3
      obtain ⟨m, _, hl⟩ := I.loc
      have kin := L.blk.free _ (PySem.mem_of_lookup hfr) rfl
      obtain ⟨w, r, q⟩ := hl j y v' e1 e2 (kin.elim (fun k => .inr (.inl k)) fun k => .inr (.inr k))
      obtain ⟨c2, h2⟩ := look hfr
      have c1 := cm h2
      refine ⟨w, r, .inr ⟨.inr hfr, c2, h2, ?_⟩⟩
      rcases q with ⟨k', _⟩ | ⟨_, c3, e', z⟩
      · have k' : X.env.scope.names.lookup y = some .local := k'
        rcases kin with k2 | k2 <;> rw [show X.env.scope.names.lookup y = _ from k2] at k' <;> cases k'
      · rw [c1] at e'
        cases e'
        exact z.keeps kp
  · obtain ⟨w, z⟩ := I.cell y c (cm e)
    exact ⟨w, z.keeps kp⟩
/-- the lambda called -/
theorem lam_call {A : Around} {scope : Scope} {p q : Str} {i k : Nat} {f c' : Addr} {params : Arguments} {body : Expr} {pm ctv : Value} {v : V} {u : Value} {tb : TE} {Q : VK} {E : Value → Shared → Prop} (I : Inv X pins σ H s) (L : Lam1 X.N X.env.scope scope p i) (hN : X.N.Nodup) (hA : A.frames = some X.stack) (hr : Room (k + 1) A) (rv : RelV v u)
    (hq : X.env.qual ++ "<lambda>" = q) (hf : s.heap.get? f = some (PySem.W.kla_obj "<lambda>" q params body scope (cloFrom X.env.cells scope.names []) pm c' ctv)) (hco : H c' = some (CodeO c' q))
    (hbind : bindArgs (PySem.W.kla_fn "<lambda>" q params body scope (cloFrom X.env.cells scope.names []) pm (.ref c') ctv) ⟨[u], []⟩ = pure [(p, u)])
    (hbody : Room k (A.deeper (lamEnv X scope s.heap.objs.size f c')) → PE (lamC X A s H scope f c') body tb) (ht : tb (σ.set i (some v)) H Q) :
    wpAny (model X.prog X.w) A (call (.ref f) [u]) (EP X pins σ Q) E s := by
  subst hq
  obtain ⟨⟨oc, vs, t, hoc, hdc, hvc⟩, _, _⟩ := I.hok c' _ hco
  refine wpAny_call (codeAny_mono (R := fun r s' => ∃ z, r = .ok (.ret z) ∧ EP X pins σ Q z s') ?_ fun r s' hq => ?_)
  · refine PySem.W.kla_callFunE hr.depth hf rfl L.co L.gen rfl ⟨c', oc, vs, t, rfl, hoc, hdc, hvc⟩ ?_
    rw [hbind]
    refine wpAny_pure (wpAny_newFunctionEnv L.cell (fun y hy => ?_) (fun h₁ hns hsb => ⟨I.nolimit.fresh _ hsb, ?_⟩) L.blk.kind)
    · have e : y = (p, u) := by simpa using hy
      rw [e]
      exact L.par
    · show codeAny _ _ (.expr body (lamEnv X scope s.heap.objs.size f c')) _ _
      have kp : ∀ b o, s.heap.get? b = some o → h₁.get? b = some o := fun b o e => hsb.extBut b o (Nat.ne_of_lt (Heap.lt_size e)) (Heap.get?_push_of_some _ e)
      have J := lam_in (A := A) (f := f) (c' := c') (tk := s.toks + ([(p, u)] : List (Str × Value)).length) I L hN hA hr.hd rv hns kp
      refine PySem.W.kla_codeExpr (wpAny_mono ((hbody (hr.deeper _)).run [] _ _ H Q J ht) (fun z s' hq => ?_) fun e s' hq => hq.elim)
      obtain ⟨w', H', J', r2, q2⟩ := hq
      exact ⟨z, rfl, I.after ⟨w', H', J'.os, J'.bare, J'.base, J'.hok, r2, q2⟩⟩
  · obtain ⟨z, rfl, hz⟩ := hq
    exact hz
end
end LM

set_option Elab.async false
set_option linter.all false
set_option maxRecDepth 100000
set_option maxHeartbeats 4000000
namespace LM
open PySem PySem.Spec PyProof.Rows L2 LamX Evl DL GX
/-- what a function does when it is called with one value -/
def Acts (X : Cx) (A : Around) (f : Addr) (fo : Obj) (σ : L2.St) (G : Hp → Prop) (TB : V → Hp → VK → Prop) : Prop :=
  ∀ (pins : List (Addr × Obj)) (s : Shared) (H : Hp) (v : V) (u : Value) (Q : VK) (E : Value → Shared → Prop), Inv X pins σ H s → s.heap.get? f = some fo → G H → RelV v u → TB v H Q → wpAny (model X.prog X.w) A (call (.ref f) [u]) (EP X pins σ Q) E s
/-- between two turns of max with a key: b is the best so far, its key k -/
def MV (X : Cx) (gp : List (Addr × Obj)) (S l it : Addr) (σ : L2.St) (W : Nat → V → Int → Hp → Prop) (i : Nat) (b : V) (k : Int) (s : Shared) : Prop :=
  ∃ (H' : Hp) (vb : Value) (t : Tok) (c : Nat), Inv X (gp ++ [(S, lstObj #[vb, .int k t] c)]) σ H' s ∧ s.heap.IsListIter it l i ∧ H' it = none ∧ RelV b vb ∧ W i b k H'
theorem max_turns {X : Cx} {A : Around} {gp : List (Addr × Obj)} {f S l it : Addr} {fo : Obj} {σ : L2.St} {G : Hp → Prop} {TB : V → Hp → VK → Prop} {W : Nat → V → Int → Hp → Prop} {xs : List V} {kw : List (Str × Value)} {R : Result → Shared → Prop}
    (hh : A.handled = none) (act : Acts X A.in1 f fo σ G TB) (hfg : (f, fo) ∈ gp) (fit : ∀ H' : Hp, H' it = none → FpOk X gp H' it) (hSit : S ≠ it) (h0 : X.s_0.heap.objs.size ≤ S) (hpS : ∀ p ∈ X.pn ++ gp, p.1 ≠ S)
    (wq : ∀ i b k H, W i b k H → SqL X.K H l xs ∧ G H)
    (step : ∀ i x b k H, W i b k H → xs[i]? = some x → TB x H fun y H' => ∃ n : Int, y = .int n ∧ (k < n → W (i + 1) x n H') ∧ (¬ k < n → W (i + 1) b k H'))
    (fin : ∀ b vb k H s', W xs.length b k H → Inv X gp σ H s' → RelV b vb → R (.ok (.ret vb)) s') :
    ∀ (m i : Nat) (b : V) (k : Int) (s : Shared), xs.length - i = m → i ≤ xs.length → MV X gp S l it σ W i b k s → codeAny (model X.prog X.w) A (.builtin "max.loop" ⟨[.ref it, .ref f, .ref S], kw⟩) R s := by
  have nm : (toString "max" ++ toString ".loop" : String) = "max.loop" := by decide
  have fit' : ∀ (H' : Hp) (us : Array Value) (c : Nat), H' it = none → FpOk X (gp ++ [(S, lstObj us c)]) H' it := fun H' us c n => by
    obtain ⟨f0, f1, f2, f3, f4, f5⟩ := fit H' n
    refine ⟨f0, f1, f2, f3, f4, fun p hp => ?_⟩
    rcases List.mem_append.mp hp with z | z
    · exact f5 p (List.mem_append_left _ z)
    · rcases List.mem_append.mp z with z | z
      · exact f5 p (List.mem_append_right _ z)
      · rw [List.mem_singleton.mp z]
        exact hSit
  have atS : ∀ {us : Array Value} {c : Nat} {H' : Hp} {s' : Shared}, Inv X (gp ++ [(S, lstObj us c)]) σ H' s' → s'.heap.get? S = some (lstObj us c) := fun {us c H' s'} J => (J.pin (S, lstObj us c) (List.mem_append_right _ (List.mem_append_right _ (List.mem_singleton.mpr rfl)))).1
  intro m
  induction m with
  | zero =>
    intro i b k s hm hi hG
    obtain ⟨H', vb, t, c, I, st, nit, rb, hw⟩ := hG
    have ei : i = xs.length := by omega
    subst ei
    obtain ⟨its, rv, pl, _⟩ := I.list (wq _ _ _ _ hw).1
    refine codeAny_builtin F.entry_max_loop ?_
    rw [Around.under_plainId F.plain_max_loop _]
    show wpAny _ A.in1 (seqItems? (.ref S) >>= _) _ _ s
    refine wpAny_bind (wpAny_seqItems (atS I) rfl ?_)
    show wpAny _ A.in1 (tryCatch (pyNext (.ref it)) _ >>= _) _ _ s
    have hlen := rv.length
    refine wpAny_bind (wpAny_tryCatch (wpAny_pyNext_list_end (A := A.in1) hh st pl.isList (by simp; omega) fun h' eb => ?_))
    obtain ⟨f0, f1, f2, f3, f4, f5⟩ := fit' H' _ c nit
    have I1 : Inv X (gp ++ [(S, lstObj #[vb, .int k t] c)]) σ H' { s with heap := h' } := I.turned (t' := s.toks) (fun b o hb e => eb b o hb e) f0 f1 f3 f4 f5
    show wpAny _ A.in1 (updateSeq S (fun _ => #[]) >>= _) _ _ _
    refine wpAny_bind (wpAny_updateSeq (atS I1) rfl (wpAny_bind (wpAny_letGo (wpAny_pure ?_))))
    obtain ⟨c2, hc2⟩ : ∃ c2, (h'.update S (Obj.mapSeq fun _ => #[])).get? S = some (lstObj #[] c2) := ⟨_, PyProof.Rows.get?_update_seq (atS I1) fun _ => #[]⟩
    exact fin b vb k H' _ hw (Inv.unpinned (pin_push (t' := s.toks) I1 h0 hpS (fun b o hb e => (Heap.get?_update_other _ _ (Ne.symm hb)).trans e) hc2)) rb
  | succ m ih =>
    intro i b k s hm hi hG
    obtain ⟨H', vb, t, c, I, st, nit, rb, hw⟩ := hG
    have hlt : i < xs.length := by omega
    obtain ⟨x, hx⟩ : ∃ x, xs[i]? = some x := ⟨_, List.getElem?_eq_getElem hlt⟩
    obtain ⟨its, rv, pl, _⟩ := I.list (wq _ _ _ _ hw).1
    obtain ⟨u, hu, ru⟩ := rv.get hx
    refine codeAny_builtin F.entry_max_loop ?_
    rw [Around.under_plainId F.plain_max_loop _]
    show wpAny _ A.in1 (seqItems? (.ref S) >>= _) _ _ s
    refine wpAny_bind (wpAny_seqItems (atS I) rfl ?_)
    show wpAny _ A.in1 (tryCatch (pyNext (.ref it)) _ >>= _) _ _ s
    refine wpAny_bind (wpAny_tryCatch (wpAny_pyNext_list_item (A := A.in1) st pl.isList (x := u) (by simpa using hu) fun h' st' sb => ?_))
    obtain ⟨f0, f1, f2, f3, f4, f5⟩ := fit' H' #[vb, .int k t] c nit
    have I1 : Inv X (gp ++ [(S, lstObj #[vb, .int k t] c)]) σ H' { s with heap := h' } := I.turned (t' := s.toks) (fun b o hb e => (sb.2 b hb).trans e) f0 f1 f3 f4 f5
    obtain ⟨oi, hoi, cli, dti⟩ := id st'
    have I2 := I1.pins_of (pins' := (gp ++ [(S, lstObj #[vb, .int k t] c)]) ++ [(it, oi)]) fun p hp => by
      rcases List.mem_append.mp hp with z | z
      · exact I1.pin p (List.mem_append_right _ z)
      · rw [List.mem_singleton.mp z]
        exact ⟨hoi, f0, f1, f2, fun v z => by rw [dti] at z; cases z⟩
    show wpAny _ A.in1 (tryCatch (holding [u] (call (.ref f) [u])) _ >>= _) _ _ _
    have hf1 := (I1.pin (f, fo) (List.mem_append_right _ (List.mem_append_left _ hfg))).1
    refine wpAny_bind (wpAny_tryCatch (wpAny_holding (thn (act _ _ H' x u _ _ I2 hf1 (wq _ _ _ _ hw).2 ru (step i x b k H' hw hx)) fun z s2 hz => ?_)))
    obtain ⟨y, H2, I3, rz, n, rfl, hgt, hle⟩ := hz
    obtain ⟨t2, rfl⟩ := rz
    have hit := I3.pin (it, oi) (List.mem_append_right _ (List.mem_append_right _ (List.mem_singleton.mpr rfl)))
    have st2 : s2.heap.IsListIter it l (i + 1) := ⟨oi, hit.1, cli, dti⟩
    have I4 : Inv X (gp ++ [(S, lstObj #[vb, .int k t] c)]) σ H2 s2 := Inv.unpinned I3
    show wpAny _ A.in1 (tryCatch (holding [u, .int n t2] (richCompare .Gt (.int n t2) (.int k t) >>= _)) _ >>= _) _ _ _
    refine wpAny_bind (wpAny_tryCatch (wpAny_holding (wpAny_bind (CmpOf.ints_gt (prog := X.prog) (w := X.w) (A := A.in1) (P := fun (j : Nat) v => ∃ t, v = .int (if j = 0 then n else k) t) (fun j => if j = 0 then n else k) (fun _ _ h => h) 0 1 _ _ _ _ _ ⟨t2, rfl⟩ ⟨t, rfl⟩ ?_))))
    refine wpAny_bind (wpAny_holding (wpAny_truthy_bool ?_))
    refine wpAny_bind (wpAny_letGo (wpAny_pure ?_))
    by_cases hb : k < n
    · have e : (fun i j : Nat => decide ((if i = 0 then n else k) > (if j = 0 then n else k))) 0 1 = true := by simpa using hb
      rw [e]
      simp only [if_true]
      refine wpAny_bind (wpAny_updateSeq (atS I4) rfl (wpAny_bind (wpAny_letGo ?_)))
      rw [nm]
      obtain ⟨c2, hc2⟩ : ∃ c2, (s2.heap.update S (Obj.mapSeq fun _ => #[u, .int n t2])).get? S = some (lstObj #[u, .int n t2] c2) := ⟨_, PyProof.Rows.get?_update_seq (atS I4) fun _ => #[u, .int n t2]⟩
      have ko : ∀ b o, b ≠ S → s2.heap.get? b = some o → (s2.heap.update S (Obj.mapSeq fun _ => #[u, .int n t2])).get? b = some o := fun b o hb e => (Heap.get?_update_other _ _ (Ne.symm hb)).trans e
      refine wpAny_pure ⟨plainId_quiet F.plain_max_loop _, ih (i + 1) x n _ (by omega) hlt ⟨H2, u, t2, c2, pin_push (t' := s2.toks) I4 h0 hpS ko hc2, st2.at fun o e => ko it o (Ne.symm hSit) e, hit.2.1, ru, hgt hb⟩⟩
    · have e : (fun i j : Nat => decide ((if i = 0 then n else k) > (if j = 0 then n else k))) 0 1 = false := by simpa using hb
      rw [e]
      simp only [Bool.false_eq_true, if_false]
      refine wpAny_bind (wpAny_letGo ?_)
      rw [nm]
      exact wpAny_pure ⟨plainId_quiet F.plain_max_loop _, ih (i + 1) b k _ (by omega) hlt ⟨H2, vb, t, c, I4, st2, hit.2.1, rb, hle hb⟩⟩
/-- max(xs, key=f), f called item by item -/
theorem max_key {X : Cx} {A : Around} {pins : List (Addr × Obj)} {f l : Addr} {fo : Obj} {σ : L2.St} {H : Hp} {s : Shared} {G : Hp → Prop} {TB : V → Hp → VK → Prop} {W : Nat → V → Int → Hp → Prop} {xs : List V} {Q : Value → Shared → Prop} {E : Value → Shared → Prop}
    (hh : A.handled = none) (I : Inv X pins σ H s) (act : Acts X A.in1 f fo σ G TB) (hf : s.heap.get? f = some fo) (hfp : FpOk X pins H f) (hfd : ∀ v, fo.data ≠ .cell v) (hq : SqL X.K H l xs) (hG : G H)
    (wq : ∀ i b k H, W i b k H → SqL X.K H l xs ∧ G H) (first : ∃ x, xs[0]? = some x ∧ TB x H fun y H' => ∃ n : Int, y = .int n ∧ W 1 x n H')
    (step : ∀ i x b k H, W i b k H → xs[i]? = some x → TB x H fun y H' => ∃ n : Int, y = .int n ∧ (k < n → W (i + 1) x n H') ∧ (¬ k < n → W (i + 1) b k H'))
    (fin : ∀ b vb k H s', W xs.length b k H → Inv X pins σ H s' → RelV b vb → Q vb s') :
    wpAny (model X.prog X.w) A (call (.builtin "max") [.ref l] [(Str.ofString "key", .ref f)]) Q E s := by
  have nm : (toString "max" ++ toString ".loop" : String) = "max.loop" := by decide
  refine PyProof.Rows.kmk_tree F.kind_max F.plain_max F.entry_max (PyProof.Rows.kmk_max_key _ _) ?_
  show wpAny _ A.in1 (Builtin.Builtins.bindParams "max" ["key", "default"] 0 ⟨[], [(Str.ofString "key", .ref f)]⟩ >>= _) _ _ s
  refine wpAny_bind (wpAny_of_eq (show Builtin.Builtins.bindParams "max" ["key", "default"] 0 ⟨[], [(Str.ofString "key", .ref f)]⟩ = pure [some (.ref f), none] from rfl) (wpAny_bind (wpAny_pure ?_)))
  obtain ⟨its, rv, pl, _⟩ := I.list hq
  refine wpAny_bind (wpAny_pyIter_list pl.isList ?_)
  have k1 : ∀ b u, s.heap.get? b = some u → (s.heap.push { cls := .type "list_iterator", data := .fields #[.ref l, .int 0 0] }).get? b = some u := fun b o e => Heap.get?_push_of_some _ e
  refine wpAny_bind (wpAny_newObj_type ?_)
  rw [nm]
  have k2 : ∀ b u, s.heap.get? b = some u → ((s.heap.push { cls := .type "list_iterator", data := .fields #[.ref l, .int 0 0] }).push { cls := .type "list", data := .seq #[] 0 }).get? b = some u := fun b o e => Heap.get?_push_of_some _ (k1 b o e)
  have hsz : (s.heap.push { cls := .type "list_iterator", data := .fields #[.ref l, .int 0 0] }).objs.size = s.heap.objs.size + 1 := by simp [Heap.push]
  have hit0 : ((s.heap.push { cls := .type "list_iterator", data := .fields #[.ref l, .int 0 0] }).push { cls := .type "list", data := .seq #[] 0 }).IsListIter s.heap.objs.size l 0 := ⟨_, Heap.get?_push_of_some _ (Heap.get?_push_size _ rfl), rfl, rfl⟩
  have hS0 : ((s.heap.push { cls := .type "list_iterator", data := .fields #[.ref l, .int 0 0] }).push { cls := .type "list", data := .seq #[] 0 }).get? (s.heap.objs.size + 1) = some (lstObj #[] 0) := by
    rw [← hsz]
    exact Heap.get?_push_size _ rfl
  show wpAny _ _ (pure (Fin.again (.builtin "max.loop" ⟨[.ref s.heap.objs.size, .ref f, .ref (s.heap.push { cls := .type "list_iterator", data := .fields #[.ref l, .int 0 0] }).objs.size], _⟩))) _ _ _
  rw [hsz]
  generalize ((s.heap.push { cls := .type "list_iterator", data := .fields #[.ref l, .int 0 0] }).push { cls := .type "list", data := .seq #[] 0 }) = hp at k2 hit0 hS0 ⊢
  have hlf : f < s.heap.objs.size := Heap.lt_size hf
  have nit : ∀ b, s.heap.objs.size ≤ b → H b = none := fun b hb => I.hok.fresh hb
  obtain ⟨g0, g1, g2, g3, g4, g5⟩ := hfp
  have J0 : Inv X (pins ++ [(f, fo)]) σ H { s with heap := hp } := by
    have J : Inv X pins σ H { s with heap := hp } := I.kept (t' := s.toks) k2
    refine J.pins_of fun p hp' => ?_
    rcases List.mem_append.mp hp' with z | z
    · exact J.pin p (List.mem_append_right _ z)
    · rw [List.mem_singleton.mp z]
      exact ⟨k2 _ _ hf, g0, g1, g2, hfd⟩
  have fit : ∀ H' : Hp, H' s.heap.objs.size = none → FpOk X (pins ++ [(f, fo)]) H' s.heap.objs.size := fun H' n => by
    obtain ⟨f0, f1, f2, f3, f4, f5⟩ := I.fpOk (H' := H') (Nat.le_refl _) n
    refine ⟨f0, f1, f2, f3, f4, fun p hp' => ?_⟩
    rcases List.mem_append.mp hp' with z | z
    · exact f5 p (List.mem_append_left _ z)
    · rcases List.mem_append.mp z with z | z
      · exact f5 p (List.mem_append_right _ z)
      · rw [List.mem_singleton.mp z]
        exact Nat.ne_of_lt hlf
  have hSp : ∀ p ∈ X.pn ++ (pins ++ [(f, fo)]), p.1 ≠ s.heap.objs.size + 1 := fun p hp' z => by
    rcases List.mem_append.mp hp' with y | y
    · exact (I.fpOk (H' := H) (Nat.le_succ _) (nit _ (Nat.le_succ _))).2.2.2.2.2 p (List.mem_append_left _ y) z
    · rcases List.mem_append.mp y with y | y
      · exact (I.fpOk (H' := H) (Nat.le_succ _) (nit _ (Nat.le_succ _))).2.2.2.2.2 p (List.mem_append_right _ y) z
      · rw [List.mem_singleton.mp y] at z
        have z : f = s.heap.objs.size + 1 := z
        exact absurd hlf (by rw [z]; exact Nat.not_lt.mpr (Nat.le_succ _))
  have hSlow : X.s_0.heap.objs.size ≤ s.heap.objs.size + 1 := Nat.le_trans I.sz (Nat.le_succ _)
  have sf := I.fpOk (H' := H) (Nat.le_succ s.heap.objs.size) (nit _ (Nat.le_succ _))
  have J1 : Inv X ((pins ++ [(f, fo)]) ++ [(s.heap.objs.size + 1, lstObj #[] 0)]) σ H { s with heap := hp } := J0.pins_of fun p hp' => by
    rcases List.mem_append.mp hp' with z | z
    · exact J0.pin p (List.mem_append_right _ z)
    · rw [List.mem_singleton.mp z]
      exact ⟨hS0, sf.1, sf.2.1, sf.2.2.1, fun v z => nomatch z⟩
  have atS : ∀ {us : Array Value} {c : Nat} {H' : Hp} {s' : Shared} {more : List (Addr × Obj)}, Inv X (((pins ++ [(f, fo)]) ++ [(s.heap.objs.size + 1, lstObj us c)]) ++ more) σ H' s' → s'.heap.get? (s.heap.objs.size + 1) = some (lstObj us c) := fun {us c H' s' more} J =>
    (J.pin (s.heap.objs.size + 1, lstObj us c) (List.mem_append_right _ (List.mem_append_left _ (List.mem_append_right _ (List.mem_singleton.mpr rfl))))).1
  obtain ⟨x, hx, tx⟩ := first
  obtain ⟨its, rv, pl, _⟩ := J1.list hq
  obtain ⟨u, hu, ru⟩ := rv.get hx
  refine wpAny_pure ⟨plainId_quiet F.plain_max_loop _, codeAny_builtin F.entry_max_loop ?_⟩
  rw [Around.under_plainId F.plain_max_loop _]
  show wpAny _ A.in1 (seqItems? (.ref (s.heap.objs.size + 1)) >>= _) _ _ _
  refine wpAny_bind (wpAny_seqItems hS0 rfl ?_)
  show wpAny _ A.in1 (tryCatch (pyNext (.ref s.heap.objs.size)) _ >>= _) _ _ _
  refine wpAny_bind (wpAny_tryCatch (wpAny_pyNext_list_item (A := A.in1) hit0 pl.isList (x := u) (by simpa using hu) fun h' st' sb => ?_))
  have fitS : FpOk X ((pins ++ [(f, fo)]) ++ [(s.heap.objs.size + 1, lstObj #[] 0)]) H s.heap.objs.size := by
    obtain ⟨f0, f1, f2, f3, f4, f5⟩ := fit H (nit _ (Nat.le_refl _))
    refine ⟨f0, f1, f2, f3, f4, fun p hp' => ?_⟩
    rcases List.mem_append.mp hp' with z | z
    · exact f5 p (List.mem_append_left _ z)
    · rcases List.mem_append.mp z with z | z
      · exact f5 p (List.mem_append_right _ z)
      · rw [List.mem_singleton.mp z]
        exact Nat.succ_ne_self _
  obtain ⟨f0, f1, f2, f3, f4, f5⟩ := fitS
  have I1 : Inv X ((pins ++ [(f, fo)]) ++ [(s.heap.objs.size + 1, lstObj #[] 0)]) σ H { s with heap := h' } := J1.turned (t' := s.toks) (fun b o hb e => (sb.2 b hb).trans e) f0 f1 f3 f4 f5
  obtain ⟨oi, hoi, cli, dti⟩ := id st'
  have I2 := I1.pins_of (pins' := ((pins ++ [(f, fo)]) ++ [(s.heap.objs.size + 1, lstObj #[] 0)]) ++ [(s.heap.objs.size, oi)]) fun p hp' => by
    rcases List.mem_append.mp hp' with z | z
    · exact I1.pin p (List.mem_append_right _ z)
    · rw [List.mem_singleton.mp z]
      exact ⟨hoi, f0, f1, f2, fun v z => by rw [dti] at z; cases z⟩
  show wpAny _ A.in1 (tryCatch (holding [u] (call (.ref f) [u])) _ >>= _) _ _ _
  have hf1 := (I1.pin (f, fo) (List.mem_append_right _ (List.mem_append_left _ (List.mem_append_right _ (List.mem_singleton.mpr rfl))))).1
  refine wpAny_bind (wpAny_tryCatch (wpAny_holding (thn (act _ _ H x u _ _ I2 hf1 hG ru tx) fun z s2 hz => ?_)))
  obtain ⟨y, H2, I3, rz, n, rfl, hw⟩ := hz
  obtain ⟨t2, rfl⟩ := rz
  have hit := I3.pin (s.heap.objs.size, oi) (List.mem_append_right _ (List.mem_append_right _ (List.mem_singleton.mpr rfl)))
  have st2 : s2.heap.IsListIter s.heap.objs.size l 1 := ⟨oi, hit.1, cli, dti⟩
  have I4 : Inv X ((pins ++ [(f, fo)]) ++ [(s.heap.objs.size + 1, lstObj #[] 0)]) σ H2 s2 := Inv.unpinned I3
  have hS2 := atS I3
  show wpAny _ A.in1 (updateSeq (s.heap.objs.size + 1) (fun _ => #[u, .int n t2]) >>= _) _ _ _
  refine wpAny_bind (wpAny_updateSeq hS2 rfl ?_)
  rw [nm]
  obtain ⟨c2, hc2⟩ : ∃ c2, (s2.heap.update (s.heap.objs.size + 1) (Obj.mapSeq fun _ => #[u, .int n t2])).get? (s.heap.objs.size + 1) = some (lstObj #[u, .int n t2] c2) := ⟨_, PyProof.Rows.get?_update_seq hS2 fun _ => #[u, .int n t2]⟩
  have ko : ∀ b o, b ≠ s.heap.objs.size + 1 → s2.heap.get? b = some o → (s2.heap.update (s.heap.objs.size + 1) (Obj.mapSeq fun _ => #[u, .int n t2])).get? b = some o := fun b o hb e => (Heap.get?_update_other _ _ (Ne.symm hb)).trans e
  refine wpAny_pure ⟨plainId_quiet F.plain_max_loop _, max_turns (gp := pins ++ [(f, fo)]) (f := f) (fo := fo) (W := W) (xs := xs) hh act (List.mem_append_right _ (List.mem_singleton.mpr rfl)) fit (Nat.succ_ne_self _) hSlow hSp wq step (fun b vb k H s' w J r => fin b vb k H s' w (Inv.unpinned J) r) (xs.length - 1) 1 x n _ rfl ?_ ⟨H2, u, t2, c2, pin_push (t' := s2.toks) I4 hSlow hSp ko hc2, st2.at fun o e => ko _ o (Ne.symm (Nat.succ_ne_self _)) e, hit.2.1, ru, hw⟩⟩
  have h9 := (List.getElem?_eq_some_iff.mp hx).1
  omega
end LM

set_option Elab.async false
set_option linter.all false
set_option maxRecDepth 100000
set_option maxHeartbeats 4000000
namespace LM
open PySem PySem.Spec PyProof.Rows L2 LamX Evl DL GX
/-- between two turns of min with a key: b is the best so far, its key k -/
def NV (X : Cx) (gp : List (Addr × Obj)) (S l it : Addr) (σ : L2.St) (W : Nat → V → Int → Hp → Prop) (i : Nat) (b : V) (k : Int) (s : Shared) : Prop :=
  ∃ (H' : Hp) (vb : Value) (t : Tok) (c : Nat), Inv X (gp ++ [(S, lstObj #[vb, .int k t] c)]) σ H' s ∧ s.heap.IsListIter it l i ∧ H' it = none ∧ RelV b vb ∧ W i b k H'
theorem min_turns {X : Cx} {A : Around} {gp : List (Addr × Obj)} {f S l it : Addr} {fo : Obj} {σ : L2.St} {G : Hp → Prop} {TB : V → Hp → VK → Prop} {W : Nat → V → Int → Hp → Prop} {xs : List V} {kw : List (Str × Value)} {R : Result → Shared → Prop}
    (hh : A.handled = none) (act : Acts X A.in1 f fo σ G TB) (hfg : (f, fo) ∈ gp) (fit : ∀ H' : Hp, H' it = none → FpOk X gp H' it) (hSit : S ≠ it) (h0 : X.s_0.heap.objs.size ≤ S) (hpS : ∀ p ∈ X.pn ++ gp, p.1 ≠ S)
    (wq : ∀ i b k H, W i b k H → SqL X.K H l xs ∧ G H)
    (step : ∀ i x b k H, W i b k H → xs[i]? = some x → TB x H fun y H' => ∃ n : Int, y = .int n ∧ (n < k → W (i + 1) x n H') ∧ (¬ n < k → W (i + 1) b k H'))
    (fin : ∀ b vb k H s', W xs.length b k H → Inv X gp σ H s' → RelV b vb → R (.ok (.ret vb)) s') :
    ∀ (m i : Nat) (b : V) (k : Int) (s : Shared), xs.length - i = m → i ≤ xs.length → NV X gp S l it σ W i b k s → codeAny (model X.prog X.w) A (.builtin "min.loop" ⟨[.ref it, .ref f, .ref S], kw⟩) R s := by
  have nm : (toString "min" ++ toString ".loop" : String) = "min.loop" := by decide
  have fit' : ∀ (H' : Hp) (us : Array Value) (c : Nat), H' it = none → FpOk X (gp ++ [(S, lstObj us c)]) H' it := fun H' us c n => by
    obtain ⟨f0, f1, f2, f3, f4, f5⟩ := fit H' n
    refine ⟨f0, f1, f2, f3, f4, fun p hp => ?_⟩
    rcases List.mem_append.mp hp with z | z
    · exact f5 p (List.mem_append_left _ z)
    · rcases List.mem_append.mp z with z | z
      · exact f5 p (List.mem_append_right _ z)
      · rw [List.mem_singleton.mp z]
        exact hSit
  have atS : ∀ {us : Array Value} {c : Nat} {H' : Hp} {s' : Shared}, Inv X (gp ++ [(S, lstObj us c)]) σ H' s' → s'.heap.get? S = some (lstObj us c) := fun {us c H' s'} J => (J.pin (S, lstObj us c) (List.mem_append_right _ (List.mem_append_right _ (List.mem_singleton.mpr rfl)))).1
  intro m
  induction m with
  | zero =>
    intro i b k s hm hi hG
    obtain ⟨H', vb, t, c, I, st, nit, rb, hw⟩ := hG
    have ei : i = xs.length := by omega
    subst ei
    obtain ⟨its, rv, pl, _⟩ := I.list (wq _ _ _ _ hw).1
    refine codeAny_builtin F.entry_min_loop ?_
    rw [Around.under_plainId F.plain_min_loop _]
    show wpAny _ A.in1 (seqItems? (.ref S) >>= _) _ _ s
    refine wpAny_bind (wpAny_seqItems (atS I) rfl ?_)
    show wpAny _ A.in1 (tryCatch (pyNext (.ref it)) _ >>= _) _ _ s
    have hlen := rv.length
    refine wpAny_bind (wpAny_tryCatch (wpAny_pyNext_list_end (A := A.in1) hh st pl.isList (by simp; omega) fun h' eb => ?_))
    obtain ⟨f0, f1, f2, f3, f4, f5⟩ := fit' H' _ c nit
    have I1 : Inv X (gp ++ [(S, lstObj #[vb, .int k t] c)]) σ H' { s with heap := h' } := I.turned (t' := s.toks) (fun b o hb e => eb b o hb e) f0 f1 f3 f4 f5
    show wpAny _ A.in1 (updateSeq S (fun _ => #[]) >>= _) _ _ _
    refine wpAny_bind (wpAny_updateSeq (atS I1) rfl (wpAny_bind (wpAny_letGo (wpAny_pure ?_))))
    obtain ⟨c2, hc2⟩ : ∃ c2, (h'.update S (Obj.mapSeq fun _ => #[])).get? S = some (lstObj #[] c2) := ⟨_, PyProof.Rows.get?_update_seq (atS I1) fun _ => #[]⟩
    exact fin b vb k H' _ hw (Inv.unpinned (pin_push (t' := s.toks) I1 h0 hpS (fun b o hb e => (Heap.get?_update_other _ _ (Ne.symm hb)).trans e) hc2)) rb
  | succ m ih =>
    intro i b k s hm hi hG
    obtain ⟨H', vb, t, c, I, st, nit, rb, hw⟩ := hG
    have hlt : i < xs.length := by omega
    obtain ⟨x, hx⟩ : ∃ x, xs[i]? = some x := ⟨_, List.getElem?_eq_getElem hlt⟩
    obtain ⟨its, rv, pl, _⟩ := I.list (wq _ _ _ _ hw).1
    obtain ⟨u, hu, ru⟩ := rv.get hx
    refine codeAny_builtin F.entry_min_loop ?_
    rw [Around.under_plainId F.plain_min_loop _]
    show wpAny _ A.in1 (seqItems? (.ref S) >>= _) _ _ s
    refine wpAny_bind (wpAny_seqItems (atS I) rfl ?_)
    show wpAny _ A.in1 (tryCatch (pyNext (.ref it)) _ >>= _) _ _ s
    refine wpAny_bind (wpAny_tryCatch (wpAny_pyNext_list_item (A := A.in1) st pl.isList (x := u) (by simpa using hu) fun h' st' sb => ?_))
    obtain ⟨f0, f1, f2, f3, f4, f5⟩ := fit' H' #[vb, .int k t] c nit
    have I1 : Inv X (gp ++ [(S, lstObj #[vb, .int k t] c)]) σ H' { s with heap := h' } := I.turned (t' := s.toks) (fun b o hb e => (sb.2 b hb).trans e) f0 f1 f3 f4 f5
    obtain ⟨oi, hoi, cli, dti⟩ := id st'
    have I2 := I1.pins_of (pins' := (gp ++ [(S, lstObj #[vb, .int k t] c)]) ++ [(it, oi)]) fun p hp => by
      rcases List.mem_append.mp hp with z | z
      · exact I1.pin p (List.mem_append_right _ z)
      · rw [List.mem_singleton.mp z]
        exact ⟨hoi, f0, f1, f2, fun v z => by rw [dti] at z; cases z⟩
    show wpAny _ A.in1 (tryCatch (holding [u] (call (.ref f) [u])) _ >>= _) _ _ _
    have hf1 := (I1.pin (f, fo) (List.mem_append_right _ (List.mem_append_left _ hfg))).1
    refine wpAny_bind (wpAny_tryCatch (wpAny_holding (thn (act _ _ H' x u _ _ I2 hf1 (wq _ _ _ _ hw).2 ru (step i x b k H' hw hx)) fun z s2 hz => ?_)))
    obtain ⟨y, H2, I3, rz, n, rfl, hgt, hle⟩ := hz
    obtain ⟨t2, rfl⟩ := rz
    have hit := I3.pin (it, oi) (List.mem_append_right _ (List.mem_append_right _ (List.mem_singleton.mpr rfl)))
    have st2 : s2.heap.IsListIter it l (i + 1) := ⟨oi, hit.1, cli, dti⟩
    have I4 : Inv X (gp ++ [(S, lstObj #[vb, .int k t] c)]) σ H2 s2 := Inv.unpinned I3
    show wpAny _ A.in1 (tryCatch (holding [u, .int n t2] (richCompare .Lt (.int n t2) (.int k t) >>= _)) _ >>= _) _ _ _
    refine wpAny_bind (wpAny_tryCatch (wpAny_holding (wpAny_bind (CmpOf.ints_lt (prog := X.prog) (w := X.w) (A := A.in1) (P := fun (j : Nat) v => ∃ t, v = .int (if j = 0 then n else k) t) (fun j => if j = 0 then n else k) (fun _ _ h => h) 0 1 _ _ _ _ _ ⟨t2, rfl⟩ ⟨t, rfl⟩ ?_))))
    refine wpAny_bind (wpAny_holding (wpAny_truthy_bool ?_))
    refine wpAny_bind (wpAny_letGo (wpAny_pure ?_))
    by_cases hb : n < k
    · have e : (fun i j : Nat => decide ((if i = 0 then n else k) < (if j = 0 then n else k))) 0 1 = true := by simpa using hb
      rw [e]
      simp only [if_true]
      refine wpAny_bind (wpAny_updateSeq (atS I4) rfl (wpAny_bind (wpAny_letGo ?_)))
      rw [nm]
      obtain ⟨c2, hc2⟩ : ∃ c2, (s2.heap.update S (Obj.mapSeq fun _ => #[u, .int n t2])).get? S = some (lstObj #[u, .int n t2] c2) := ⟨_, PyProof.Rows.get?_update_seq (atS I4) fun _ => #[u, .int n t2]⟩
      have ko : ∀ b o, b ≠ S → s2.heap.get? b = some o → (s2.heap.update S (Obj.mapSeq fun _ => #[u, .int n t2])).get? b = some o := fun b o hb e => (Heap.get?_update_other _ _ (Ne.symm hb)).trans e
      refine wpAny_pure ⟨plainId_quiet F.plain_min_loop _, ih (i + 1) x n _ (by omega) hlt ⟨H2, u, t2, c2, pin_push (t' := s2.toks) I4 h0 hpS ko hc2, st2.at fun o e => ko it o (Ne.symm hSit) e, hit.2.1, ru, hgt hb⟩⟩
    · have e : (fun i j : Nat => decide ((if i = 0 then n else k) < (if j = 0 then n else k))) 0 1 = false := by simpa using hb
      rw [e]
      simp only [Bool.false_eq_true, if_false]
      refine wpAny_bind (wpAny_letGo ?_)
      rw [nm]
      exact wpAny_pure ⟨plainId_quiet F.plain_min_loop _, ih (i + 1) b k _ (by omega) hlt ⟨H2, vb, t, c, I4, st2, hit.2.1, rb, hle hb⟩⟩
/-- min(xs, key=f), f called item by item -/
theorem min_key {X : Cx} {A : Around} {pins : List (Addr × Obj)} {f l : Addr} {fo : Obj} {σ : L2.St} {H : Hp} {s : Shared} {G : Hp → Prop} {TB : V → Hp → VK → Prop} {W : Nat → V → Int → Hp → Prop} {xs : List V} {Q : Value → Shared → Prop} {E : Value → Shared → Prop}
    (hh : A.handled = none) (I : Inv X pins σ H s) (act : Acts X A.in1 f fo σ G TB) (hf : s.heap.get? f = some fo) (hfp : FpOk X pins H f) (hfd : ∀ v, fo.data ≠ .cell v) (hq : SqL X.K H l xs) (hG : G H)
    (wq : ∀ i b k H, W i b k H → SqL X.K H l xs ∧ G H) (first : ∃ x, xs[0]? = some x ∧ TB x H fun y H' => ∃ n : Int, y = .int n ∧ W 1 x n H')
    (step : ∀ i x b k H, W i b k H → xs[i]? = some x → TB x H fun y H' => ∃ n : Int, y = .int n ∧ (n < k → W (i + 1) x n H') ∧ (¬ n < k → W (i + 1) b k H'))
    (fin : ∀ b vb k H s', W xs.length b k H → Inv X pins σ H s' → RelV b vb → Q vb s') :
    wpAny (model X.prog X.w) A (call (.builtin "min") [.ref l] [(Str.ofString "key", .ref f)]) Q E s := by
  have nm : (toString "min" ++ toString ".loop" : String) = "min.loop" := by decide
  refine PyProof.Rows.kmk_tree F.kind_min F.plain_min F.entry_min (PyProof.Rows.kmk_min_key _ _) ?_
  show wpAny _ A.in1 (Builtin.Builtins.bindParams "min" ["key", "default"] 0 ⟨[], [(Str.ofString "key", .ref f)]⟩ >>= _) _ _ s
  refine wpAny_bind (wpAny_of_eq (show Builtin.Builtins.bindParams "min" ["key", "default"] 0 ⟨[], [(Str.ofString "key", .ref f)]⟩ = pure [some (.ref f), none] from rfl) (wpAny_bind (wpAny_pure ?_)))
  obtain ⟨its, rv, pl, _⟩ := I.list hq
  refine wpAny_bind (wpAny_pyIter_list pl.isList ?_)
  have k1 : ∀ b u, s.heap.get? b = some u → (s.heap.push { cls := .type "list_iterator", data := .fields #[.ref l, .int 0 0] }).get? b = some u := fun b o e => Heap.get?_push_of_some _ e
  refine wpAny_bind (wpAny_newObj_type ?_)
  rw [nm]
  have k2 : ∀ b u, s.heap.get? b = some u → ((s.heap.push { cls := .type "list_iterator", data := .fields #[.ref l, .int 0 0] }).push { cls := .type "list", data := .seq #[] 0 }).get? b = some u := fun b o e => Heap.get?_push_of_some _ (k1 b o e)
  have hsz : (s.heap.push { cls := .type "list_iterator", data := .fields #[.ref l, .int 0 0] }).objs.size = s.heap.objs.size + 1 := by simp [Heap.push]
  have hit0 : ((s.heap.push { cls := .type "list_iterator", data := .fields #[.ref l, .int 0 0] }).push { cls := .type "list", data := .seq #[] 0 }).IsListIter s.heap.objs.size l 0 := ⟨_, Heap.get?_push_of_some _ (Heap.get?_push_size _ rfl), rfl, rfl⟩
  have hS0 : ((s.heap.push { cls := .type "list_iterator", data := .fields #[.ref l, .int 0 0] }).push { cls := .type "list", data := .seq #[] 0 }).get? (s.heap.objs.size + 1) = some (lstObj #[] 0) := by
    rw [← hsz]
    exact Heap.get?_push_size _ rfl
  show wpAny _ _ (pure (Fin.again (.builtin "min.loop" ⟨[.ref s.heap.objs.size, .ref f, .ref (s.heap.push { cls := .type "list_iterator", data := .fields #[.ref l, .int 0 0] }).objs.size], _⟩))) _ _ _
  rw [hsz]
  generalize ((s.heap.push { cls := .type "list_iterator", data := .fields #[.ref l, .int 0 0] }).push { cls := .type "list", data := .seq #[] 0 }) = hp at k2 hit0 hS0 ⊢
  have hlf : f < s.heap.objs.size := Heap.lt_size hf
  have nit : ∀ b, s.heap.objs.size ≤ b → H b = none := fun b hb => I.hok.fresh hb
  obtain ⟨g0, g1, g2, g3, g4, g5⟩ := hfp
  have J0 : Inv X (pins ++ [(f, fo)]) σ H { s with heap := hp } := by
    have J : Inv X pins σ H { s with heap := hp } := I.kept (t' := s.toks) k2
    refine J.pins_of fun p hp' => ?_
    rcases List.mem_append.mp hp' with z | z
    · exact J.pin p (List.mem_append_right _ z)
    · rw [List.mem_singleton.mp z]
      exact ⟨k2 _ _ hf, g0, g1, g2, hfd⟩
  have fit : ∀ H' : Hp, H' s.heap.objs.size = none → FpOk X (pins ++ [(f, fo)]) H' s.heap.objs.size := fun H' n => by
    obtain ⟨f0, f1, f2, f3, f4, f5⟩ := I.fpOk (H' := H') (Nat.le_refl _) n
    refine ⟨f0, f1, f2, f3, f4, fun p hp' => ?_⟩
    rcases List.mem_append.mp hp' with z | z
    · exact f5 p (List.mem_append_left _ z)
    · rcases List.mem_append.mp z with z | z
      · exact f5 p (List.mem_append_right _ z)
      · rw [List.mem_singleton.mp z]
        exact Nat.ne_of_lt hlf
  have hSp : ∀ p ∈ X.pn ++ (pins ++ [(f, fo)]), p.1 ≠ s.heap.objs.size + 1 := fun p hp' z => by
    rcases List.mem_append.mp hp' with y | y
    · exact (I.fpOk (H' := H) (Nat.le_succ _) (nit _ (Nat.le_succ _))).2.2.2.2.2 p (List.mem_append_left _ y) z
    · rcases List.mem_append.mp y with y | y
      · exact (I.fpOk (H' := H) (Nat.le_succ _) (nit _ (Nat.le_succ _))).2.2.2.2.2 p (List.mem_append_right _ y) z
      · rw [List.mem_singleton.mp y] at z
        have z : f = s.heap.objs.size + 1 := z
        exact absurd hlf (by rw [z]; exact Nat.not_lt.mpr (Nat.le_succ _))
  have hSlow : X.s_0.heap.objs.size ≤ s.heap.objs.size + 1 := Nat.le_trans I.sz (Nat.le_succ _)
  have sf := I.fpOk (H' := H) (Nat.le_succ s.heap.objs.size) (nit _ (Nat.le_succ _))
  have J1 : Inv X ((pins ++ [(f, fo)]) ++ [(s.heap.objs.size + 1, lstObj #[] 0)]) σ H { s with heap := hp } := J0.pins_of fun p hp' => by
    rcases List.mem_append.mp hp' with z | z
    · exact J0.pin p (List.mem_append_right _ z)
    · rw [List.mem_singleton.mp z]
      exact ⟨hS0, sf.1, sf.2.1, sf.2.2.1, fun v z => nomatch z⟩
  have atS : ∀ {us : Array Value} {c : Nat} {H' : Hp} {s' : Shared} {more : List (Addr × Obj)}, Inv X (((pins ++ [(f, fo)]) ++ [(s.heap.objs.size + 1, lstObj us c)]) ++ more) σ H' s' → s'.heap.get? (s.heap.objs.size + 1) = some (lstObj us c) := fun {us c H' s' more} J =>
    (J.pin (s.heap.objs.size + 1, lstObj us c) (List.mem_append_right _ (List.mem_append_left _ (List.mem_append_right _ (List.mem_singleton.mpr rfl))))).1
  obtain ⟨x, hx, tx⟩ := first
  obtain ⟨its, rv, pl, _⟩ := J1.list hq
  obtain ⟨u, hu, ru⟩ := rv.get hx
  refine wpAny_pure ⟨plainId_quiet F.plain_min_loop _, codeAny_builtin F.entry_min_loop ?_⟩
  rw [Around.under_plainId F.plain_min_loop _]
  show wpAny _ A.in1 (seqItems? (.ref (s.heap.objs.size + 1)) >>= _) _ _ _
  refine wpAny_bind (wpAny_seqItems hS0 rfl ?_)
  show wpAny _ A.in1 (tryCatch (pyNext (.ref s.heap.objs.size)) _ >>= _) _ _ _
  refine wpAny_bind (wpAny_tryCatch (wpAny_pyNext_list_item (A := A.in1) hit0 pl.isList (x := u) (by simpa using hu) fun h' st' sb => ?_))
  have fitS : FpOk X ((pins ++ [(f, fo)]) ++ [(s.heap.objs.size + 1, lstObj #[] 0)]) H s.heap.objs.size := by
    obtain ⟨f0, f1, f2, f3, f4, f5⟩ := fit H (nit _ (Nat.le_refl _))
    refine ⟨f0, f1, f2, f3, f4, fun p hp' => ?_⟩
    rcases List.mem_append.mp hp' with z | z
    · exact f5 p (List.mem_append_left _ z)
    · rcases List.mem_append.mp z with z | z
      · exact f5 p (List.mem_append_right _ z)
      · rw [List.mem_singleton.mp z]
        exact Nat.succ_ne_self _
  obtain ⟨f0, f1, f2, f3, f4, f5⟩ := fitS
  have I1 : Inv X ((pins ++ [(f, fo)]) ++ [(s.heap.objs.size + 1, lstObj #[] 0)]) σ H { s with heap := h' } := J1.turned (t' := s.toks) (fun b o hb e => (sb.2 b hb).trans e) f0 f1 f3 f4 f5
  obtain ⟨oi, hoi, cli, dti⟩ := id st'
  have I2 := I1.pins_of (pins' := ((pins ++ [(f, fo)]) ++ [(s.heap.objs.size + 1, lstObj #[] 0)]) ++ [(s.heap.objs.size, oi)]) fun p hp' => by
    rcases List.mem_append.mp hp' with z | z
    · exact I1.pin p (List.mem_append_right _ z)
    · rw [List.mem_singleton.mp z]
      exact ⟨hoi, f0, f1, f2, fun v z => by rw [dti] at z; cases z⟩
  show wpAny _ A.in1 (tryCatch (holding [u] (call (.ref f) [u])) _ >>= _) _ _ _
  have hf1 := (I1.pin (f, fo) (List.mem_append_right _ (List.mem_append_left _ (List.mem_append_right _ (List.mem_singleton.mpr rfl))))).1
  refine wpAny_bind (wpAny_tryCatch (wpAny_holding (thn (act _ _ H x u _ _ I2 hf1 hG ru tx) fun z s2 hz => ?_)))
  obtain ⟨y, H2, I3, rz, n, rfl, hw⟩ := hz
  obtain ⟨t2, rfl⟩ := rz
  have hit := I3.pin (s.heap.objs.size, oi) (List.mem_append_right _ (List.mem_append_right _ (List.mem_singleton.mpr rfl)))
  have st2 : s2.heap.IsListIter s.heap.objs.size l 1 := ⟨oi, hit.1, cli, dti⟩
  have I4 : Inv X ((pins ++ [(f, fo)]) ++ [(s.heap.objs.size + 1, lstObj #[] 0)]) σ H2 s2 := Inv.unpinned I3
  have hS2 := atS I3
  show wpAny _ A.in1 (updateSeq (s.heap.objs.size + 1) (fun _ => #[u, .int n t2]) >>= _) _ _ _
  refine wpAny_bind (wpAny_updateSeq hS2 rfl ?_)
  rw [nm]
  obtain ⟨c2, hc2⟩ : ∃ c2, (s2.heap.update (s.heap.objs.size + 1) (Obj.mapSeq fun _ => #[u, .int n t2])).get? (s.heap.objs.size + 1) = some (lstObj #[u, .int n t2] c2) := ⟨_, PyProof.Rows.get?_update_seq hS2 fun _ => #[u, .int n t2]⟩
  have ko : ∀ b o, b ≠ s.heap.objs.size + 1 → s2.heap.get? b = some o → (s2.heap.update (s.heap.objs.size + 1) (Obj.mapSeq fun _ => #[u, .int n t2])).get? b = some o := fun b o hb e => (Heap.get?_update_other _ _ (Ne.symm hb)).trans e
  refine wpAny_pure ⟨plainId_quiet F.plain_min_loop _, min_turns (gp := pins ++ [(f, fo)]) (f := f) (fo := fo) (W := W) (xs := xs) hh act (List.mem_append_right _ (List.mem_singleton.mpr rfl)) fit (Nat.succ_ne_self _) hSlow hSp wq step (fun b vb k H s' w J r => fin b vb k H s' w (Inv.unpinned J) r) (xs.length - 1) 1 x n _ rfl ?_ ⟨H2, u, t2, c2, pin_push (t' := s2.toks) I4 hSlow hSp ko hc2, st2.at fun o e => ko _ o (Ne.symm (Nat.succ_ne_self _)) e, hit.2.1, ru, hw⟩⟩
  have h9 := (List.getElem?_eq_some_iff.mp hx).1
  omega
end LM

set_option Elab.async false
set_option linter.all false
set_option maxRecDepth 100000
set_option maxHeartbeats 4000000
namespace LM
open PySem PySem.Spec PyProof.Rows L2 LamX Evl DL GX
theorem sql_extN {K : PySem.W.Frag} {H H' : Hp} {a : Addr} {xs : List V} (e : ExtN H H') (h : SqL K H a xs) : SqL K H' a xs := by
  rcases h with (h | ⟨o, h⟩) | h
  · exact .inl (.inl (e _ _ h fun ps z => by cases z))
  · exact .inl (.inr ⟨o, e _ _ h fun ps z => by cases z⟩)
  · exact .inr h
theorem sqt_extN {K : PySem.W.Frag} {H H' : Hp} {a : Addr} {xs : List V} (e : ExtN H H') (h : SqT K H a xs) : SqT K H' a xs := by
  rcases h with (h | ⟨o, h⟩) | h
  · exact .inl (.inl (e _ _ h fun ps z => by cases z))
  · exact .inl (.inr ⟨o, e _ _ h fun ps z => by cases z⟩)
  · exact .inr h
theorem frames_in1 {A : Around} {l : List Env} (h : A.frames = some l) : A.in1.frames = some l := h
/-- max(e, key=lambda p: body): W by the turn, the best so far and its key -/
def rMaxL (K : PySem.W.Frag) (T : List (Addr × Pos × Str)) (tb : TE) (j : Nat) (σ : L2.St) (Q : VK) : List V → Hp → Prop := fun vs H1 => ∃ (l : Addr) (xs : List V), vs = [.ref l] ∧ SqL K H1 l xs ∧ Tbs T H1 ∧ ∀ H2, ExtN H1 H2 → Tbs T H2 → ∃ W : Nat → V → Int → Hp → Prop,
  (∀ i b k H, W i b k H → ExtN H2 H) ∧ (∃ x, xs[0]? = some x ∧ tb (σ.set j (some x)) H2 fun y H' => ∃ n : Int, y = .int n ∧ W 1 x n H') ∧
  (∀ i x b k H, W i b k H → xs[i]? = some x → tb (σ.set j (some x)) H fun y H' => ∃ n : Int, y = .int n ∧ (k < n → W (i + 1) x n H') ∧ (¬ k < n → W (i + 1) b k H')) ∧ ∀ b k H, W xs.length b k H → Q b H
def tMaxL (K : PySem.W.Frag) (T : List (Addr × Pos × Str)) (te tb : TE) (j : Nat) : TE := fun σ H Q => te σ H fun v H1 => rMaxL K T tb j σ Q [v] H1
section
variable {X : Cx}
theorem pe_maxL {T : List (Addr × Pos × Str)} {c P : Addr} {q par : Str} {k j : Nat} {params : Arguments} {body : Expr} {scope : Scope} {te tb : TE} {e : Expr} {p lpos kpos pos : Pos} (hr : Room (k + 2) X.A) (hg : Gl X "max") (hm : X.mg "max" = none) (hcm : X.calm = true) (hN : X.N.Nodup) (TB : TabB X.base X.mg c P) (hcode : X.env.code = .ref c) (hq : X.env.qual ++ "<lambda>" = q)
    (hmT : (P, lpos, q) ∈ T) (hu : ∀ t ∈ T, t.1 = P → t = (P, lpos, q)) (L : Lam1 X.N X.env.scope scope par j) (hdef : defaultsOf params X.env = ([], [])) (hbind : ∀ (cl : List (Str × Addr)) (pm cv ctv u : Value), bindArgs (PySem.W.kla_fn "<lambda>" q params body scope cl pm cv ctv) ⟨[u], []⟩ = pure [(par, u)])
    (he : PE X e te) (hbody : ∀ (A : Around) (s : Shared) (H : Hp) (f c' : Addr), Room k (A.deeper (lamEnv X scope s.heap.objs.size f c')) → PE (lamC X A s H scope f c') body tb)
    (hs1 : starEach [e] X.env = (false, eval e X.env) :: starEach [] X.env := by rfl) (hst : backTo pos (starEach [e] X.env) = (false, eval e X.env) :: backTo pos (starEach [] X.env) := by rfl) (hpl : (backTo pos (starEach [e] X.env)).any (·.1) = false := by rfl) :
    PE X (.Call (.Name "max" p) [e] [⟨some "key", .Lambda params body scope lpos, kpos⟩] pos) (tMaxL X.K T te tb j) := by
  refine ⟨fun pins s σ H Q I h => ?_⟩
  refine wpAny_Call_Name_kw (ld_blt I hg hm (by decide +kernel : bootBuiltins "max" = some (.builtin "max")) ?_)
  refine PyProof.Rows.callWith_kw (thn ((pa_cons he pa_nil hs1).run pos pins s σ H (rMaxL X.K T tb j σ Q) I h) fun us s1 hx => ?_) hst hpl rfl rfl
  obtain ⟨vs, H1, I1, r1, l, xs, rfl, hsq, hT, cont⟩ := hx
  obtain rfl := Vals.ref1 r1
  show wpAny _ _ (evalAll [(do let v ← eval (.Lambda params body scope lpos) X.env; standAt pos; pure v)]) _ _ s1
  refine wpAny_evalAll_cons (wpAny_bind (lam_make I1 TB hcode hq hmT hu hT hdef (L.caps I1.ok) fun f c' pm ctv H2 s2 I2 eN T2 hf hsz hfn hco => wpAny_bind (wpAny_standAt (wpAny_pure (wpAny_evalAll_nil ?_)))))
  obtain ⟨W, hE, hfirst, hstep, hend⟩ := cont H2 eN T2
  show wpAny _ _ (call (.builtin "max") [.ref l] [(Str.ofString "key", .ref f)]) _ _ _
  refine max_key (G := fun H => H c' = some (CodeO c' q)) (TB := fun v H Q => tb (σ.set j (some v)) H Q) (W := W) (xs := xs) (I2.ok.hd hcm) I2 ?_ hf (I1.fpOk hsz hfn) (fun v z => nomatch z) (sql_extN eN hsq) hco ?_ hfirst hstep ?_
  · intro pins' s' H' v u Q' E' I' hf' hG rv ht
    exact lam_call (k := k) I' L hN (frames_in1 I'.ok.frames) hr.in1 rv hq hf' hG (hbind _ _ _ _ _) (fun hr' => hbody _ _ _ _ _ hr') ht
  · exact fun i b k H w => ⟨sql_extN (hE _ _ _ _ w) (sql_extN eN hsq), hE _ _ _ _ w _ _ hco codeO_ne⟩
  · exact fun b vb k H s' w J r => ⟨b, H, J, r, hend b k H w⟩
end
/-- min(e, key=lambda p: body): W by the turn, the best so far and its key -/
def rMinL (K : PySem.W.Frag) (T : List (Addr × Pos × Str)) (tb : TE) (j : Nat) (σ : L2.St) (Q : VK) : List V → Hp → Prop := fun vs H1 => ∃ (l : Addr) (xs : List V), vs = [.ref l] ∧ SqL K H1 l xs ∧ Tbs T H1 ∧ ∀ H2, ExtN H1 H2 → Tbs T H2 → ∃ W : Nat → V → Int → Hp → Prop,
  (∀ i b k H, W i b k H → ExtN H2 H) ∧ (∃ x, xs[0]? = some x ∧ tb (σ.set j (some x)) H2 fun y H' => ∃ n : Int, y = .int n ∧ W 1 x n H') ∧
  (∀ i x b k H, W i b k H → xs[i]? = some x → tb (σ.set j (some x)) H fun y H' => ∃ n : Int, y = .int n ∧ (n < k → W (i + 1) x n H') ∧ (¬ n < k → W (i + 1) b k H')) ∧ ∀ b k H, W xs.length b k H → Q b H
def tMinL (K : PySem.W.Frag) (T : List (Addr × Pos × Str)) (te tb : TE) (j : Nat) : TE := fun σ H Q => te σ H fun v H1 => rMinL K T tb j σ Q [v] H1
section
variable {X : Cx}
theorem pe_minL {T : List (Addr × Pos × Str)} {c P : Addr} {q par : Str} {k j : Nat} {params : Arguments} {body : Expr} {scope : Scope} {te tb : TE} {e : Expr} {p lpos kpos pos : Pos} (hr : Room (k + 2) X.A) (hg : Gl X "min") (hm : X.mg "min" = none) (hcm : X.calm = true) (hN : X.N.Nodup) (TB : TabB X.base X.mg c P) (hcode : X.env.code = .ref c) (hq : X.env.qual ++ "<lambda>" = q)
    (hmT : (P, lpos, q) ∈ T) (hu : ∀ t ∈ T, t.1 = P → t = (P, lpos, q)) (L : Lam1 X.N X.env.scope scope par j) (hdef : defaultsOf params X.env = ([], [])) (hbind : ∀ (cl : List (Str × Addr)) (pm cv ctv u : Value), bindArgs (PySem.W.kla_fn "<lambda>" q params body scope cl pm cv ctv) ⟨[u], []⟩ = pure [(par, u)])
    (he : PE X e te) (hbody : ∀ (A : Around) (s : Shared) (H : Hp) (f c' : Addr), Room k (A.deeper (lamEnv X scope s.heap.objs.size f c')) → PE (lamC X A s H scope f c') body tb)
    (hs1 : starEach [e] X.env = (false, eval e X.env) :: starEach [] X.env := by rfl) (hst : backTo pos (starEach [e] X.env) = (false, eval e X.env) :: backTo pos (starEach [] X.env) := by rfl) (hpl : (backTo pos (starEach [e] X.env)).any (·.1) = false := by rfl) :
    PE X (.Call (.Name "min" p) [e] [⟨some "key", .Lambda params body scope lpos, kpos⟩] pos) (tMinL X.K T te tb j) := by
  refine ⟨fun pins s σ H Q I h => ?_⟩
  refine wpAny_Call_Name_kw (ld_blt I hg hm (by decide +kernel : bootBuiltins "min" = some (.builtin "min")) ?_)
  refine PyProof.Rows.callWith_kw (thn ((pa_cons he pa_nil hs1).run pos pins s σ H (rMinL X.K T tb j σ Q) I h) fun us s1 hx => ?_) hst hpl rfl rfl
  obtain ⟨vs, H1, I1, r1, l, xs, rfl, hsq, hT, cont⟩ := hx
  obtain rfl := Vals.ref1 r1
  show wpAny _ _ (evalAll [(do let v ← eval (.Lambda params body scope lpos) X.env; standAt pos; pure v)]) _ _ s1
  refine wpAny_evalAll_cons (wpAny_bind (lam_make I1 TB hcode hq hmT hu hT hdef (L.caps I1.ok) fun f c' pm ctv H2 s2 I2 eN T2 hf hsz hfn hco => wpAny_bind (wpAny_standAt (wpAny_pure (wpAny_evalAll_nil ?_)))))
  obtain ⟨W, hE, hfirst, hstep, hend⟩ := cont H2 eN T2
  show wpAny _ _ (call (.builtin "min") [.ref l] [(Str.ofString "key", .ref f)]) _ _ _
  refine min_key (G := fun H => H c' = some (CodeO c' q)) (TB := fun v H Q => tb (σ.set j (some v)) H Q) (W := W) (xs := xs) (I2.ok.hd hcm) I2 ?_ hf (I1.fpOk hsz hfn) (fun v z => nomatch z) (sql_extN eN hsq) hco ?_ hfirst hstep ?_
  · intro pins' s' H' v u Q' E' I' hf' hG rv ht
    exact lam_call (k := k) I' L hN (frames_in1 I'.ok.frames) hr.in1 rv hq hf' hG (hbind _ _ _ _ _) (fun hr' => hbody _ _ _ _ _ hr') ht
  · exact fun i b k H w => ⟨sql_extN (hE _ _ _ _ w) (sql_extN eN hsq), hE _ _ _ _ w _ _ hco codeO_ne⟩
  · exact fun b vb k H s' w J r => ⟨b, H, J, r, hend b k H w⟩
end
end LM

set_option Elab.async false
set_option linter.all false
set_option maxRecDepth 100000
set_option maxHeartbeats 4000000
/-! Things of any kind, and what is asked of them. -/
namespace YA
open PySem PySem.Spec PyProof.Rows L2 Evl DL GX

inductive Od where
  | lst | dct
inductive Th where
  | none | bool (b : Bool) | int (i : Int) | str (s : Str) | tup (ts : List Th) | odd (o : Od)
def Th.ty : Th → String
  | .none => "NoneType"
  | .bool _ => "bool"
  | .int _ => "int"
  | .str _ => "str"
  | .tup _ => "tuple"
  | .odd .lst => "list"
  | .odd .dct => "dict"
mutual
/-- the value bears the thing; odd ones are lists and dicts -/
inductive Rp (K : PySem.W.Frag) (H : Hp) : V → Th → Prop
  | non : Rp K H .non .none
  | bl (b : Bool) : Rp K H (.bl b) (.bool b)
  | int (i : Int) : Rp K H (.int i) (.int i)
  | str (x : Str) : Rp K H (.str x) (.str x)
  | tup {a : Addr} {xs : List V} {ts : List Th} : SqT K H a xs → RpAll K H xs ts → Rp K H (.ref a) (.tup ts)
  | lst {a : Addr} {xs : List V} : SqL K H a xs → Rp K H (.ref a) (.odd .lst)
  | dct {a : Addr} {kvs : List (Key × V)} : H a = some (.dK kvs) → Rp K H (.ref a) (.odd .dct)
  | dctT {a : Addr} {kvs : List (List Key × V)} : H a = some (.dT kvs) → Rp K H (.ref a) (.odd .dct)
inductive RpAll (K : PySem.W.Frag) (H : Hp) : List V → List Th → Prop
  | nil : RpAll K H [] []
  | cons {v : V} {vs : List V} {t : Th} {ts : List Th} : Rp K H v t → RpAll K H vs ts → RpAll K H (v :: vs) (t :: ts)
end
mutual
theorem rp_mono {K : PySem.W.Frag} {H H' : Hp} (e : Ex H H') : ∀ {t : Th} {v : V}, Rp K H v t → Rp K H' v t
  | .none, _, h => by cases h; exact .non
  | .bool b, _, h => by cases h; exact .bl b
  | .int i, _, h => by cases h; exact .int i
  | .str x, _, h => by cases h; exact .str x
  | .tup ts, _, h => by
    cases h with
    | tup hs ha => exact .tup (ex_t e hs) (ra_mono e ha)
  | .odd T, _, h => by
    cases h with
    | lst hs => exact .lst (ex_l e hs)
    | dct hs => exact .dct (e _ _ hs)
    | dctT hs => exact .dctT (e _ _ hs)
theorem ra_mono {K : PySem.W.Frag} {H H' : Hp} (e : Ex H H') : ∀ {ts : List Th} {vs : List V}, RpAll K H vs ts → RpAll K H' vs ts
  | [], _, h => by cases h; exact .nil
  | t :: ts, _, h => by
    cases h with
    | cons h1 h2 => exact .cons (rp_mono e h1) (ra_mono e h2)
end
section
variable {K : PySem.W.Frag} {H H' : Hp}
theorem rp_int {v : V} {i : Int} (h : Rp K H v (.int i)) : v = .int i := by cases h; rfl
theorem rp_tup {v : V} {ts : List Th} (h : Rp K H v (.tup ts)) : ∃ a xs, v = .ref a ∧ SqT K H a xs ∧ RpAll K H xs ts := by
  cases h with
  | tup hs ha => exact ⟨_, _, rfl, hs, ha⟩
theorem ra_len : ∀ {ts : List Th} {vs : List V}, RpAll K H vs ts → vs.length = ts.length
  | [], _, h => by cases h; rfl
  | t :: ts, _, h => by
    cases h with
    | cons h1 h2 => rw [List.length_cons, List.length_cons, ra_len h2]
theorem ra_get : ∀ {ts : List Th} {vs : List V} {i : Nat} {v : V}, RpAll K H vs ts → vs[i]? = some v → ∃ t, ts[i]? = some t ∧ Rp K H v t
  | [], _, i, v, h, e => by cases h; simp at e
  | t :: ts, _, i, v, h, e => by
    cases h with
    | cons h1 h2 =>
      cases i with
      | zero => simp at e; subst e; exact ⟨t, rfl, h1⟩
      | succ i => simp at e; simpa using ra_get h2 e
theorem ra_at : ∀ {ts : List Th} {vs : List V} {i : Nat} {t : Th}, RpAll K H vs ts → ts[i]? = some t → ∃ v, vs[i]? = some v ∧ Rp K H v t
  | [], _, i, t, h, e => by simp at e
  | t :: ts, _, i, t', h, e => by
    cases h with
    | cons h1 h2 =>
      cases i with
      | zero => simp at e; subst e; exact ⟨_, rfl, h1⟩
      | succ i => simp at e; simpa using ra_at h2 e
/-- its type, as isinstance sees it -/
theorem rp_ty {v : V} {t : Th} (h : Rp K H v t) : TyX K H v (.type t.ty) ∧ t.ty ∈ ["NoneType", "bool", "int", "str", "tuple", "list", "dict"] := by
  cases h with
  | non => exact ⟨.base .non, by decide⟩
  | bl b => exact ⟨.base (.bl b), by simp [Th.ty]⟩
  | int i => exact ⟨.base (.int i), by simp [Th.ty]⟩
  | str x => exact ⟨.base (.str x), by simp [Th.ty]⟩
  | tup hs _ =>
    refine ⟨?_, by simp [Th.ty]⟩
    rcases hs with (h | ⟨o, h⟩) | ⟨o, its, n, hk, hc, _⟩
    · exact .base (.tup h)
    · exact .fTuple h
    · exact .kTuple hk hc
  | lst hs =>
    refine ⟨?_, by simp [Th.ty]⟩
    rcases hs with (h | ⟨o, h⟩) | ⟨o, its, n, hk, hc, _⟩
    · exact .base (.lst h)
    · exact .base (.frz h)
    · exact .kList hk hc
  | dct h => exact ⟨.base (.dK h), by decide⟩
  | dctT h => exact ⟨.base (.dT h), by decide⟩
end
def isIn (t : Th) (C : String) : Bool := t.ty == C || (t.ty == "bool" && C == "int")
theorem kit_in {T C : String} (hT : T ∈ ["NoneType", "bool", "int", "str", "tuple", "list", "dict"]) (hC : C ∈ ["int", "bool", "str", "tuple"]) : kitB T C = some (T == C || (T == "bool" && C == "int")) := by
  have all : (["NoneType", "bool", "int", "str", "tuple", "list", "dict"].all fun T => ["int", "bool", "str", "tuple"].all fun C => kitB T C == some (T == C || (T == "bool" && C == "int"))) = true := by decide +kernel
  have h1 := List.all_eq_true.mp (List.all_eq_true.mp all T hT) C hC
  exact beq_iff_eq.mp h1
section
variable {K : PySem.W.Frag} {σ : L2.St} {H : Hp} {te ta tb tc : TE} {v : V} {t : Th}
/-- isinstance(x, C) -/
theorem ev_isi {C : String} (h : Ev te σ H v) (hr : Rp K H v t) (hC : C ∈ ["int", "bool", "str", "tuple"]) : Ev (tCB (rIsi K) (tCons te (tCons (tC (.ty C)) tNil))) σ H (.bl (isIn t C)) := fun H1 e Q q =>
  h H1 e _ fun H2 e2 => by
    obtain ⟨h1, h2⟩ := rp_ty (rp_mono (e.trans e2) hr)
    exact ⟨v, .ty C, .type t.ty, .type C, isIn t C, rfl, .ty _, h1, kit_ty (kit_in h2 hC), q H2 e2⟩
/-- len(x) of a tuple -/
theorem ev_lenR {ts : List Th} (h : Ev te σ H v) (hr : Rp K H v (.tup ts)) : Ev (tCB (rLenS K) (tCons te tNil)) σ H (.int (ts.length : Int)) := fun H1 e Q q =>
  h H1 e _ fun H2 e2 => by
    obtain ⟨a, xs, rfl, hs, ha⟩ := rp_tup (rp_mono (e.trans e2) hr)
    exact ⟨a, xs, rfl, .inr hs, by rw [ra_len ha]; exact q H2 e2⟩
/-- a <= x <= b -/
theorem ev_chain {r r' : R2} {x y z : V} {a b : Bool} (ha : Ev ta σ H x) (hb : Ev tb σ H y) (hc : Ev tc σ H z) (h1 : RV r x y H (.bl a)) (h2 : RV r' y z H (.bl b)) : Ev (tChain r r' ta tb tc) σ H (.bl (a && b)) := fun H1 e Q q =>
  ha H1 e _ fun H2 e2 => hb H2 (e.trans e2) _ fun H3 e3 => h1 H3 ((e.trans e2).trans e3) _ fun H4 e4 => ⟨a, rfl, by
    cases a with
    | true =>
      show tc σ H4 _
      exact hc H4 (((e.trans e2).trans e3).trans e4) _ fun H5 e5 => h2 H5 ((((e.trans e2).trans e3).trans e4).trans e5) Q fun H6 e6 => q H6 ((((e2.trans e3).trans e4).trans e5).trans e6)
    | false =>
      show Q (.bl false) H4
      exact q H4 ((e2.trans e3).trans e4)⟩
end
/-! ### walks told by any relation -/
def WkR {α : Type} (S : Hp → V → α → Prop) (J : It) (H : Hp) (as : List α) : Prop := ∃ (G : Hp → Prop) (Y : Nat → Hp → V → Hp → Prop), Walk J as.length G Y ∧ (∀ H1, Ex H H1 → G H1) ∧
  ∀ i H1 x H2, Ex H H1 → Y i H1 x H2 → Ex H1 H2 ∧ ∃ d, as[i]? = some d ∧ S H2 x d
def EvWR {α : Type} (S : Hp → V → α → Prop) (wi : TI) (σ : L2.St) (H : Hp) (as : List α) : Prop := ∀ H1, Ex H H1 → ∀ R : It → Hp → Prop, (∀ J H2, Ex H1 H2 → WkR S J H2 as → R J H2) → wi σ H1 R
section
variable {K : PySem.W.Frag} {σ : L2.St} {H : Hp} {te tl : TE} {v : V}
theorem ewr_tup {ts : List Th} (h : Ev tl σ H v) (hr : Rp K H v (.tup ts)) : EvWR (Rp K) (iTup K tl) σ H ts := fun H1 e R q => h H1 e _ fun H2 e2 => by
  obtain ⟨a, xs, rfl, hs, ha⟩ := rp_tup (rp_mono (e.trans e2) hr)
  refine ⟨a, rfl, ⟨xs, hs⟩, q _ H2 e2 ⟨fun H3 => SqT K H3 a xs, YAt xs, by rw [← ra_len ha]; exact walk_tup (xs := xs), fun H3 e3 => ex_t e3 hs, fun i H3 x H4 e3 y => ?_⟩⟩
  obtain ⟨rfl, hx⟩ := y
  exact ⟨Ex.refl _, ra_get (ra_mono e3 ha) hx⟩
/-- the pair (i, x) -/
def PairR (K : PySem.W.Frag) (H : Hp) (x : V) (p : Nat × Th) : Prop := ∃ a u, x = .ref a ∧ SqT K H a [.int (p.1 : Int), u] ∧ Rp K H u p.2
def nums (ts : List Th) : List (Nat × Th) := (List.range ts.length).zip ts
theorem nums_len (ts : List Th) : (nums ts).length = ts.length := by
  unfold nums
  rw [List.length_zip, List.length_range, Nat.min_self]
theorem nums_at {ts : List Th} {i : Nat} {t : Th} (h : ts[i]? = some t) : (nums ts)[i]? = some (i, t) := by
  have hi : i < ts.length := (List.getElem?_eq_some_iff.mp h).1
  unfold nums
  exact List.getElem?_zip_eq_some.mpr ⟨List.getElem?_range hi, h⟩
theorem ewr_enum {ts : List Th} (h : Ev tl σ H v) (hr : Rp K H v (.tup ts)) : EvWR (PairR K) (iEnumT K (tCons tl tNil)) σ H (nums ts) := fun H1 e R q => h H1 e _ fun H2 e2 => by
  obtain ⟨a, xs, rfl, hs, ha⟩ := rp_tup (rp_mono (e.trans e2) hr)
  refine ⟨a, xs, rfl, hs, q _ H2 e2 ⟨fun H3 => SqT K H3 a xs, fun i H3 y H4 => ∃ T x, y = .ref T ∧ H3 T = none ∧ H4 = upd H3 T (.tup [.int (i : Nat), x]) ∧ xs[i]? = some x, ?_, fun H3 e3 => ex_t e3 hs, fun i H3 x H4 e3 y => ?_⟩⟩
  · rw [nums_len, ← ra_len ha]
    refine ⟨fun i H3 hi g => ⟨xs, xs[i], g, by simp [hi]⟩, fun H3 g => ⟨xs, g, Nat.le_refl _⟩, fun i H3 y H4 hi g yy => ?_⟩
    obtain ⟨T, x, h1, h2, h3, h4⟩ := yy
    exact ⟨T, x, h1, h2, h3, h4 xs g⟩
  · obtain ⟨T, u, rfl, hT, rfl, hu⟩ := y
    obtain ⟨t, ht, hrt⟩ := ra_get (ra_mono e3 ha) hu
    exact ⟨Ex.new hT, (i, t), nums_at ht, T, u, rfl, st_of upd_same, rp_mono (Ex.new hT) hrt⟩
theorem ewr_rng {ta : TA} {n : Int} (h : EvA ta σ H [.int n]) (hn : -(2 ^ 62) ≤ n ∧ n < 2 ^ 62) : EvWR (fun _ x (i : Nat) => x = .int (i : Int)) (iRng1 ta) σ H (List.range n.toNat) := fun H1 e R q => h H1 e _ fun H2 e2 => by
  refine ⟨n, rfl, hn.1, hn.2, q _ H2 e2 ⟨fun _ => True, fun i H x H' => H' = H ∧ x = .int ((0 : Int) + (i : Nat)) ∧ i < n.toNat, ?_, fun H3 _ => trivial, fun i H3 x H4 e3 y => ?_⟩⟩
  · rw [List.length_range]
    exact ⟨fun _ _ hi _ => hi, fun _ _ => Nat.le_refl _, fun _ _ _ _ hi _ y => ⟨y.1, y.2, hi⟩⟩
  · obtain ⟨rfl, rfl, hi⟩ := y
    exact ⟨Ex.refl _, i, List.getElem?_range hi, by rw [Int.zero_add]⟩
variable {wi : TI} {g : TG}
/-- all(..): by the relation -/
theorem ev_all {α : Type} {S : Hp → V → α → Prop} {P : Addr} {vs : List Nat} {as : List α} (f : α → Bool) (hw : EvWR S wi σ H as) (hP : H P = some (TabE P))
    (hs : ∀ (i : Nat) (d : α) (x : V) (H1 : Hp), Ex H H1 → as[i]? = some d → S H1 x d → ∃ σ2, TgD g x (wipe σ vs) H1 σ2 ∧ wipe σ2 vs = wipe σ vs ∧ Ev te σ2 H1 (.bl (f d))) :
    Ev (tQuant true P wi g te vs) σ H (.bl (as.all f)) := fun H0 e0 Q q => hw H0 e0 _ fun J H1 e1 wk => by
  obtain ⟨G, Y, wlk, hG, hY⟩ := wk
  refine ⟨(e0.trans e1) _ _ hP, as.length, fun i H' => Ex H1 H' ∧ i ≤ as.length ∧ (as.take i).all f = true, ⟨Ex.refl H1, Nat.zero_le _, rfl⟩, fun i H' hW => ?_⟩
  obtain ⟨ex, hi, hall⟩ := hW
  by_cases hlt : i < as.length
  · refine .inr ⟨wlk.goes i H' hlt (hG H' ex), hlt, fun x H2 hy => ?_⟩
    obtain ⟨ey, d, hd, hdp⟩ := hY i H' x H2 ex (wlk.yields i H' x H2 hlt (hG H' ex) hy)
    obtain ⟨σ2, tg, hwp, hev⟩ := hs i d x H2 ((e0.trans e1).trans (ex.trans ey)) hd hdp
    refine tg H2 (Ex.refl H2) _ ⟨hwp, hev H2 (Ex.refl H2) _ fun H3 e3 => ⟨f d, rfl, ?_⟩⟩
    by_cases hf : f d = true
    · rw [if_pos hf]
      refine ⟨(ex.trans ey).trans e3, hlt, ?_⟩
      rw [List.take_add_one, hd, List.all_append, hall]
      simp [hf]
    · rw [if_neg hf]
      have hff : f d = false := by simpa using hf
      have hz : as.all f = false := by
        rw [List.all_eq_false]
        exact ⟨d, List.mem_of_getElem? hd, hf⟩
      have hq := q H3 (e1.trans ((ex.trans ey).trans e3))
      rw [hz] at hq
      rw [hff]
      exact hq
  · have hin : i = as.length := by omega
    subst hin
    refine .inl ⟨wlk.stops H' (hG H' ex), ?_⟩
    rw [List.take_of_length_le (Nat.le_refl _)] at hall
    have hq := q H' (e1.trans ex)
    rw [hall] at hq
    exact hq
end
end YA

set_option Elab.async false
set_option linter.all false
set_option maxRecDepth 100000
set_option maxHeartbeats 4000000
/-! Caught exceptions as tracked objects: they may be kept, handed on, asked for their class. -/
namespace EX
open PySem PySem.Spec PyProof.Rows L2 Evl DL GX YA

/-- an exception's object at a: its class, its dict -/
def ExG (cls : Value) (d : Option Addr) (a : Addr) : HO := .ext fun h => ∃ (o : Obj) (r : Array Value), h.get? a = some o ∧ Zc cls d o ∧ o.data = .fields r
theorem exG_ok {P : Program} {w : World} {H : Hp} {h : Heap} {a : Addr} {cls : Value} {d : Option Addr} {o : Obj} {r : Array Value} (e : h.get? a = some o) (z : Zc cls d o) (q : o.data = .fields r) : ObjOk P w H h a (ExG cls d a) :=
  ⟨⟨o, r, e, z, q⟩, ⟨o, e⟩, fun _ _ ⟨o', r', e', z'⟩ k => ⟨o', r', k o' e', z'⟩⟩
section
variable {X : Cx} {pins : List (Addr × Obj)} {σ : L2.St} {H : Hp} {sI s' : Shared} {B : Heap}
/-- back on the ground, the exception's object tracked -/
theorem grounded {a : Addr} {cls : Value} {d : Option Addr} {o : Obj} {r : Array Value} {h : Heap} (J : Inv X pins σ H sI) (inB : ∀ b u, sI.heap.get? b = some u → b ∉ frs X.stack → B.get? b = some u) (stay : B.StaysIn h) (slots : sI.heap.UpToSlots h)
    (hos : s'.os = sI.os) (hag : AllBare s'.gens) (nB : B.get? a = none) (nfr : a ∉ frs X.stack) (he : h.get? a = some o) (hz : Zc cls d o) (hd : o.data = .fields r) (na : H a = none) :
    Inv X pins σ (upd H a (ExG cls d a)) { s' with heap := h } := by
  have nI : sI.heap.get? a = none := by
    cases q : sI.heap.get? a with
    | none => rfl
    | some u =>
      have := inB a u q nfr
      rw [nB] at this
      cases this
  obtain ⟨G, g1, g2⟩ := restrict h fun b => decide (b ≠ a)
  have out : G.get? a = none := g2 a (by simp)
  have same : ∀ b, b ≠ a → G.get? b = h.get? b := fun b hb => g1 b (by simpa using hb)
  have J1 : Inv X pins σ H { s' with heap := G } := by
    refine J.landed (s' := { s' with heap := G }) inB (fun b u q => ?_) (fun b u q nf => ?_) hos hag
    · have hb : b ≠ a := fun z => by rw [z, nB] at q; cases q
      exact (same b hb).trans (stay b u q)
    · have hb : b ≠ a := fun z => by rw [z, nI] at q; cases q
      obtain ⟨sl, e⟩ := slots b u q nf
      exact ⟨sl, (same b hb).trans e⟩
  have J2 := J1.laidN (h' := h) (a := a) (o := ExG cls d a) (t' := s'.toks) (fun b u q => by
    have hb : b ≠ a := fun z => by
      have q' : G.get? b = some u := q
      rw [z, out] at q'
      cases q'
    exact (same b hb).symm.trans q) out na (exG_ok he hz hd)
  exact J2
/-- the suite's context bears the same pins -/
theorem in_suite {s : Shared} (I : Inv X pins σ H s) (a : Addr) : Inv (X.suite a (X.pn ++ pins)) [] σ H s :=
  ⟨I.ok.suite _ _, I.os, I.bare, I.base, I.loc, I.cell, I.free, I.freeC, fun p hp => I.pin p (by simpa using hp), I.hok, I.len⟩
theorem off_suite {s : Shared} {a : Addr} (I : Inv (X.suite a (X.pn ++ pins)) [] σ H s) (ok : X.Ok) : Inv X pins σ H s :=
  ⟨ok, I.os, I.bare, I.base, I.loc, I.cell, I.free, I.freeC, fun p hp => I.pin p (by simpa using hp), I.hok, I.len⟩
end
/-- what 'except x as n' wishes of the body's exceptions: each is caught, its object tracked; n is slot i -/
def wTr (K : PySem.W.Frag) (c : Value) (i : Nat) (ts : Addr → Value → Option Addr → TS) (D : Ends) : WX := fun cls d σ H =>
  PySem.W.exmOne K cls c = some true ∧ ∀ a, H a = none → ts a cls d ⟨fun σ' H' => D.nx (σ'.set i none) H', D.rt, fun σ' H' => D.bk (σ'.set i none) H', fun σ' H' => D.ct (σ'.set i none) H'⟩ (σ.set i (some (.ref a))) (upd H a (ExG cls d a))
section
variable {X : Cx} {x n : Str} {c : Value} {i : Nat} {body suite : List Stmt} {b₀ : Stmt} {np pos pos' : Pos} {tb : WX → TS} {ts : Addr → Value → Option Addr → TS}
theorem ps_try_tr (hs : X.stack = X.env :: X.outer) (hf : X.env.frame = some X.env.locals) (hN : X.N.Nodup) (hi : X.N[i]? = some n) (hln : X.env.kindOf n = some .local) (hc : Names X x c)
    (hbody : ∀ (W : WX) (pn : List (Addr × Obj)) (xe : Value → Shared → Prop), Takes (X.tr pn xe) W → PassesOwn (model X.prog X.w) X.A X.env xe → PSs (X.tr pn xe) body (tb W))
    (hsuite : ∀ (a : Addr) (cls : Value) (d : Option Addr) (pn : List (Addr × Obj)), PSs (X.suite a pn) (b₀ :: suite) (ts a cls d)) :
    PS X (.Try body [.ExceptHandler (some (.Name x np)) (some n) (b₀ :: suite) pos'] [] [] pos) (fun D σ H => tb (wTr X.K c i ts D) D σ H) := by
  refine ⟨fun pins s σ H D I h => wpAny_Try_except ?_⟩
  have ok := I.ok
  have frm : X.A.frames = some (X.env :: X.outer) := by rw [ok.frames, hs]
  -- whatever leaves the body is landed, and goes by the clause
  generalize hxe : (fun e s₁ => wpAny (model X.prog X.w) X.A (noteFrame e X.env) (fun _ s₂ => wpAny (model X.prog X.w) X.A (setFlight e none) (fun _ s₃ =>
    wpAny (model X.prog X.w) X.A (handleBy e X.env [.ExceptHandler (some (.Name x np)) (some n) (b₀ :: suite) pos']) (SP X pins D) X.xe s₃) X.xe s₂) X.xe s₁ : Value → Shared → Prop) = air
  have caught : Takes (X.tr (X.pn ++ pins) air) (wTr X.K c i ts D) := by
    intro u s' ⟨a, B, sI, pins', τ, H1, cls, d, eu, J', inB, up, sky, na, hos, hag, hm, hgo⟩
    subst eu
    have J : Inv X pins τ H1 sI := J'.ofTry ok
    rw [← hxe]
    have sky' : Sky B (X.env :: X.outer) a (Zc cls d) X.env.locals s'.heap := by rw [← hs]; exact sky
    show wpAny (model X.prog X.w) X.A (noteFrame (.ref a) X.env) _ _ _
    refine Sky.land Zc.steady frm hf sky' fun h3 fl3 up3 => ?_
    obtain ⟨o3, r3, he3, hz3, hd3⟩ := fl3.there
    have nfr : a ∉ frs (X.env :: X.outer) := fun hm => by
      obtain ⟨_, o', e', hnf⟩ := fl3.2.2.1.mem hm
      rw [he3] at e'
      cases e'
      exact hnf _ hd3
    have I3 : Inv X pins τ (upd H1 a (ExG cls d a)) { s' with heap := h3 } := grounded J inB fl3.1 (up.trans up3) hos hag fl3.2.1 (by rw [hs]; exact nfr) he3 hz3 hd3 na
    refine wpAny_handleBy_cons (codeAny_handlers_test ?_) (by intro q; cases q)
    have ltp : PySem.W.Looks (model X.prog X.w) h3 (typeOf (.ref a)) cls := fun A Q E s k q => wpAny_typeOf_ref (k _ _ he3) (by rw [hz3.1]; exact q)
    have lmt := PySem.W.exm_one (M := model X.prog X.w) I3.kIn ltp hm
    have named : ∀ {Q : Value → Shared → Prop} {E : Value → Shared → Prop}, Q c { s' with heap := h3 } → wpAny (model X.prog X.w) (X.A.mark (some (.ref a))) (eval (.Name x np) X.env) Q E { s' with heap := h3 } := fun {Q E} q => by
      have S3 := in_suite I3 a
      rcases hc with ⟨hg, hdb, hm | ⟨hm, hv, hnn⟩⟩
      · exact ld_glob (X := X.suite a (X.pn ++ pins)) S3 hg hm q hdb
      · exact ld_blt (X := X.suite a (X.pn ++ pins)) S3 hg hm hv q hnn hdb
    refine named (lmt.here (codeAny_handlers_suite_as (HandSPX.lands_againZ fl3 fun h4 fl4 up4 => ?_)))
    obtain ⟨o4, r4, he4, hz4, hd4⟩ := fl4.there
    have I4 : Inv X pins τ (upd H1 a (ExG cls d a)) { s' with heap := h4 } := grounded J inB fl4.1 ((up.trans up3).trans up4) hos hag fl4.2.1 (by rw [hs]; exact nfr) he4 hz4 hd4 na
    refine store_ok (X := X.suite a (X.pn ++ pins)) (v := .ref a) (in_suite I4 a) hN hi (.inl hln) rfl (fun s5 S5 => ?_) (.inr hln)
    refine wpAny_mono ((hsuite a cls d (X.pn ++ pins)).run [] s5 _ _ _ S5 (hgo a na)) (fun f s6 done => ?_) (fun _ _ z => False.elim z)
    have off : ∀ {σ6 : L2.St} {H6 : Hp} {Q : Shared → Prop}, Inv (X.suite a (X.pn ++ pins)) [] σ6 H6 s6 → (∀ s7, Inv X pins (σ6.set i none) H6 s7 → Q s7) →
        wpAny (model X.prog X.w) X.A (do bindName X.env n .none; unbindBehindTheSuite X.env n pos') (fun _ s7 => Q s7) X.xe s6 := fun {σ6 H6 Q} S6 hq => gone_ok (off_suite S6 ok) hN hi hln hq
    cases f with
    | next =>
      obtain ⟨_, _, S6, q6⟩ := done
      exact off S6 fun s7 J7 => ⟨_, _, J7, q6⟩
    | brk =>
      obtain ⟨_, _, S6, q6⟩ := done
      exact off S6 fun s7 J7 => ⟨_, _, J7, q6⟩
    | cont =>
      obtain ⟨_, _, S6, q6⟩ := done
      exact off S6 fun s7 J7 => ⟨_, _, J7, q6⟩
    | ret u =>
      obtain ⟨_, _, _, S6, r6, q6⟩ := done
      exact off S6 fun s7 J7 => ⟨_, _, _, J7, r6, q6⟩
  have own : PassesOwn (model X.prog X.w) X.A X.env air := by
    rw [← hxe]
    exact PassesOwn.looking
  refine wpAny_mono ((hbody _ _ air caught own).run [] s σ H D (I.toTry _) h) (fun f s1 done => ?_) (fun e s1 he => he)
  cases f with
  | next =>
    obtain ⟨_, _, J', q⟩ := done
    exact wpAny_execs_nil ⟨_, _, J'.ofTry ok, q⟩
  | brk =>
    obtain ⟨_, _, J', q⟩ := done
    exact ⟨_, _, J'.ofTry ok, q⟩
  | cont =>
    obtain ⟨_, _, J', q⟩ := done
    exact ⟨_, _, J'.ofTry ok, q⟩
  | ret u =>
    obtain ⟨_, _, _, J', r, q⟩ := done
    exact ⟨_, _, _, J'.ofTry ok, r, q⟩
end
/-! ### isinstance(e, C) -/
def rIsG (K : PySem.W.Frag) (D : Addr) : List V → Hp → VK → Prop := fun xs H Q => ∃ (a : Addr) (c : V) (cv : Value) (b : Bool), xs = [.ref a, c] ∧ H a = some (ExG (.ref D) none a) ∧ ClsV c cv ∧ PySem.W.kitOne K (.ref D) cv = some b ∧ Q (.bl b) H
theorem call_isG {X : Cx} {D : Addr} (C : ExcC X.K D) : CallR X (.builtin "isinstance") (rIsG X.K D) := by
  intro pins s σ H xs us Q I rel h
  obtain ⟨a, c, cv, b, rfl, ha, hcv, hk, q⟩ := h
  obtain ⟨u1, u2, rfl, r1, r2⟩ := vals2 rel
  cases (show u1 = Value.ref a from r1)
  have ec := hcv.eq r2
  subst ec
  obtain ⟨⟨o, r, hget, hz, hd⟩, _, _⟩ := I.hok a _ ha
  have inst : PySem.W.InstAt s.heap a o D none := by
    obtain ⟨oc, od, oda, osl⟩ := o
    obtain ⟨h1, h2⟩ := hz
    dsimp only at h1 h2 hd
    subst h1 h2 hd
    exact ⟨hget, rfl, rfl, trivial⟩
  exact PySem.W.kia_one (PySem.W.handS_kitx_exc C.hg C.hk C.hs C.hd C.ha C.hn C.ht C.hm) I.kIn inst hk (fun z => nomatch z) fun tk => ⟨.bl b, H, I.tok tk, rfl, q⟩
end EX

set_option Elab.async false
set_option linter.all false
set_option maxRecDepth 100000
set_option maxHeartbeats 4000000
/-! Defs that may be called while an exception is handled (they raise nothing themselves). -/
namespace EX
open PySem PySem.Spec PyProof.Rows L2 Evl DL GX YA

abbrev RoomW := L2H.RoomH
theorem RoomW.units {k : Nat} {A : Around} (r : RoomW k A) : A.units + 64 < cLine := by have := r.un; omega
theorem room_mark {j k : Nat} {A : Around} {h : Option Value} (r : Room k A) (hj : j ≤ k) : RoomW j (A.mark h) :=
  ⟨by have := r.dp; show A.depth + 3 * j + 5 < _; omega, by have := r.un; show A.units + 16 * j + 200 < _; omega⟩
/-- as FnOk, where perhaps an exception is handled -/
structure FnW (P : Program) (w : World) (K : PySem.W.Frag) (mg : Str → Option Value) (base : Heap) (k : Nat) (f : Addr) (fd : FuncData) (ps : List Str) (sp : Sp) : Prop where
  len : ∀ vs H Q E, sp vs H Q E → vs.length = ps.length
  go : ∀ (A : Around) (outer : List Env) (s : Shared) (H : Hp) (args : Args) (us : List Value) (vs : List V) (Q : VK) (E : XK), RoomW k A → Env0 P w K mg base A outer s H → BindsTo s fd args (ps.zip us) → Vals vs us → sp vs H Q E →
    codeAny (model P w) A (.call (.ref f) args) (CR CX0 outer P w H s Q E) s
theorem FnW.calm {P : Program} {w : World} {K : PySem.W.Frag} {mg : Str → Option Value} {base : Heap} {k : Nat} {f : Addr} {fd : FuncData} {ps : List Str} {sp : Sp} (F : FnW P w K mg base k f fd ps sp) : FnOk P w K mg base CX0 k f fd ps sp :=
  ⟨F.len, fun A outer s H args us vs Q E hr => F.go A outer s H args us vs Q E (L2H.roomH_of hr)⟩
/-- the body's context -/
abbrev cxW (P : Program) (w : World) (K : PySem.W.Frag) (mg : Str → Option Value) (base : Heap) (N : List Str) (qual : Str) (scope : Scope) (f : Addr) (cd : Value) (A : Around) (outer : List Env) (s : Shared) (H : Hp) : Cx :=
  { cxOf CX0 P w K mg base N qual scope f cd A outer s H E0 with calm := false, xe := fun _ _ => False }
theorem fn_ofW {P : Program} {w : World} {K : PySem.W.Frag} {mg : Str → Option Value} {base : Heap} {x qual : Str} {st : Stmt} {f : Addr} {fd : FuncData} {N ps : List Str} {k : Nat} {sp : Sp} (F : Fun K x qual st f fd) (S : FnScope N ps (defScope st)) (len : ∀ vs H Q E, sp vs H Q E → vs.length = ps.length)
    (hbody : ∀ (cdv : Value) (A : Around) (outer : List Env) (s : Shared) (H : Hp) (vs : List V) (Q : VK) (E : XK), RoomW k (A.deeper (envOfC qual (defScope st) s.heap.objs.size f cdv)) → sp vs H Q E →
      ∃ t, PSs (cxW P w K mg base N qual (defScope st) f cdv A outer s H) (defBody st) t ∧ t { nx := fun _ H' => Q .non H', rt := Q } (start N vs) H) : FnW P w K mg base (k + 1) f fd ps sp := by
  obtain ⟨oc, od, kV, doc, pm, an, cdv, ct, osl, rfl, lk, hcd⟩ := F.ex
  refine ⟨len, fun A outer s H args us vs Q E hr e0 hb rel hsp => ?_⟩
  have inH : K.In s.heap := e0.mod.kin.keeps fun b o e => (e0.bs b o e).1
  have slotted : ∀ y ∈ ps.zip us, (defScope st).names.lookup y.1 = some .local ∨ ((defScope st).names.lookup y.1 = some .cell ∧ ((cellsFrom (s.heap.objs.size + 1) (defScope st).names []).lookup y.1).isSome = true) := by
    rintro ⟨n, v⟩ hy
    exact (S.par n (List.of_mem_zip hy).1).imp id fun q => ⟨q, PySem.W.cellsFrom_some _ _ _ (.inl q)⟩
  refine codeAny_call_function hr.depth (inH _ _ lk) rfl S.co S.gen rfl (PySem.W.codeRec_of inH hcd) (hb _ _ _ _ (wpAny_newFunctionEnv_cells S.kind slotted fun env he s1 made => ?_))
  subst he
  refine ⟨(e0.mod.nolimit.keeps fun b o e => (e0.bs b o e).1).keeps made.toInCall.keep, codeAny_func ?_⟩
  obtain ⟨t, ht, hq⟩ := hbody cdv A outer s H vs Q E (hr.deeper _) hsp
  have J := inv_start (CX := CX0) (E := E0) (A := { A with handled := none }) (cd := cdv) (f := f) (qual := qual) S rfl ⟨e0.frames, e0.mod, e0.bs, e0.bsz, e0.funs, e0.frf, e0.hok, e0.bare⟩ (len _ _ _ _ hsp) rel made
  have okJ := J.ok
  have I : Inv (cxW P w K mg base N qual (defScope st) f cdv A outer s H) [] (start N vs) H s1 :=
    ⟨⟨okJ.mod, okJ.kind, okJ.glob, okJ.blt, okJ.above, okJ.inj, okJ.has, okJ.cab, (fun z => nomatch (show false = true from z)), Around.frames_deeper e0.frames, okJ.stk, okJ.exf, okJ.bs, okJ.bsz, okJ.noex, okJ.exfs, okJ.funs, okJ.frf⟩,
      J.os, J.bare, J.base, J.loc, J.cell, J.free, J.freeC, J.pin, J.hok, J.len⟩
  refine wpAny_mono (ht.run [] s1 (start N vs) H _ I hq) (fun fl s' out => ?_) fun e s' z => z.elim
  cases fl with
  | ret u =>
    obtain ⟨v, _, H', J', rv, q⟩ := out
    exact ⟨v, H', J'.os, J'.bare, J'.base, J'.hok, rv, q⟩
  | next =>
    obtain ⟨_, H', J', q⟩ := out
    exact ⟨V.non, H', J'.os, J'.bare, J'.base, J'.hok, rfl, q⟩
  | brk =>
    obtain ⟨_, _, _, q⟩ := out
    exact q.elim
  | cont =>
    obtain ⟨_, _, _, q⟩ := out
    exact q.elim
section
variable {X : Cx} {k : Nat} {f : Addr} {fd : FuncData} {ps : List Str} {sp : Sp} {x : Str} {p pos : Pos} {e : Expr} {es : List Expr} {t : TA}
/-- such a def called, in a suite or not -/
theorem pe_callW (F : FnW X.prog X.w X.K X.mg X.base k f fd ps sp) (hr : RoomW k X.A) (hg : Gl X x) (hm : X.mg x = some (.ref f)) (hk : PySem.W.keepIn X.K (.ref f) = true) (hb : Binds X.K fd ps []) (ha : PA X (e :: es) t)
    (hdb : (x == ("__debug__" : Str)) = false := by decide) (he : starEach (e :: es) X.env = (false, eval e X.env) :: starEach es X.env := by rfl) (hpl : (backTo pos (starEach es X.env)).any (·.1) = false := by rfl) :
    PE X (.Call (.Name x p) (e :: es) [] pos) (tCall sp [] E0 t) := by
  refine ⟨fun pins s σ H Q I h => wpAny_Call_Name_kw (ld_glob I hg hm ?_ hdb)⟩
  refine PySem.W.callWith_K (h₀ := X.base) I.ok.mod.kin hk (thn (ha.run pos pins s σ H _ I h) fun us s1 ⟨vs, H1, I1, rel, q⟩ => ⟨I1.kIn, ?_⟩) he hpl
  have q : sp (vs ++ []) H1 Q E0 := q
  rw [List.append_nil] at q
  have bound := hb s1 us I1.kIn (by rw [List.append_nil, ← rel.length]; exact F.len _ _ _ _ q)
  rw [List.append_nil] at bound
  refine wpAny_call (codeAny_mono (F.go X.A X.stack s1 H1 ⟨us, []⟩ us vs Q E0 hr I1.env0 bound rel q) fun r s' out => ?_)
  match r, out with
  | .error _, z => exact z.elim
  | .ok (.ret _), z => exact I1.after z
  | .ok .next, z => exact False.elim z
  | .ok .brk, z => exact False.elim z
  | .ok .cont, z => exact False.elim z
end
/-! ### lists of truths -/
/-- xs.count(b) -/
def rCntB (K : PySem.W.Frag) : V → List V → Hp → VK → Prop := fun x xs H Q => ∃ (a : Addr) (bs : List Bool) (b : Bool), x = .ref a ∧ xs = [.bl b] ∧ SqL K H a (bs.map V.bl) ∧ Q (.int ((bs.count b : Nat) : Int)) H
theorem da_bools {K : PySem.W.Frag} {H : Hp} : ∀ bs : List Bool, DpAll K H (bs.map V.bl) (bs.map PyData.bool)
  | [] => .nil
  | b :: bs => .cons (.bl b) (da_bools bs)
theorem plain_bools : ∀ bs : List Bool, PyData.plainAll (bs.map PyData.bool) = true
  | [] => rfl
  | b :: bs => by
    show (PyData.plain (.bool b) && PyData.plainAll (bs.map PyData.bool)) = true
    rw [plain_bools bs]
    rfl
theorem count_bools (bs : List Bool) (b : Bool) : (bs.map PyData.bool).countP (fun y => PyData.eqv y (.bool b)) = bs.count b := by
  rw [List.countP_map, List.count]
  refine List.countP_congr fun x _ => ?_
  cases x <;> cases b <;> simp [PyData.eqv]
theorem mt_cntB {X : Cx} (hu : X.A.units + 64 < cLine) : MtR X "list.count" (rCntB X.K) := by
  intro pins s σ H x xs v us Q I rx rxs h
  obtain ⟨a, bs, b, rfl, rfl, hs, q⟩ := h
  cases rx
  obtain ⟨u, rfl, ru⟩ := Vals.one rxs
  obtain ⟨its, rv, pl, _⟩ := I.list hs
  obtain ⟨as, h1⟩ := Dp.readsAll I (bs.map PyData.bool) _ _ (da_bools bs) rv
  obtain ⟨cs, h2⟩ := Dp.reads I (.bool b) _ _ (.bl b) ru
  refine PySem.SeqAt.count_list_data (vs := its.toArray) (xs := bs.map PyData.bool) (d := .bool b) pl.isList (by simpa using h1) h2 (plain_bools bs) rfl ?_ ?_
  · have : min (PyData.depthAll (bs.map PyData.bool)) (PyData.depth (.bool b)) ≤ PyData.depth (.bool b) := Nat.min_le_right _ _
    have z : PyData.depth (.bool b) ≤ 1 := by first | exact Nat.zero_le _ | exact Nat.le_refl _ | decide
    omega
  · rw [count_bools]
    exact ⟨.int _, H, I.tok _, ⟨_, rfl⟩, q⟩
end EX

set_option Elab.async false
set_option linter.all false
set_option maxRecDepth 100000
set_option maxHeartbeats 4000000
/-! Expressions that come to things of any kind, while a list of digits may be drawn from. -/
namespace TH
open PySem PySem.Spec PyProof.Rows L2 Evl DL GX YA EX

/-- what bears things stays: tuples; lists stay lists, dicts dicts -/
structure ExR (H H' : Hp) : Prop where
  tup : ∀ a xs, Rd H a (.tup xs) → Rd H' a (.tup xs)
  lst : ∀ a xs, Rd H a (.lst xs) → ∃ ys, Rd H' a (.lst ys)
  dK : ∀ a ks, H a = some (.dK ks) → ∃ ls, H' a = some (.dK ls)
  dT : ∀ a ks, H a = some (.dT ks) → ∃ ls, H' a = some (.dT ls)
theorem ExR.refl (H : Hp) : ExR H H := ⟨fun _ _ h => h, fun _ xs h => ⟨xs, h⟩, fun _ ks h => ⟨ks, h⟩, fun _ ks h => ⟨ks, h⟩⟩
theorem ExR.trans {H H1 H2 : Hp} (x : ExR H H1) (y : ExR H1 H2) : ExR H H2 :=
  ⟨fun a xs h => y.tup a xs (x.tup a xs h), fun a xs h => (x.lst a xs h).elim fun ys k => y.lst a ys k, fun a ks h => (x.dK a ks h).elim fun ls k => y.dK a ls k, fun a ks h => (x.dT a ks h).elim fun ls k => y.dT a ls k⟩
theorem exr_of {H H' : Hp} (e : Ex H H') : ExR H H' := ⟨fun _ _ h => ex_rd e h, fun _ xs h => ⟨xs, ex_rd e h⟩, fun _ ks h => ⟨ks, e _ _ h⟩, fun _ ks h => ⟨ks, e _ _ h⟩⟩
theorem exr_upd {H : Hp} {a : Addr} {xs ys : List V} (h : H a = some (.lst xs)) : ExR H (upd H a (.lst ys)) := by
  have nt : ∀ b zs, Rd H b (.tup zs) → b ≠ a := fun b zs r z => by
    subst z
    rcases r with r | ⟨o, r⟩ <;> rw [h] at r <;> cases r
  refine ⟨fun b zs r => ?_, fun b zs r => ?_, fun b ks r => ?_, fun b ks r => ?_⟩
  · have hb := nt b zs r
    rcases r with r | ⟨o, r⟩
    · exact .inl (by rw [upd_ne hb]; exact r)
    · exact .inr ⟨o, by rw [upd_ne hb]; exact r⟩
  · by_cases hb : b = a
    · subst hb
      exact ⟨ys, .inl upd_same⟩
    · refine ⟨zs, ?_⟩
      rcases r with r | ⟨o, r⟩
      · exact .inl (by rw [upd_ne hb]; exact r)
      · exact .inr ⟨o, by rw [upd_ne hb]; exact r⟩
  · have hb : b ≠ a := fun z => by rw [z, h] at r; cases r
    exact ⟨ks, by rw [upd_ne hb]; exact r⟩
  · have hb : b ≠ a := fun z => by rw [z, h] at r; cases r
    exact ⟨ks, by rw [upd_ne hb]; exact r⟩
mutual
theorem rp_r {K : PySem.W.Frag} {H H' : Hp} (e : ExR H H') : ∀ {t : Th} {v : V}, Rp K H v t → Rp K H' v t
  | .none, _, h => by cases h; exact .non
  | .bool b, _, h => by cases h; exact .bl b
  | .int i, _, h => by cases h; exact .int i
  | .str x, _, h => by cases h; exact .str x
  | .tup ts, _, h => by
    cases h with
    | tup hs ha => exact .tup (hs.imp (e.tup _ _) id) (ra_r e ha)
  | .odd T, _, h => by
    cases h with
    | lst hs =>
      rcases hs with hs | hs
      · obtain ⟨ys, k⟩ := e.lst _ _ hs
        exact .lst (.inl k)
      · exact .lst (.inr hs)
    | dct hs =>
      obtain ⟨_, k⟩ := e.dK _ _ hs
      exact .dct k
    | dctT hs =>
      obtain ⟨_, k⟩ := e.dT _ _ hs
      exact .dctT k
theorem ra_r {K : PySem.W.Frag} {H H' : Hp} (e : ExR H H') : ∀ {ts : List Th} {vs : List V}, RpAll K H vs ts → RpAll K H' vs ts
  | [], _, h => by cases h; exact .nil
  | t :: ts, _, h => by
    cases h with
    | cons h1 h2 => exact .cons (rp_r e h1) (ra_r e h2)
end
section
variable {K : PySem.W.Frag} {H : Hp}
theorem ra_app : ∀ {ts us : List Th} {vs ws : List V}, RpAll K H vs ts → RpAll K H ws us → RpAll K H (vs ++ ws) (ts ++ us)
  | [], _, _, _, h, k => by cases h; exact k
  | _ :: _, _, _, _, h, k => by
    cases h with
    | cons h1 h2 => exact .cons h1 (ra_app h2 k)
theorem ra_drop : ∀ (n : Nat) {ts : List Th} {vs : List V}, RpAll K H vs ts → RpAll K H (vs.drop n) (ts.drop n)
  | 0, _, _, h => h
  | n + 1, [], _, h => by cases h; exact .nil
  | n + 1, _ :: _, _, h => by
    cases h with
    | cons h1 h2 => exact ra_drop n h2
theorem ra_take : ∀ (n : Nat) {ts : List Th} {vs : List V}, RpAll K H vs ts → RpAll K H (vs.take n) (ts.take n)
  | 0, _, _, _ => .nil
  | n + 1, [], _, h => by cases h; exact .nil
  | n + 1, _ :: _, _, h => by
    cases h with
    | cons h1 h2 => exact .cons h1 (ra_take n h2)
theorem ra_rev : ∀ {ts : List Th} {vs : List V}, RpAll K H vs ts → RpAll K H vs.reverse ts.reverse
  | [], _, h => by cases h; exact .nil
  | t :: ts, _, h => by
    cases h with
    | cons h1 h2 =>
      rw [List.reverse_cons, List.reverse_cons]
      exact ra_app (ra_rev h2) (.cons h1 .nil)
theorem ra_rep {ts : List Th} {vs : List V} (h : RpAll K H vs ts) : ∀ n : Nat, RpAll K H (List.replicate n vs).flatten (List.replicate n ts).flatten
  | 0 => .nil
  | n + 1 => by
    rw [List.replicate_succ, List.replicate_succ, List.flatten_cons, List.flatten_cons]
    exact ra_app h (ra_rep h n)
end
/-! ### the ways in which the heap may go on -/
/-- Ok: the places whose lists stay -/
structure Way (G : Hp → Hp → Prop) (Ok : Addr → Prop) : Prop where
  refl : ∀ H, G H H
  trans : ∀ {H H1 H2}, G H H1 → G H1 H2 → G H H2
  ex : ∀ {H H'}, Ex H H' → G H H'
  exr : ∀ {H H'}, G H H' → ExR H H'
  put : ∀ {H H' : Hp} {D : Addr} {xs ys : List V}, G H H' → H D = none → H' D = some (.lst xs) → G H (upd H' D (.lst ys))
  kp : ∀ {H H' : Hp} {l : Addr} {xs : List V}, G H H' → Ok l → H l = some (.lst xs) → H' l = some (.lst xs)
theorem way_ex : Way Ex fun _ => True := ⟨Ex.refl, fun a b => a.trans b, fun e => e, exr_of, fun e hn _ => Ex.mut e hn, fun e _ h => e _ _ h⟩
/-- all but the digits at a -/
def ExB (a : Addr) (H H' : Hp) : Prop := ∀ b o, b ≠ a → H b = some o → H' b = some o
def PoolAt (H : Hp) (a : Addr) : Prop := ∃ n, H a = some (.lst [.int n])
structure GP (p : Addr) (H H' : Hp) : Prop where
  b : ExB p H H'
  p : PoolAt H p → PoolAt H' p
  r : ExR H H'
theorem way_pool (p : Addr) : Way (GP p) (fun l => l ≠ p) where
  refl := fun H => ⟨fun _ _ _ h => h, id, ExR.refl H⟩
  trans := fun x y => ⟨fun b o n h => y.b b o n (x.b b o n h), fun h => y.p (x.p h), x.r.trans y.r⟩
  ex := fun e => ⟨fun b o _ h => e b o h, fun ⟨n, h⟩ => ⟨n, e _ _ h⟩, exr_of e⟩
  exr := fun x => x.r
  kp := fun x n h => x.b _ _ n h
  put := fun {H H' D xs ys} x hn hd => ⟨fun b o n h => by rw [upd_ne (ne_of_none h hn)]; exact x.b b o n h, fun h => by
      obtain ⟨n, q⟩ := x.p h
      obtain ⟨m, q0⟩ := h
      exact ⟨n, by rw [upd_ne (ne_of_none q0 hn)]; exact q⟩, x.r.trans (exr_upd hd)⟩
/-- digits are drawn -/
theorem gp_of {p : Addr} {H H' : Hp} (e : ExB p H H') (h : PoolAt H p) (h' : PoolAt H' p) : GP p H H' := by
  obtain ⟨n, q⟩ := h
  obtain ⟨m, q'⟩ := h'
  refine ⟨e, fun _ => ⟨m, q'⟩, ⟨fun a xs r => ?_, fun a xs r => ?_, fun a ks r => ?_, fun a ks r => ?_⟩⟩
  · have hb : a ≠ p := fun z => by
      subst z
      rcases r with r | ⟨o, r⟩ <;> rw [q] at r <;> cases r
    rcases r with r | ⟨o, r⟩
    · exact .inl (e _ _ hb r)
    · exact .inr ⟨o, e _ _ hb r⟩
  · by_cases hb : a = p
    · subst hb
      exact ⟨_, .inl q'⟩
    · rcases r with r | ⟨o, r⟩
      · exact ⟨xs, .inl (e _ _ hb r)⟩
      · exact ⟨xs, .inr ⟨o, e _ _ hb r⟩⟩
  · exact ⟨ks, e _ _ (fun z => by rw [z, q] at r; cases r) r⟩
  · exact ⟨ks, e _ _ (fun z => by rw [z, q] at r; cases r) r⟩
/-! ### what an expression comes to: some thing of which P holds -/
section
variable (G : Hp → Hp → Prop) (Ok : Addr → Prop) (K : PySem.W.Frag)
def EvP (te : TE) (σ : L2.St) (H : Hp) (P : Th → Prop) : Prop := ∀ H1, G H H1 → ∀ Q : VK, (∀ v t H2, G H1 H2 → Rp K H2 v t → P t → Q v H2) → te σ H1 Q
def EvPA (ta : TA) (σ : L2.St) (H : Hp) (P : List Th → Prop) : Prop := ∀ H1, G H H1 → ∀ Q : List V → Hp → Prop, (∀ vs ts H2, G H1 H2 → RpAll K H2 vs ts → P ts → Q vs H2) → ta σ H1 Q
/-- .. to a list of things -/
def EvPL (te : TE) (σ : L2.St) (H : Hp) (P : List Th → Prop) : Prop := ∀ H1, G H H1 → ∀ Q : VK, (∀ l xs ts H2, G H1 H2 → Ok l → H2 l = some (.lst xs) → RpAll K H2 xs ts → P ts → Q (.ref l) H2) → te σ H1 Q
/-- new places are such -/
def Fr (H : Hp) : Prop := ∀ H1 l, G H H1 → H1 l = none → Ok l
/-- a two-place operation -/
def RP (r : R2) (x y : Th) (P : Th → Prop) : Prop := ∀ v u H, Rp K H v x → Rp K H u y → ∀ Q : VK, (∀ w z H2, Ex H H2 → Rp K H2 w z → P z → Q w H2) → r v u H Q
end
section
variable {G : Hp → Hp → Prop} {Ok : Addr → Prop} {K : PySem.W.Frag} (W : Way G Ok) {σ : L2.St} {H H' : Hp} {ta tb te tx : TE} {P P' P'' : Th → Prop} {v : V} {t : Th} {r : R2}
include W
theorem p_mono (e : G H H') (h : EvP G K te σ H P) : EvP G K te σ H' P := fun H1 g Q q => h H1 (W.trans e g) Q q
theorem p_imp (h : EvP G K te σ H P) (k : ∀ t, P t → P' t) : EvP G K te σ H P' := fun H1 g Q q => h H1 g Q fun v t H2 g2 hr hp => q v t H2 g2 hr (k t hp)
theorem p_var {i : Nat} (h : σ[i]? = some (some v)) (hr : Rp K H v t) (hp : P t) : EvP G K (tVar i) σ H P := fun H1 g Q q => ⟨v, h, q v t H1 (W.refl _) (rp_r (W.exr g) hr) hp⟩
theorem p_ci {i : Int} (hp : P (.int i)) : EvP G K (tC (.int i)) σ H P := fun H1 g Q q => q _ _ H1 (W.refl _) (.int i) hp
theorem p_cb {b : Bool} (hp : P (.bool b)) : EvP G K (tC (.bl b)) σ H P := fun H1 g Q q => q _ _ H1 (W.refl _) (.bl b) hp
theorem p_cs {s : Str} (hp : P (.str s)) : EvP G K (tC (.str s)) σ H P := fun H1 g Q q => q _ _ H1 (W.refl _) (.str s) hp
theorem p_cn (hp : P .none) : EvP G K (tC .non) σ H P := fun H1 g Q q => q _ _ H1 (W.refl _) .non hp
theorem p_op (ha : EvP G K ta σ H P) (hb : EvP G K tb σ H P') (hr : ∀ x y, P x → P' y → RP K r x y P'') : EvP G K (tOp r ta tb) σ H P'' := fun H1 g Q q =>
  ha H1 g _ fun v x H2 g2 hv hx => hb H2 (W.trans g g2) _ fun u y H3 g3 hu hy => hr x y hx hy v u H3 (rp_r (W.exr g3) hv) hu Q fun w z H4 e4 hw hz => q w z H4 (W.trans (W.trans g2 g3) (W.ex e4)) hw hz
theorem pa_nilP {Ps : List Th → Prop} (hp : Ps []) : EvPA G K tNil σ H Ps := fun H1 g Q q => q [] [] H1 (W.refl _) .nil hp
theorem pa_consP {Ps Ps' : List Th → Prop} {tr : TA} (h : EvP G K ta σ H P) (hr : EvPA G K tr σ H Ps) (hp : ∀ t ts, P t → Ps ts → Ps' (t :: ts)) : EvPA G K (tCons ta tr) σ H Ps' := fun H1 g Q q =>
  h H1 g _ fun v t H2 g2 hv ht => hr H2 (W.trans g g2) _ fun vs ts H3 g3 hvs hts => q (v :: vs) (t :: ts) H3 (W.trans g2 g3) (.cons (rp_r (W.exr g3) hv) hvs) (hp t ts ht hts)
theorem p_tup {ta : TA} {Ps : List Th → Prop} (h : EvPA G K ta σ H Ps) (hl : ∀ ts, Ps ts → ts.length ≤ 100000) (hp : ∀ ts, Ps ts → P (.tup ts)) : EvP G K (tTup ta) σ H P := fun H1 g Q q =>
  h H1 g _ fun vs ts H2 g2 hv ht => ⟨by rw [ra_len hv]; exact sz_of (hl ts ht), fun p hn => q (.ref p) (.tup ts) _ (W.trans g2 (W.ex (Ex.new hn))) (.tup (st_of upd_same) (ra_mono (Ex.new hn) hv)) (hp ts ht)⟩
theorem p_lst {ta : TA} {Ps : List Th → Prop} (h : EvPA G K ta σ H Ps) (hl : ∀ ts, Ps ts → ts.length ≤ 100000) (hp : P (.odd .lst)) : EvP G K (tLst ta) σ H P := fun H1 g Q q =>
  h H1 g _ fun vs ts H2 g2 hv ht => ⟨by rw [ra_len hv]; exact sz_of (hl ts ht), fun p hn => q (.ref p) (.odd .lst) _ (W.trans g2 (W.ex (Ex.new hn))) (.lst (sq_of upd_same)) hp⟩
theorem p_dict (hp : P (.odd .dct)) : EvP G K tDNewK σ H P := fun H1 g Q q p hn => q (.ref p) (.odd .dct) _ (W.ex (Ex.new hn)) (.dct upd_same) hp
theorem pl_lst {ta : TA} {Ps : List Th → Prop} (fr : Fr G Ok H) (h : EvPA G K ta σ H Ps) (hl : ∀ ts, Ps ts → ts.length ≤ 100000) : EvPL G Ok K (tLst ta) σ H Ps := fun H1 g Q q =>
  h H1 g _ fun vs ts H2 g2 hv ht => ⟨by rw [ra_len hv]; exact sz_of (hl ts ht), fun p hn => q p vs ts _ (W.trans g2 (W.ex (Ex.new hn))) (fr H2 p (W.trans g g2) hn) upd_same (ra_mono (Ex.new hn) hv) ht⟩
theorem fr_mono (e : G H H') (h : Fr G Ok H) : Fr G Ok H' := fun H1 l g n => h H1 l (W.trans e g) n
/-- a list and a list -/
theorem pl_cat {Ps Ps' Pt : List Th → Prop} (fr : Fr G Ok H) (ha : EvPL G Ok K ta σ H Ps) (hb : EvPL G Ok K tb σ H Ps') (hl : ∀ ts us, Ps ts → Ps' us → ts.length + us.length ≤ 100000) (hp : ∀ ts us, Ps ts → Ps' us → Pt (ts ++ us)) : EvPL G Ok K (tOp rCat ta tb) σ H Pt := fun H1 g Q q =>
  ha H1 g _ fun l xs ts H2 g2 ol hx rx ht => hb H2 (W.trans g g2) _ fun m ys us H3 g3 om hy ry hu => by
    have rx3 := ra_r (W.exr g3) rx
    refine ⟨l, m, xs, ys, rfl, rfl, W.kp g3 ol hx, hy, by rw [ra_len rx, ra_len ry]; exact sz_of (hl ts us ht hu), fun p hn => ?_⟩
    have g13 := W.trans g2 g3
    exact q p _ _ _ (W.trans g13 (W.ex (Ex.new hn))) (fr H3 p (W.trans g g13) hn) upd_same (ra_mono (Ex.new hn) (ra_app rx3 ry)) (hp ts us ht hu)
omit W in
theorem rp_tupI {H : Hp} {v : V} {ts : List Th} (h : Rp K H v (.tup ts)) : ∃ a xs, v = .ref a ∧ SqT K H a xs ∧ RpAll K H xs ts := rp_tup h
omit W in
theorem rp_ixT {ts : List Th} {i : Nat} (h : ts[i]? = some t) (hp : P t) : RP K (rIxT K) (.tup ts) (.int (i : Int)) P := fun v u H hv hu Q q => by
  obtain ⟨a, xs, rfl, hs, ha⟩ := rp_tup hv
  obtain ⟨w, hw, hd⟩ := ra_at ha h
  exact ⟨a, xs, i, w, rfl, rp_int hu, hs, atI_nat hw, q w t H (Ex.refl H) hd hp⟩
omit W in
theorem rp_catT {ts us : List Th} (hl : ts.length + us.length ≤ 100000) (hp : P (.tup (ts ++ us))) : RP K (rCatA K) (.tup ts) (.tup us) P := fun v u H hv hu Q q => by
  obtain ⟨a, xs, rfl, hs, ha⟩ := rp_tup hv
  obtain ⟨b, ys, rfl, ht, hb⟩ := rp_tup hu
  refine ⟨a, b, xs, ys, rfl, rfl, hs, ht, by rw [ra_len ha, ra_len hb]; exact sz_of hl, fun h => ?_, fun _ h => ?_, fun _ _ p hn => ?_⟩
  · subst h
    have : ts = [] := by have := ra_len ha; exact List.length_eq_zero_iff.mp this.symm
    subst this
    exact q _ _ H (Ex.refl H) (.tup ht hb) hp
  · subst h
    have : us = [] := by have := ra_len hb; exact List.length_eq_zero_iff.mp this.symm
    subst this
    rw [List.append_nil] at hp
    exact q _ _ H (Ex.refl H) (.tup hs ha) hp
  · exact q _ _ _ (Ex.new hn) (.tup (st_of upd_same) (ra_mono (Ex.new hn) (ra_app ha hb))) hp
omit W in
theorem rp_repT {ts : List Th} {k : Nat} (h0 : ts ≠ []) (h2 : 2 ≤ k) (h3 : k ≤ 1000) (hl : ts.length ≤ 1000) (hp : P (.tup (List.replicate k ts).flatten)) : RP K (rRepT K) (.tup ts) (.int (k : Int)) P := fun v u H hv hu Q q => by
  obtain ⟨a, xs, rfl, hs, ha⟩ := rp_tup hv
  refine ⟨a, k, xs, rfl, rp_int hu, hs, fun z => h0 ?_, by omega, by omega, by rw [ra_len ha]; exact hl, fun p hn => ?_⟩
  · subst z
    exact List.length_eq_zero_iff.mp (ra_len ha).symm
  · rw [Int.toNat_natCast]
    exact q _ _ _ (Ex.new hn) (.tup (st_of upd_same) (ra_mono (Ex.new hn) (ra_rep ha k))) hp
omit W in
theorem rp_I0 {g : Int → Int → Int} {i j : Int} (hp : P (.int (g i j))) : RP K (rI0 fun i j => .int (g i j)) (.int i) (.int j) P := fun v u H hv hu Q q => ⟨i, j, rp_int hv, rp_int hu, q _ _ H (Ex.refl H) (.int _) hp⟩
omit W in
theorem rp_I {C : Int → Int → Prop} {g : Int → Int → Int} {i j : Int} (hc : C i j) (hp : P (.int (g i j))) : RP K (rI C fun i j => .int (g i j)) (.int i) (.int j) P := fun v u H hv hu Q q => ⟨i, j, rp_int hv, rp_int hu, hc, q _ _ H (Ex.refl H) (.int _) hp⟩
/-- x[lo:hi] of a tuple; the parts come to ints -/
theorem p_cut {tl th : TO} {lo hi : Option Int} (h : EvP G K te σ H fun t => ∃ ts, t = .tup ts ∧ P (.tup ((ts.drop (HT.sIx ts.length 0 lo)).take (HT.sIx ts.length ts.length hi - HT.sIx ts.length 0 lo))))
    (hl : ∀ H1, G H H1 → ∀ Q : Option Int → Hp → Prop, (∀ H2, Ex H1 H2 → Q lo H2) → tl σ H1 Q) (hh : ∀ H1, G H H1 → ∀ Q : Option Int → Hp → Prop, (∀ H2, Ex H1 H2 → Q hi H2) → th σ H1 Q) : EvP G K (tSl (rSlA K) te tl th) σ H P := fun H1 g Q q =>
  h H1 g _ fun v t H2 g2 hv ht => hl H2 (W.trans g g2) _ fun H3 e3 => hh H3 (W.trans (W.trans g g2) (W.ex e3)) _ fun H4 e4 => by
    obtain ⟨ts, rfl, hp⟩ := ht
    obtain ⟨a, xs, rfl, hs, ha⟩ := rp_tup (rp_mono (e3.trans e4) hv)
    have hn : xs.length = ts.length := ra_len ha
    have g4 := W.trans g2 (W.ex (e3.trans e4))
    refine ⟨a, xs, rfl, hs, fun hw => ?_, fun hw p hp' => ?_⟩
    · rw [hn] at hw
      rw [hw.1, hw.2, List.drop_zero, Nat.sub_zero, List.take_of_length_le (Nat.le_refl _)] at hp
      exact q _ _ H4 g4 (.tup hs ha) hp
    · refine q _ _ _ (W.trans g4 (W.ex (Ex.new hp'))) (.tup (st_of upd_same) ?_) hp
      unfold cutV
      rw [hn]
      exact ra_mono (Ex.new hp') (ra_take _ (ra_drop _ ha))
/-- tuple(a list) -/
abbrev rTupOf (K : PySem.W.Frag) : List V → Hp → VK → Prop := fun xs H Q => ∃ p ys, xs = [.ref p] ∧ ((SqL K H p ys ∧ ∀ l, H l = none → Q (.ref l) (upd H l (.tup ys))) ∨ (SqT K H p ys ∧ Q (.ref p) H))
theorem p_tupL {Ps : List Th → Prop} (h : EvPL G Ok K te σ H Ps) (hp : ∀ ts, Ps ts → P (.tup ts)) :
    EvP G K (tCB (rTupOf K) (tCons te tNil)) σ H P := fun H1 g Q q =>
  h H1 g _ fun l xs ts H2 g2 _ hl hx ht => ⟨l, xs, rfl, .inl ⟨sq_of hl, fun m hm => q _ _ _ (W.trans g2 (W.ex (Ex.new hm))) (.tup (st_of upd_same) (ra_mono (Ex.new hm) hx)) (hp ts ht)⟩⟩
/-- list(a tuple) -/
theorem p_lstT (h : EvP G K te σ H fun t => ∃ ts, t = .tup ts) (hp : P (.odd .lst)) :
    EvP G K (tCB (fun xs H Q => ∃ p ys, xs = [.ref p] ∧ (SqL K H p ys ∨ SqT K H p ys) ∧ ∀ l, H l = none → Q (.ref l) (upd H l (.lst ys))) (tCons te tNil)) σ H P := fun H1 g Q q =>
  h H1 g _ fun v t H2 g2 hv ht => by
    obtain ⟨ts, rfl⟩ := ht
    obtain ⟨a, xs, rfl, hs, ha⟩ := rp_tup hv
    exact ⟨a, xs, rfl, .inr hs, fun l hn => q _ _ _ (W.trans g2 (W.ex (Ex.new hn))) (.lst (sq_of upd_same)) hp⟩
/-- xs[i], a list of things -/
theorem p_ixL {Ps : List Th → Prop} (ha : EvPL G Ok K ta σ H Ps) (hb : EvP G K tb σ H P') (hp : ∀ ts y, Ps ts → P' y → ∃ (i : Nat) (t : Th), y = .int (i : Int) ∧ ts[i]? = some t ∧ P t) : EvP G K (tOp (rIxL K) ta tb) σ H P := fun H1 g Q q =>
  ha H1 g _ fun l xs ts H2 g2 ol hl hx ht => hb H2 (W.trans g g2) _ fun u y H3 g3 hu hy => by
    obtain ⟨i, t, rfl, hi, hpt⟩ := hp ts y ht hy
    obtain ⟨w, hw, hd⟩ := ra_at (ra_r (W.exr g3) hx) hi
    exact ⟨l, xs, i, w, rfl, rp_int hu, sq_of (W.kp g3 ol hl), atI_nat hw, q w t H3 (W.trans g2 g3) hd hpt⟩
end
end TH

set_option Elab.async false
set_option linter.all false
set_option maxRecDepth 100000
set_option maxHeartbeats 4000000
namespace TH
open PySem PySem.Spec PyProof.Rows L2 Evl DL GX YA EX

/-! ### walks that digits may be drawn in -/
def WkG (G : Hp → Hp → Prop) {α : Type} (S : Hp → V → α → Prop) (J : It) (H : Hp) (as : List α) : Prop := ∃ (Gd : Hp → Prop) (Y : Nat → Hp → V → Hp → Prop), Walk J as.length Gd Y ∧ (∀ H1, G H H1 → Gd H1) ∧
  ∀ i H1 x H2, G H H1 → Y i H1 x H2 → G H1 H2 ∧ ∃ d, as[i]? = some d ∧ S H2 x d
def EvWG (G : Hp → Hp → Prop) {α : Type} (S : Hp → V → α → Prop) (wi : TI) (σ : L2.St) (H : Hp) (as : List α) : Prop := ∀ H1, G H H1 → ∀ R : It → Hp → Prop, (∀ J H2, G H1 H2 → WkG G S J H2 as → R J H2) → wi σ H1 R
section
variable {G : Hp → Hp → Prop} {Ok : Addr → Prop} {K : PySem.W.Frag} (W : Way G Ok) {σ : L2.St} {H H' : Hp} {te tl : TE} {v : V} {wi : TI} {g : TG}
include W
theorem wg_tup {ts : List Th} (h : EvP G K tl σ H fun t => t = .tup ts) : EvWG G (Rp K) (iTup K tl) σ H ts := fun H1 e R q => h H1 e _ fun v t H2 g2 hr ht => by
  subst ht
  obtain ⟨a, xs, rfl, hs, ha⟩ := rp_tup hr
  refine ⟨a, rfl, ⟨xs, hs⟩, q _ H2 g2 ⟨fun H3 => SqT K H3 a xs, YAt xs, by rw [← ra_len ha]; exact walk_tup (xs := xs), fun H3 g3 => hs.imp ((W.exr g3).tup _ _) id, fun i H3 x H4 g3 y => ?_⟩⟩
  obtain ⟨rfl, hx⟩ := y
  exact ⟨W.refl _, ra_get (ra_r (W.exr g3) ha) hx⟩
theorem wg_rng {n : Nat} (hn : n ≤ 100000) (h : EvP G K te σ H fun t => t = .int (n : Int)) : EvWG G (fun _ x (i : Nat) => x = .int (i : Int)) (iRng1 (tCons te tNil)) σ H (List.range n) := fun H1 e R q => h H1 e _ fun v t H2 g2 hr ht => by
  subst ht
  cases rp_int hr
  refine ⟨(n : Int), rfl, by omega, by omega, q _ H2 g2 ⟨fun _ => True, fun i H x H' => H' = H ∧ x = .int ((0 : Int) + (i : Nat)) ∧ i < n, ?_, fun H3 _ => trivial, fun i H3 x H4 e3 y => ?_⟩⟩
  · rw [List.length_range, Int.toNat_natCast]
    exact ⟨fun _ _ hi _ => hi, fun _ _ => Nat.le_refl _, fun _ _ _ _ hi _ y => ⟨y.1, y.2, hi⟩⟩
  · obtain ⟨rfl, rfl, hi⟩ := y
    exact ⟨W.refl _, i, List.getElem?_range hi, by rw [Int.zero_add]⟩
/-- over a list of things, whatever becomes of lists elsewhere: the walked one is ours -/
theorem wg_lst {Ps : List Th → Prop} {ts : List Th} (h : EvPL G Ok K tl σ H fun us => us = ts) : EvWG G (Rp K) (iList K tl) σ H ts := fun H1 e R q => h H1 e _ fun l xs us H2 g2 ol hl ha ht => by
  subst ht
  refine ⟨l, rfl, ⟨xs, sq_of hl⟩, q _ H2 g2 ⟨fun H3 => SqL K H3 l xs, YAt xs, by rw [← ra_len ha]; exact walk_list (xs := xs), fun H3 g3 => sq_of (W.kp g3 ol hl), fun i H3 x H4 g3 y => ?_⟩⟩
  obtain ⟨rfl, hx⟩ := y
  exact ⟨W.refl _, ra_get (ra_r (W.exr g3) ha) hx⟩
/-- [e for x in it], of things -/
theorem pl_lc {α : Type} {S : Hp → V → α → Prop} {vs : List Nat} {as : List α} (Pe : α → Th → Prop) (fr : Fr G Ok H) (hw : EvWG G S wi σ H as) (hz : as.length ≤ 40000)
    (hs : ∀ (i : Nat) (d : α) (x : V) (H1 : Hp), G H H1 → as[i]? = some d → S H1 x d → ∃ σ2, TgD g x (wipe σ vs) H1 σ2 ∧ wipe σ2 vs = wipe σ vs ∧ EvP G K te σ2 H1 (Pe d)) :
    EvPL G Ok K (tLc wi g tYes te vs) σ H (fun ts => ts.length = as.length ∧ ∀ (j : Nat) (t : Th) (d : α), ts[j]? = some t → as[j]? = some d → Pe d t) := fun H0 g0 Q q => hw H0 g0 _ fun J H1 g1 wk D hD => by
  obtain ⟨Gd, Y, wlk, hG, hY⟩ := wk
  have oD : Ok D := fr H1 D (W.trans g0 g1) hD
  refine lc_it (σ := σ) wlk (fun i H' => G H1 H' ∧ ∃ xs ts, H' D = some (.lst xs) ∧ RpAll K H' xs ts ∧ ts.length = i ∧ ∀ (j : Nat) (t : Th) (d : α), ts[j]? = some t → as[j]? = some d → Pe d t)
    ⟨W.ex (Ex.new hD), [], [], upd_same, .nil, rfl, fun j t d h => by simp at h⟩ (fun i H' _ p => hG H' p.1) (fun i x H2 H3 hi p y => ?_) (fun H' p => ?_)
  · obtain ⟨gi, xs, ts, hx, ha, hl, hp⟩ := p
    obtain ⟨gy, d, hd, hS⟩ := hY i H2 x H3 gi y
    obtain ⟨σ2, tg, hwp, he⟩ := hs i d x H3 (W.trans (W.trans g0 g1) (W.trans gi gy)) hd hS
    refine tg H3 (Ex.refl H3) _ ⟨hwp, ?_⟩
    show te σ2 H3 _
    refine he H3 (W.refl H3) _ fun v t H5 g5 hv ht => ?_
    have g35 := W.trans gy g5
    have xD : H5 D = some (.lst xs) := W.kp g35 oD hx
    have hxl : xs.length = i := by rw [ra_len ha, hl]
    refine ⟨xs, xD, sz_lt (by omega), W.put (W.trans gi g35) hD xD, xs ++ [v], ts ++ [t], upd_same, ra_r (exr_upd xD) (ra_app (ra_r (W.exr g35) ha) (.cons hv .nil)), by rw [List.length_append, hl]; rfl, fun j t' d' h1 h2 => ?_⟩
    by_cases hj : j < i
    · rw [List.getElem?_append_left (by omega)] at h1
      exact hp j t' d' h1 h2
    · rw [List.getElem?_append_right (by omega)] at h1
      have hj2 : j = i := by
        cases hh : j - ts.length with
        | zero => omega
        | succ m => rw [hh] at h1; simp at h1
      subst hj2
      rw [hl, Nat.sub_self] at h1
      simp at h1
      subst h1
      rw [hd] at h2
      cases h2
      exact ht
  · obtain ⟨gi, xs, ts, hx, ha, hl, hp⟩ := p
    exact q D xs ts H' (W.trans g1 gi) oD hx ha ⟨hl, hp⟩
end
/-! ### for, over a walk told by a relation -/
section
variable {σ : L2.St} {H : Hp} {wi : TI} {g : TG} {tu tz : TS} {D : Ends} {K : PySem.W.Frag} {te : TE}
theorem q_forW {α : Type} {S : Hp → V → α → Prop} {as : List α} (hw : EvWR S wi σ H as) (Pv : Hp → Nat → L2.St → Hp → Prop) (h0 : ∀ H1, Ex H H1 → Pv H1 0 σ H1) (hx : ∀ H1 i σ' H', Pv H1 i σ' H' → Ex H1 H')
    (hs : ∀ (H1 : Hp) (i : Nat) (d : α) (x : V) (σ' : L2.St) (H' H2 : Hp), Ex H H1 → as[i]? = some d → Pv H1 i σ' H' → Ex H' H2 → S H2 x d → ∃ σ2, TgD g x σ' H2 σ2 ∧ tu { D with nx := Pv H1 (i + 1), ct := Pv H1 (i + 1), bk := tz D } σ2 H2) (hd : ∀ H1 σ' H', Ex H H1 → Pv H1 as.length σ' H' → tz D σ' H') :
    tSeq (tFor wi g tu) tz D σ H := hw H (Ex.refl H) _ fun J H1 e1 wk => by
  obtain ⟨Gd, Y, wlk, hG, hY⟩ := wk
  refine for_it (D := { D with nx := tz D }) wlk (Pv H1) (h0 H1 e1) (fun i σ' H' _ p => hG H' (hx _ _ _ _ p)) (fun i x σ' H2 H3 hi p y => ?_) (fun σ' H' p => hd H1 σ' H' e1 p)
  obtain ⟨ey, d, hd', hS⟩ := hY i H2 x H3 (hx _ _ _ _ p) y
  obtain ⟨σ2, tg, hu⟩ := hs H1 i d x σ' H2 H3 e1 hd' p ey hS
  exact tg H3 (Ex.refl H3) _ hu
/-- [e for x in it], of data -/
theorem ed_lcR {α : Type} {S : Hp → V → α → Prop} {vs : List Nat} {as : List α} (f : α → PyData) (hw : EvWR S wi σ H as) (hz : as.length ≤ 40000)
    (hs : ∀ (i : Nat) (d : α) (x : V) (H1 : Hp), Ex H H1 → as[i]? = some d → S H1 x d → ∃ σ2, TgD g x (wipe σ vs) H1 σ2 ∧ wipe σ2 vs = wipe σ vs ∧ noL (f d) = true ∧ EvD K te σ2 H1 (f d)) :
    EvD K (tLc wi g tYes te vs) σ H (.list (as.map f)) := fun H0 e0 Q q => hw H0 e0 _ fun J H1 e1 wk D hD => by
  obtain ⟨Gd, Y, wlk, hG, hY⟩ := wk
  refine lc_it (σ := σ) wlk (fun i H' => Ex H1 H' ∧ noLs ((as.take i).map f) = true ∧ ∃ xs, H' D = some (.lst xs) ∧ xs.length ≤ i ∧ DpAll K H' xs ((as.take i).map f))
    ⟨Ex.new hD, rfl, [], upd_same, Nat.le_refl _, .nil⟩ (fun i H' _ p => hG H' p.1) (fun i x H2 H3 hi p y => ?_) (fun H' p => ?_)
  · obtain ⟨ex, hn, xs, hx, hl, ha⟩ := p
    obtain ⟨ey, d, hd, hS⟩ := hY i H2 x H3 ex y
    obtain ⟨σ2, tg, hwp, hno, he⟩ := hs i d x H3 ((e0.trans e1).trans (ex.trans ey)) hd hS
    refine tg H3 (Ex.refl H3) _ ⟨hwp, ?_⟩
    show te σ2 H3 _
    refine he H3 (Ex.refl H3) _ fun v H5 e5 hv => ?_
    have tk : as.take (i + 1) = as.take i ++ [d] := by rw [List.take_add_one, hd]; rfl
    have xD : H5 D = some (.lst xs) := e5 _ _ (ey _ _ hx)
    refine ⟨xs, xD, sz_lt (by omega), Ex.mut (ex.trans (ey.trans e5)) hD, ?_, xs ++ [v], upd_same, by rw [List.length_append]; show xs.length + 1 ≤ i + 1; omega, ?_⟩
    · rw [tk, List.map_append]
      exact noLs_snoc hn hno
    · rw [tk, List.map_append]
      exact da_monoT (ext_upd xD) (noLs_snoc hn hno) (da_snoc (da_mono (ey.trans e5) ha) hv)
  · obtain ⟨ex, hn, xs, hx, hl, ha⟩ := p
    rw [List.take_of_length_le (Nat.le_refl _)] at ha
    exact q (.ref D) H' (e1.trans ex) (.lst (sq_of hx) ha)
/-- all([e for x in it]) -/
theorem ev_allL {α : Type} {S : Hp → V → α → Prop} {vs : List Nat} {as : List α} (f : α → Bool) (hw : EvWR S wi σ H as) (hz : as.length ≤ 40000)
    (hs : ∀ (i : Nat) (d : α) (x : V) (H1 : Hp), Ex H H1 → as[i]? = some d → S H1 x d → ∃ σ2, TgD g x (wipe σ vs) H1 σ2 ∧ wipe σ2 vs = wipe σ vs ∧ Ev te σ2 H1 (.bl (f d))) :
    Ev (tCB (rAll K) (tCons (tLc wi g tYes te vs) tNil)) σ H (.bl (as.all f)) := by
  have z := ed_lcR (K := K) (g := g) (te := te) (vs := vs) (fun d => .bool (f d)) hw hz fun i d x H1 e hd hS => by
    obtain ⟨σ2, a, b, c⟩ := hs i d x H1 e hd hS
    exact ⟨σ2, a, b, rfl, ed_bool c⟩
  have e : as.map (fun d => PyData.bool (f d)) = (as.map f).map .bool := by rw [List.map_map]; rfl
  rw [e] at z
  have r := ev_bool (ed_cbt (eda_cons z eda_nil) rdc_all)
  rwa [List.all_map] at r
end
end TH

set_option Elab.async false
set_option linter.all false
set_option maxRecDepth 100000
set_option maxHeartbeats 4000000
/-! What is asked of things of any kind, in plain words. -/
namespace TV
open PySem PySem.Spec PyProof.Rows L2 Evl DL GX YA EX TH
/-! ### what is asked -/
def isWhole : Th → Bool
  | .int _ => true
  | _ => false
def asInt : Th → Int
  | .int i => i
  | _ => 0
def isWithin (t : Th) (lo hi : Int) : Bool := isWhole t && (decide (lo ≤ asInt t) && decide (asInt t ≤ hi))
def parts : Th → List Th
  | .tup ts => ts
  | _ => []
def isTup (t : Th) : Bool := isIn t "tuple"
def isTupleOf (t : Th) (lo hi : Int) : Bool := isTup t && (decide (lo ≤ ((parts t).length : Int)) && decide (((parts t).length : Int) ≤ hi))
theorem whole_in (t : Th) : (isIn t "int" && !isIn t "bool") = isWhole t := by
  cases t with
  | odd o => cases o <;> rfl
  | _ => rfl
theorem tup_of {t : Th} (h : isTup t = true) : ∃ ts, t = .tup ts := by
  cases t with
  | tup ts => exact ⟨ts, rfl⟩
  | odd o => cases o <;> cases h
  | _ => cases h
theorem int_of {t : Th} (h : isWhole t = true) : ∃ i, t = .int i := by
  cases t with
  | int i => exact ⟨i, rfl⟩
  | _ => cases h
theorem int_within {t : Th} {lo hi : Int} (h : isWithin t lo hi = true) : ∃ i, t = .int i ∧ lo ≤ i ∧ i ≤ hi := by
  unfold isWithin at h
  rw [Bool.and_eq_true, Bool.and_eq_true] at h
  obtain ⟨i, rfl⟩ := int_of h.1
  exact ⟨i, rfl, of_decide_eq_true h.2.1, of_decide_eq_true h.2.2⟩
theorem tup_len {t : Th} {lo hi : Int} (h : isTupleOf t lo hi = true) : ∃ ts, t = .tup ts ∧ lo ≤ (ts.length : Int) ∧ (ts.length : Int) ≤ hi := by
  unfold isTupleOf at h
  rw [Bool.and_eq_true, Bool.and_eq_true] at h
  obtain ⟨ts, rfl⟩ := tup_of h.1
  exact ⟨ts, rfl, of_decide_eq_true h.2.1, of_decide_eq_true h.2.2⟩
def Tb (Ps : List Addr) (H : Hp) : Prop := ∀ P ∈ Ps, H P = some (TabE P)
theorem Tb.ex {Ps : List Addr} {H H' : Hp} (e : Ex H H') (h : Tb Ps H) : Tb Ps H' := fun P hp => e _ _ (h P hp)
/-- a def of things that tells a truth, where F says which -/
def spF (K : PySem.W.Frag) (Ps : List Addr) (F : List Th → Option Bool) : Sp := fun vs H Q _ => ∃ ts b, RpAll K H vs ts ∧ F ts = some b ∧ Tb Ps H ∧ ∀ H', Ex H H' → Q (.bl b) H'
section
variable {K : PySem.W.Frag} {Ps : List Addr} {σ : L2.St} {H : Hp} {te : TE} {D : Ends}
theorem ev_callF {F : List Th → Option Bool} {ta : TA} {E : XK} {vs : List V} {ts : List Th} {b : Bool} (ha : EvA ta σ H vs) (hr : RpAll K H vs ts) (hF : F ts = some b) (hT : Tb Ps H) : Ev (tCall (spF K Ps F) [] E ta) σ H (.bl b) := fun H1 e Q q =>
  ha H1 e _ fun H2 e2 => ⟨ts, b, by rw [List.append_nil]; exact ra_mono (e.trans e2) hr, hF, hT.ex (e.trans e2), fun H3 e3 => q H3 (e2.trans e3)⟩
theorem sr_ret {v : V} (h : Ev te σ H v) (k : ∀ H1, Ex H H1 → D.rt v H1) : tRet te D σ H := h H (Ex.refl H) _ fun H1 e => k H1 e
theorem len_spF {F : List Th → Option Bool} {n : Nat} (hn : ∀ ts b, F ts = some b → ts.length = n) : ∀ vs H Q E, spF K Ps F vs H Q E → vs.length = n := fun vs H Q E h => by
  obtain ⟨ts, b, hr, hF, _⟩ := h
  rw [ra_len hr]
  exact hn ts b hF
end
theorem f3_is {g : Th → Int → Int → Bool} {F : List Th → Option Bool} (hF : ∀ ts, F ts = match ts with | [t, .int a, .int b] => some (g t a b) | _ => none) {ts : List Th} {b : Bool} (h : F ts = some b) : ∃ t lo hi, ts = [t, .int lo, .int hi] ∧ b = g t lo hi := by
  rw [hF] at h
  split at h
  · exact ⟨_, _, _, rfl, (Option.some.inj h).symm⟩
  · cases h
theorem f2_is {g : Th → Int → Bool} {F : List Th → Option Bool} (hF : ∀ ts, F ts = match ts with | [t, .int a] => some (g t a) | _ => none) {ts : List Th} {b : Bool} (h : F ts = some b) : ∃ t n, ts = [t, .int n] ∧ b = g t n := by
  rw [hF] at h
  split at h
  · exact ⟨_, _, rfl, (Option.some.inj h).symm⟩
  · cases h
theorem f1_is {g : Th → Bool} {F : List Th → Option Bool} (hF : ∀ ts, F ts = match ts with | [t] => some (g t) | _ => none) {ts : List Th} {b : Bool} (h : F ts = some b) : ∃ t, ts = [t] ∧ b = g t := by
  rw [hF] at h
  split at h
  · exact ⟨_, rfl, (Option.some.inj h).symm⟩
  · cases h
def fn1 (g : Th → Bool) : List Th → Option Bool := fun ts => match ts with | [t] => some (g t) | _ => none
def fn2 (g : Th → Int → Bool) : List Th → Option Bool := fun ts => match ts with | [t, .int a] => some (g t a) | _ => none
def fn3 (g : Th → Int → Int → Bool) : List Th → Option Bool := fun ts => match ts with | [t, .int a, .int b] => some (g t a b) | _ => none
theorem fn1_is {g : Th → Bool} {ts : List Th} {b : Bool} (h : fn1 g ts = some b) : ∃ t, ts = [t] ∧ b = g t := f1_is (fun _ => rfl) h
theorem fn2_is {g : Th → Int → Bool} {ts : List Th} {b : Bool} (h : fn2 g ts = some b) : ∃ t n, ts = [t, .int n] ∧ b = g t n := f2_is (fun _ => rfl) h
theorem fn3_is {g : Th → Int → Int → Bool} {ts : List Th} {b : Bool} (h : fn3 g ts = some b) : ∃ t lo hi, ts = [t, .int lo, .int hi] ∧ b = g t lo hi := f3_is (fun _ => rfl) h
section
variable {K : PySem.W.Frag}
theorem ra1 {H : Hp} {vs : List V} {t : Th} (h : RpAll K H vs [t]) : ∃ v, vs = [v] ∧ Rp K H v t := by
  cases h with
  | cons h1 h2 =>
    cases h2
    exact ⟨_, rfl, h1⟩
theorem ra2 {H : Hp} {vs : List V} {t u : Th} (h : RpAll K H vs [t, u]) : ∃ v w, vs = [v, w] ∧ Rp K H v t ∧ Rp K H w u := by
  cases h with
  | cons h1 h2 =>
    obtain ⟨w, rfl, h3⟩ := ra1 h2
    exact ⟨_, w, rfl, h1, h3⟩
theorem ra3 {H : Hp} {vs : List V} {t u x : Th} (h : RpAll K H vs [t, u, x]) : ∃ v w y, vs = [v, w, y] ∧ Rp K H v t ∧ Rp K H w u ∧ Rp K H y x := by
  cases h with
  | cons h1 h2 =>
    obtain ⟨w, y, rfl, h3, h4⟩ := ra2 h2
    exact ⟨_, w, y, rfl, h1, h3, h4⟩
end
theorem all_no {α : Type} {as : List α} {f : α → Bool} {i : Nat} {d : α} (h : as[i]? = some d) (hf : f d = false) : as.all f = false := by
  rw [List.all_eq_false]
  exact ⟨d, List.mem_of_getElem? h, by rw [hf]; exact Bool.false_ne_true⟩
theorem all_take {α : Type} {as : List α} {f : α → Bool} {i : Nat} {d : α} (h : as[i]? = some d) (h0 : (as.take i).all f = true) (hf : f d = true) : (as.take (i + 1)).all f = true := by
  rw [List.take_add_one, h, List.all_append, h0]
  simp [hf]
theorem tb_nil {H : Hp} : Tb [] H := fun P h => nomatch h
end TV

set_option Elab.async false
set_option linter.all false
set_option maxRecDepth 100000
set_option maxHeartbeats 4000000
/-! t[::-1], t a tuple. -/
namespace EX
open PySem PySem.Spec PyProof.Rows L2 Evl DL GX YA TH
section
variable {prog : Program} {w : World} {A : Around} {E : Value → Shared → Prop} {s : Shared}
theorem turned_pick (xs : Array Value) : ((List.range xs.size).filterMap fun (m : Nat) => xs[(((xs.size : Int) - 1) + (m : Int) * -1).toNat]?).toArray = xs.toList.reverse.toArray := by
  have e0 : (List.range xs.size).map (fun (m : Nat) => (((xs.size : Int) - 1) + (m : Int) * -1).toNat) = (List.range xs.size).map fun m => xs.size - 1 - m := List.map_congr_left fun m hm => by
    have hl := List.mem_range.mp hm
    omega
  have e1 : (List.range xs.size).filterMap (fun (m : Nat) => xs[(((xs.size : Int) - 1) + (m : Int) * -1).toNat]?) = ((List.range xs.size).map fun (m : Nat) => (((xs.size : Int) - 1) + (m : Int) * -1).toNat).filterMap (xs[·]?) := by rw [List.filterMap_map]; rfl
  rw [e1, e0, PySem.W.krv_range, List.filterMap_reverse, PySem.W.krv_all]
theorem applied_turned {sl : Addr} {vl vu vs : Value} {n : Nat} {Q : Int × Int × Nat → Shared → Prop} (hs : s.heap.IsSliceOf sl vl vu vs) (pl : IsPart vl none) (pu : IsPart vu none) (ps : IsPart vs (some (-1))) (h : Q ((n : Int) - 1, -1, n) s) :
    wpAny (model prog w) A (Builtin.Slice.sliceApplied (.ref sl) (pure (n : Int))) Q E s := by
  obtain ⟨os, hos, hcs, hds⟩ := id hs
  unfold Builtin.Slice.sliceApplied Builtin.Slice.sliceFields
  refine wpAny_bind (wpAny_bind (wpAny_field hos hds (x := vl) rfl (wpAny_bind (wpAny_field hos hds (x := vu) rfl (wpAny_bind (wpAny_field hos hds (x := vs) rfl (wpAny_pure ?_)))))))
  refine wpAny_bind (HT.slicePart_ ps ?_)
  show wpAny _ _ (if ((-1 : Int) == 0) = true then _ else _) _ _ s
  rw [if_neg (by decide)]
  refine wpAny_bind (HT.slicePart_ pl (wpAny_bind (HT.slicePart_ pu (wpAny_bind (wpAny_pure ?_)))))
  have e1 : Builtin.Slice.sliceAdjust none none (-1) (n : Int) = ((n : Int) - 1, -1) := rfl
  show wpAny _ _ (match Builtin.Slice.sliceAdjust none none (-1) (n : Int) with | (lo, hi) => pure (lo, (-1 : Int), Builtin.Slice.slicePlaces lo hi (-1))) _ _ s
  rw [e1]
  have e2 : Builtin.Slice.slicePlaces ((n : Int) - 1) (-1) (-1) = n := by
    unfold Builtin.Slice.slicePlaces
    rw [if_neg (by decide)]
    by_cases hn : (n : Int) - 1 > -1
    · rw [if_pos hn, show (- -1 : Int) = 1 by decide, Int.ediv_one]
      omega
    · rw [if_neg hn]
      omega
  show wpAny _ _ (pure ((n : Int) - 1, (-1 : Int), Builtin.Slice.slicePlaces ((n : Int) - 1) (-1) (-1))) _ _ s
  rw [e2]
  exact wpAny_pure h
theorem tuple_turned {t sl : Addr} {items : Array Value} {vl vu vs : Value} {Q : Value → Shared → Prop} (ht : IsTup s.heap t items) (hs : s.heap.IsSliceOf sl vl vu vs) (pl : IsPart vl none) (pu : IsPart vu none) (ps : IsPart vs (some (-1)))
    (h : Q (.ref s.heap.objs.size) { s with heap := s.heap.push { cls := .type "tuple", data := .seq items.toList.reverse.toArray } }) (hsz : items.size ≤ sizeLine) : wpAny (model prog w) A (getItem (.ref t) (.ref sl)) Q E s := by
  have fits : sizeOk (.seq items.toList.reverse.toArray) := by
    show items.toList.reverse.toArray.size ≤ sizeLine
    rw [List.size_toArray, List.length_reverse, Array.length_toList]
    exact hsz
  obtain ⟨os, hos, hcs, hds⟩ := id hs
  have hTs : s.TypeIs (.ref sl) "slice" := ⟨os, hos, hcs⟩
  unfold getItem
  try with_reducible refine wpAny_holding ?_
  first | refine wpAny_bind (wpAny_pure ?_) | skip
  refine wpAny_bind (wpAny_sequenceKey ht.typeIs (by decide) (wpAny_bind (wpAny_callSpecial?_slot (name := Str.ofString "__getitem__") ht.typeIs PyProof.Rows.slot_tuple_getitem
    (wpAny_call_entry PyProof.Rows.slot_tuple_getitem ht.typeIs entry_tuple_getitem ?_ (args_tuple_getitem _ _)))))
  show wpAny _ _ (Builtin.Tuple.tupleItemsOf (.ref t) >>= _) _ _ s
  refine wpAny_bind (tupleItemsOf_ ht (wpAny_bind (wpAny_typeOf hTs ?_)))
  rw [if_pos (by decide)]
  refine wpAny_bind (applied_turned hs pl pu ps ?_)
  show wpAny _ _ (if (((items.size : Int) - 1) == 0 && (-1 : Int) == 1 && items.size == items.size) = true then _ else _) _ _ s
  rw [if_neg (by simp), turned_pick]
  first
    | exact wpAny_bind (m := Builtin.Tuple.tupleExact _) (wpAny_newObj_type (wpAny_pure ⟨_, rfl, wpAny_pure h⟩) fits)
    | exact wpAny_bind (m := Builtin.Tuple.tupleExact _) (wpAny_newObj_type (wpAny_bind (wpAny_pure (wpAny_pure ⟨_, rfl, wpAny_pure h⟩))) fits)
    | exact wpAny_bind (wpAny_bind (m := Builtin.Tuple.tupleExact _) (wpAny_newObj_type (wpAny_pure (wpAny_pure ⟨_, rfl, wpAny_pure h⟩)) fits))
    | exact wpAny_bind (wpAny_bind (m := Builtin.Tuple.tupleExact _) (wpAny_newObj_type (wpAny_pure ⟨_, rfl, wpAny_pure h⟩) fits))
end
def tRevT (K : PySem.W.Frag) (te : TE) : TE := fun σ H Q => te σ H fun x H1 => ∃ a xs, x = .ref a ∧ SqT K H1 a xs ∧ ∀ p, H1 p = none → Q (.ref p) (upd H1 p (.tup xs.reverse))
theorem pe_revT {X : Cx} {e : Expr} {te : TE} {k : Nat} {p1 p2 p3 pos : Pos} (he : PE X e te) : PE X (.Subscript e (.Slice none none (some (.UnaryOp .USub (.Constant (.int 1) k p1) p2)) p3) pos) (tRevT X.K te) := by
  refine ⟨fun pins s σ H Q I h => Subscript_ (thn (he.run pins s σ H _ I h) fun v s1 ⟨x, H1, I1, r1, a, xs, ex, hx, q⟩ => ?_)⟩
  subst ex
  cases r1
  have back : PO X (some (.UnaryOp .USub (.Constant (.int 1) k p1) p2)) (tPart (tUn (rU fun i => .int (-i)) (tC (.int 1)))) := po_some (pe_un un_neg pe_int)
  refine wpAny_Slice (thn (po_none.run pins s1 σ H1 (fun o H2 => o = none ∧ H2 = H1) I1 ⟨rfl, rfl⟩) fun vl s2 ⟨l, H2, I2, pl, el, e2⟩ => ?_)
  subst el e2
  refine thn (po_none.run pins s2 σ H2 (fun o H3 => o = none ∧ H3 = H2) I2 ⟨rfl, rfl⟩) fun vu s3 ⟨u, H3, I3, pu, eu, e3⟩ => ?_
  subst eu e3
  refine thn (back.run pins s3 σ H3 (fun o H4 => o = some (-1) ∧ H4 = H3) I3 ⟨1, rfl, -1, rfl, rfl, rfl⟩) fun vs s4 ⟨o, H4, I4, ps, eo, e4⟩ => ?_
  subst eo e4
  have I5 : Inv X pins σ H4 { s4 with heap := s4.heap.push { cls := .type "slice", data := .fields #[vl, vu, vs] } } := I4.kept (t' := s4.toks) fun b ob z => Heap.get?_push_of_some _ z
  obtain ⟨its, r, ht, hz⟩ := I5.tuple hx
  have hlen : its.length = xs.length := r.length.symm
  show wpAny (model X.prog X.w) X.A (subscriptTail e (.Slice none none (some (.UnaryOp .USub (.Constant (.int 1) k p1) p2)) p3) (.ref a) (.ref s4.heap.objs.size)) (EP X pins σ Q) X.xe { s4 with heap := s4.heap.push { cls := .type "slice", data := .fields #[vl, vu, vs] } }
  refine tail_any (ops := [.ref a, .ref s4.heap.objs.size]) ht.typeIs (PyProof.Rows.slot_tuple_getitem.lookup) ?_ (by with_unfolding_all rfl)
  refine tuple_turned ht (Heap.IsSliceOf.new _ vl vu vs) pl pu ps ?_ (by rw [List.size_toArray]; omega)
  refine ⟨.ref _, _, I5.laid (t' := s4.toks) (o := .tup xs.reverse) (fun b ob z => Heap.get?_push_of_some _ z) (Nat.le_refl _) ?_, rfl, q _ (I5.hok.fresh (Nat.le_refl _))⟩
  exact ⟨by rw [List.length_reverse]; exact hz, _, r.reverse, IsTup.new _ _⟩
theorem p_rev {G : Hp → Hp → Prop} {Ok : Addr → Prop} {K : PySem.W.Frag} (W : Way G Ok) {σ : L2.St} {H : Hp} {te : TE} {P : Th → Prop} (h : EvP G K te σ H fun t => ∃ ts, t = .tup ts ∧ P (.tup ts.reverse)) : EvP G K (tRevT K te) σ H P := fun H1 g Q q =>
  h H1 g _ fun v t H2 g2 hv ht => by
    obtain ⟨ts, rfl, hp⟩ := ht
    obtain ⟨a, xs, rfl, hs, ha⟩ := rp_tup hv
    exact ⟨a, xs, rfl, hs, fun p hn => q _ _ _ (W.trans g2 (W.ex (Ex.new hn))) (.tup (st_of upd_same) (ra_mono (Ex.new hn) (ra_rev ha))) hp⟩
end EX

set_option Elab.async false
set_option linter.all false
set_option maxRecDepth 100000
set_option maxHeartbeats 4000000
namespace TH
open PySem PySem.Spec PyProof.Rows L2 Evl DL GX YA EX TV

/-! ### pure things and their data -/
def okN : Nat → Th → Bool
  | 0, _ => false
  | _ + 1, .none => true
  | _ + 1, .bool _ => true
  | _ + 1, .int _ => true
  | _ + 1, .str s => PyData.strOk s
  | n + 1, .tup ts => decide (ts.length ≤ 20) && ts.all (okN n)
  | _ + 1, .odd _ => false
mutual
def thD : Th → PyData
  | .none => .none
  | .bool b => .bool b
  | .int i => .int i
  | .str s => .str s
  | .tup ts => .tuple (thDs ts)
  | .odd _ => .none
def thDs : List Th → List PyData
  | [] => []
  | t :: ts => thD t :: thDs ts
end
theorem dp_of {K : PySem.W.Frag} {H : Hp} : ∀ (n : Nat) {t : Th} {v : V}, okN n t = true → Rp K H v t → Dp K H v (thD t)
  | 0, _, _, h, _ => nomatch h
  | n + 1, t, v, h, hr => by
    cases hr with
    | non => exact .non
    | bl b => exact .bl b
    | int i => exact .int i
    | str s => exact .str s
    | @tup a xs ts hs ha =>
      have h2 : ts.all (okN n) = true := by
        have z : (decide (ts.length ≤ 20) && ts.all (okN n)) = true := h
        exact (Bool.and_eq_true_iff.mp z).2
      refine .tup hs ?_
      clear h hs
      induction ts generalizing xs with
      | nil => cases ha; exact .nil
      | cons t ts ih =>
        rw [List.all_cons, Bool.and_eq_true] at h2
        cases ha with
        | cons h1 hrest => exact .cons (dp_of n h2.1 h1) (ih hrest h2.2)
    | lst hs => nomatch h
    | dct hs => nomatch h
    | dctT hs => nomatch h
theorem lay_of : ∀ (n : Nat) {t : Th}, okN n t = true → PyData.canLay0 (thD t) = true ∧ (thD t).depth ≤ n
  | 0, _, h => nomatch h
  | n + 1, t, h => by
    cases t with
    | none => exact ⟨rfl, Nat.zero_le _⟩
    | bool b => exact ⟨rfl, Nat.zero_le _⟩
    | int i => exact ⟨rfl, Nat.zero_le _⟩
    | str s => exact ⟨h, Nat.zero_le _⟩
    | tup ts =>
      have h2 : ts.all (okN n) = true := by
        have z : (decide (ts.length ≤ 20) && ts.all (okN n)) = true := h
        exact (Bool.and_eq_true_iff.mp z).2
      have all : PyData.canLayAll0 (thDs ts) = true ∧ PyData.depthAll (thDs ts) ≤ n := by
        clear h
        induction ts with
        | nil => exact ⟨rfl, Nat.zero_le _⟩
        | cons t ts ih =>
          rw [List.all_cons, Bool.and_eq_true] at h2
          obtain ⟨a, b⟩ := lay_of n h2.1
          obtain ⟨c, d⟩ := ih h2.2
          refine ⟨?_, ?_⟩
          · show (PyData.canLay0 (thD t) && PyData.canLayAll0 (thDs ts)) = true
            rw [a, c]
            rfl
          · show max (thD t).depth (PyData.depthAll (thDs ts)) ≤ n
            omega
      exact ⟨all.1, Nat.succ_le_succ all.2⟩
    | odd o => nomatch h
theorem shaped_of {n : Nat} {t : Th} (h : okN n t = true) (hn : n ≤ 64) : SeqAt.shaped (thD t) = true := by
  obtain ⟨a, b⟩ := lay_of n h
  unfold SeqAt.shaped
  rw [a, decide_eq_true (show (thD t).depth ≤ 64 by omega)]
  rfl
/-! ### sum of a tuple of ints -/
def rSumT (K : PySem.W.Frag) : List V → Hp → VK → Prop := fun vs H Q => ∃ (a : Addr) (ns : List Int), vs = [V.ref a] ∧ SqT K H a (ns.map V.int) ∧ Q (.int ns.sum) H
theorem cr_sumT {X : Cx} (hc : X.calm = true) : CallR X (.builtin "sum") (rSumT X.K) := by
  intro pins s σ H vs us Q I rel h
  obtain ⟨a, ns, rfl, hs, q⟩ := h
  obtain ⟨its, rv, hT, _⟩ := I.tuple hs
  rw [Vals.ref1 rel]
  have hi : IntsAre its ns := rv.ints
  have hl : s.heap.IsTuple a its.toArray := hT
  obtain ⟨xs, e⟩ := hi.allInts.items
  have hn : numsOf (intItems xs).toList = ns := by
    rw [← e]
    exact hi.numsOf
  rw [nums_intItems] at hn
  rw [e] at hl
  refine PySem.W.ktm_sumG (I.ok.hd hc) hl fun h' tk t' hk => ?_
  rw [preSum_eq, List.take_of_length_le (by simp), hn]
  exact ⟨.int _, H, I.kept hk, ⟨_, rfl⟩, q⟩
/-! ### tests, steps -/
def EvTG (G : Hp → Hp → Prop) (tt : TT) (σ : L2.St) (H : Hp) (P : Bool → Prop) : Prop := ∀ H1, G H H1 → ∀ Q : Bool → Hp → Prop, (∀ b H2, G H1 H2 → P b → Q b H2) → tt σ H1 Q
section
variable {G : Hp → Hp → Prop} {Ok : Addr → Prop} {K : PySem.W.Frag} (W : Way G Ok) {σ : L2.St} {H H' : Hp} {te : TE} {P : Th → Prop} {t u : TT} {Pa Pb Pc : Bool → Prop} {v : V} {D : Ends} {tu tw tz : TS}
theorem tg_B (h : EvP G K te σ H fun t => ∃ b, t = .bool b ∧ Pa b) : EvTG G (tB te) σ H Pa := fun H1 g Q q => h H1 g _ fun v t H2 g2 hr hp => by
  obtain ⟨b, rfl, hb⟩ := hp
  cases hr
  exact ⟨b, rfl, q b H2 g2 hb⟩
theorem tg_T (h : EvP G K te σ H fun t => ∃ b, t = .bool b ∧ Pa b) : EvTG G (tTest te) σ H Pa := fun H1 g Q q => h H1 g _ fun v t H2 g2 hr hp => by
  obtain ⟨b, rfl, hb⟩ := hp
  cases hr
  exact ⟨b, rfl, q b H2 g2 hb⟩
include W
theorem tg_and (h1 : EvTG G t σ H Pa) (h2 : Pa true → EvTG G u σ H Pb) (k1 : ∀ b, Pa true → Pb b → Pc b) (k2 : Pa false → Pc false) : EvTG G (tAnd t u) σ H Pc := fun H1 g Q q => h1 H1 g _ fun b H2 g2 hb => by
  cases b with
  | true =>
    show u σ H2 Q
    exact h2 hb H2 (W.trans g g2) Q fun b H3 g3 hb3 => q b H3 (W.trans g2 g3) (k1 b hb hb3)
  | false => exact q false H2 g2 (k2 hb)
theorem q_whenG (h : EvTG G t σ H Pa) (h1 : ∀ H1, G H H1 → Pa true → tu { D with nx := tz D } σ H1) (h2 : ∀ H1, G H H1 → Pa false → tz D σ H1) : tSeq (tIfS t tu tNext) tz D σ H := h H (W.refl H) _ fun b H1 g hb => by
  cases b with
  | true => exact h1 H1 g hb
  | false => exact h2 H1 g hb
theorem q_asgP {i : Nat} (h : EvP G K te σ H P) (k : ∀ v t H1, G H H1 → Rp K H1 v t → P t → tz D (σ.set i (some v)) H1) : tSeq (tAsg te (gName i)) tz D σ H := h H (W.refl H) _ fun v t H1 g hr hp => k v t H1 g hr hp
theorem q_asgPL {i : Nat} {Ps : List Th → Prop} (h : EvPL G Ok K te σ H Ps) (k : ∀ l xs ts H1, G H H1 → Ok l → H1 l = some (.lst xs) → RpAll K H1 xs ts → Ps ts → tz D (σ.set i (some (.ref l))) H1) : tSeq (tAsg te (gName i)) tz D σ H := h H (W.refl H) _ fun l xs ts H1 g o hl hx hp => k l xs ts H1 g o hl hx hp
theorem s_retP (h : EvP G K te σ H P) (k : ∀ v t H1, G H H1 → Rp K H1 v t → P t → D.rt v H1) : tRet te D σ H := h H (W.refl H) _ fun v t H1 g hr hp => k v t H1 g hr hp
theorem pl_var {i : Nat} {l : Addr} {xs : List V} {ts : List Th} {Ps : List Th → Prop} (h : σ[i]? = some (some (.ref l))) (o : Ok l) (hl : H l = some (.lst xs)) (hx : RpAll K H xs ts) (hp : Ps ts) : EvPL G Ok K (tVar i) σ H Ps := fun H1 g Q q =>
  ⟨.ref l, h, q l xs ts H1 (W.refl _) o (W.kp g o hl) (ra_r (W.exr g) hx) hp⟩
theorem p_isi {C : String} (h : EvP G K te σ H fun t => P (.bool (isIn t C))) (hC : C ∈ ["int", "bool", "str", "tuple"]) : EvP G K (tCB (rIsi K) (tCons te (tCons (tC (.ty C)) tNil))) σ H P := fun H1 g Q q => h H1 g _ fun v t H2 g2 hr hp => by
  obtain ⟨h1, h2⟩ := rp_ty hr
  exact ⟨v, .ty C, .type t.ty, .type C, isIn t C, rfl, .ty _, h1, kit_ty (kit_in h2 hC), q _ _ H2 g2 (.bl _) hp⟩
theorem p_len (h : EvP G K te σ H fun t => ∃ ts, t = .tup ts ∧ P (.int (ts.length : Int))) : EvP G K (tCB (rLenS K) (tCons te tNil)) σ H P := fun H1 g Q q => h H1 g _ fun v t H2 g2 hr hp => by
  obtain ⟨ts, rfl, hp⟩ := hp
  obtain ⟨a, xs, rfl, hs, ha⟩ := rp_tup hr
  exact ⟨a, xs, rfl, .inr hs, by rw [ra_len ha]; exact q _ _ H2 g2 (.int _) hp⟩
omit W in
theorem rp_ne0 {n : Nat} {x : Th} (hx : okN n x = true) (hn : n ≤ 64) (hp : P (.bool (!PyData.eqv (thD x) (.tuple [])))) : RP K (rNeD K) x (.tup []) P := fun v w H hv hw Q q => by
  refine ⟨thD x, .tuple [], dp_of n hx hv, ?_, shaped_of hx hn, by decide +kernel, q _ _ H (Ex.refl H) (.bl _) hp⟩
  obtain ⟨a, xs, rfl, hs, ha⟩ := rp_tup hw
  cases ha
  exact .tup hs .nil
omit W in
theorem rp_gt {i j : Int} (hp : P (.bool (decide (i > j)))) : RP K (rI0 fun i j => .bl (decide (i > j))) (.int i) (.int j) P := fun v u H hv hu Q q => ⟨i, j, rp_int hv, rp_int hu, q _ _ H (Ex.refl H) (.bl _) hp⟩
end
end TH

set_option Elab.async false
set_option linter.all false
set_option maxRecDepth 100000
set_option maxHeartbeats 4000000
/-! sorted(d), d a dict whose keys are tuples of ints. -/
namespace DS
open PySem PySem.Spec PyProof.Rows L2 Evl DL GX
theorem key_ints : ∀ (ns : List Int), (ns.map (Sum.inl : Int → Key)).map kV = ns.map V.int
  | [] => rfl
  | n :: ns => by
    show kV (Sum.inl n) :: _ = _
    rw [key_ints ns]
    rfl
theorem inl_inj {as bs : List Int} (h : as.map (Sum.inl : Int → Key) = bs.map Sum.inl) : as = bs := by
  induction as generalizing bs with
  | nil => cases bs with
    | nil => rfl
    | cons b bs => cases h
  | cons a as ih => cases bs with
    | nil => cases h
    | cons b bs =>
      rw [List.map_cons, List.map_cons] at h
      injection h with h1 h2
      cases h1
      rw [ih h2]

def refA : Value → Addr
  | .ref a => a
  | _ => 0
def rSortDT (d : Nat) (B : Int) : List V → Hp → VK → Prop := fun vs H Q => ∃ (a : Addr) (kvs : List (List Key × V)), vs = [V.ref a] ∧ H a = some (.dT kvs) ∧ kvs.length < 64 ∧ (∀ p ∈ kvs, ∃ ns : List Int, p.1 = ns.map Sum.inl ∧ ns.length = d ∧ TS.Bd B ns) ∧
  ∀ (L : List (Addr × List Int)) (p : Addr), (L.map fun q => q.2.map (Sum.inl : Int → Key)).Perm (kvs.map (·.1)) → (L.map (·.2)).Nodup → (∀ q ∈ L, H q.1 = some (.tup (q.2.map V.int))) → L.Pairwise (fun q r => TS.code B q.2 ≤ TS.code B r.2) → H p = none → Q (.ref p) (upd H p (.lst (L.map fun q => V.ref q.1)))
theorem pick_keys {H : Hp} {d : Nat} {B : Int} : ∀ {kvs : List (List Key × V)} {xs : List (List Key × Addr × Value)}, Paired (fun (p : List Key × V) (q : List Key × Addr × Value) => p.1 = q.1 ∧ H q.2.1 = some (.tup (p.1.map kV)) ∧ RelV p.2 q.2.2) kvs xs → (∀ p ∈ kvs, ∃ ns : List Int, p.1 = ns.map Sum.inl ∧ ns.length = d ∧ TS.Bd B ns) →
    ∃ L : List (Addr × List Int), L.length = xs.length ∧ L.map (fun q => Value.ref q.1) = xs.map (fun x => Value.ref x.2.1) ∧ L.map (fun q => q.2.map (Sum.inl : Int → Key)) = kvs.map (·.1) ∧ L.map (fun q => q.2.map (Sum.inl : Int → Key)) = xs.map (·.1) ∧ (∀ q ∈ L, H q.1 = some (.tup (q.2.map V.int)) ∧ q.2.length = d ∧ TS.Bd B q.2)
  | _, _, .nil, _ => ⟨[], rfl, rfl, rfl, rfl, fun q hq => nomatch hq⟩
  | p :: ps, q :: qs, .cons h t, hk => by
    obtain ⟨L, l0, l1, l2, l3, l4⟩ := pick_keys t fun p hp => hk p (List.mem_cons_of_mem _ hp)
    obtain ⟨ns, e, h1, h2⟩ := hk p List.mem_cons_self
    refine ⟨(q.2.1, ns) :: L, by simp [l0], by simp [l1], by simp [l2, e], by simp [l3, ← h.1, e], fun r hr => ?_⟩
    rcases List.mem_cons.mp hr with z | z
    · rw [z]
      refine ⟨?_, h1, h2⟩
      have w := h.2.1
      rw [e, key_ints] at w
      exact w
    · exact l4 r z
theorem cr_sortDT {X : Cx} {d : Nat} {B : Int} (hd : 1 ≤ d) (hc : X.calm = true) : CallR X (.builtin "sorted") (rSortDT d B) := by
  intro pins s σ H vs us Q I r h
  obtain ⟨a, kvs, rfl, ha, h64, hk, q⟩ := h
  rw [Vals.ref1 r]
  obtain ⟨_, lo, xs, rel, o, es, ep, h1, h2, h3, h4, h5⟩ := (show ObjOk X.prog X.w H s.heap a (.dT kvs) from I.hok a _ ha)
  obtain ⟨L0, l0, l1, l2, l3, l4⟩ := pick_keys rel hk
  have hxl : xs.length = kvs.length := by
    have := congrArg List.length (l2.symm.trans l3)
    simpa using this.symm
  have hes : es.size = xs.length := by
    have := congrArg List.length h4
    simpa using this
  refine Calls.call_function_entry PyProof.Rows.kind_sorted PyProof.Rows.plain_sorted PyProof.Rows.entry_sorted (PyProof.Rows.args_sorted1 _) ?_
  unfold Builtin.«sorted»
  refine wpAny_bind (m := checkCount "sorted" 1 1 _) (wpAny_pure ?_)
  refine wpAny_bind (PySem.W.kdu_collect (A := X.A.in1) (KdlSrc.rawDict (es := es) (ep := ep) lo) (I.ok.hd hc) ⟨o, h1, h2, h3⟩ (by rw [hes, hxl, sizeLine_eq]; omega) fun h' tk acc hkp hacc => ?_)
  have hal : acc.toList.length = L0.length := by rw [Array.length_toList, hacc.1, hes, l0]
  have hacc2 : acc.toList = L0.map fun q => Value.ref q.1 := by
    rw [l1]
    refine List.ext_getElem? fun j => ?_
    cases e : acc.toList[j]? with
    | none =>
      have : acc.toList.length ≤ j := List.getElem?_eq_none_iff.mp e
      symm
      rw [List.getElem?_eq_none_iff, List.length_map]
      omega
    | some v =>
      obtain ⟨hi, ev⟩ := hacc.2 j v (by rw [← Array.getElem?_toList]; exact e)
      have e5 : es.toList[j]? = some es[j] := by rw [Array.getElem?_toList]; exact Array.getElem?_eq_getElem hi
      rw [h4, List.getElem?_map] at e5
      obtain ⟨x, hx, ex⟩ := Option.map_eq_some_iff.mp e5
      rw [List.getElem?_map, hx, ev, ← ex]
      rfl
  have I1 : Inv X pins σ H { s with heap := h', toks := tk } := I.kept hkp
  have hvl : acc.toList.length < 64 := by rw [hal, l0, hxl]; exact h64
  refine wpAny_bind (wpAny_newList ?_ (by rw [sizeLine_eq]; omega))
  have hoL : (h'.push (seqObj "list" acc.toList.toArray 0)).get? h'.objs.size = some (seqObj "list" acc.toList.toArray 0) := Heap.get?_push_size _ rfl
  show wpAny _ _ _ _ _ { s with heap := h'.push (seqObj "list" acc.toList.toArray 0), toks := tk }
  have tkI : ∀ q ∈ L0, TS.TupInts (h'.push (seqObj "list" acc.toList.toArray 0)) (.ref q.1) q.2 := fun q hq => by
    have J : Inv X pins σ H { s with heap := h'.push (seqObj "list" acc.toList.toArray 0), toks := tk } := I.kept fun b u e => Heap.get?_push_of_some _ (hkp b u e)
    exact tupI_raw J (st_of (l4 q hq).1)
  have x : TS.TupsOk (h'.push (seqObj "list" acc.toList.toArray 0)) d B acc.toList := fun v hv => by
    rw [hacc2] at hv
    obtain ⟨q, hq, e⟩ := List.mem_map.mp hv
    rw [← e]
    exact ⟨q.2, tkI q hq, (l4 q hq).2⟩
  refine wpAny_bind (wpAny_holding (TS.call_sort_tups (s := { s with heap := h'.push (seqObj "list" acc.toList.toArray 0), toks := tk }) hoL hvl hd x fun out a1 a2 => ?_))
  obtain ⟨c, hcc⟩ := sortedHeap_at (vs := acc.toList) (out := out) hoL
  generalize hh1 : h'.push (seqObj "list" acc.toList.toArray 0) = h1' at *
  have old : ∀ b u, s.heap.get? b = some u → (sortedHeap h1' h'.objs.size acc.toList out).get? b = some u := fun b u e => by
    have q := hkp b u e
    have hlt := Heap.lt_size q
    rw [sortedHeap_old (Nat.ne_of_lt hlt) (by rw [← hh1, size_push']; exact Nat.lt_succ_of_lt hlt), ← hh1]
    exact Heap.get?_push_of_some _ q
  have hpL : (out.toList.map fun v => (refA v, TS.intsOf h1' v)).Perm L0 := by
    have z := a1.map fun v => (refA v, TS.intsOf h1' v)
    rw [hacc2, List.map_map] at z
    refine z.trans (List.Perm.of_eq ?_)
    conv => rhs; rw [← List.map_id L0]
    refine List.map_congr_left fun q hq => ?_
    show (q.1, TS.intsOf h1' (.ref q.1)) = q
    rw [(tkI q hq).ints]
  generalize hL : (out.toList.map fun v => (refA v, TS.intsOf h1' v)) = L' at hpL
  have hout : out.toList = L'.map fun q => Value.ref q.1 := by
    rw [← hL, List.map_map]
    conv => lhs; rw [← List.map_id out.toList]
    refine List.map_congr_left fun v hv => ?_
    have hv2 := a1.mem_iff.mp hv
    rw [hacc2] at hv2
    obtain ⟨q, hq, e⟩ := List.mem_map.mp hv2
    rw [← e]
    rfl
  have hlen : (L'.map fun q => V.ref q.1).length ≤ sizeLine := by rw [List.length_map, hpL.length_eq, sizeLine_eq]; omega
  have hn : H h'.objs.size = none := I1.hok.fresh (Nat.le_refl _)
  have hv : Vals (L'.map fun q => V.ref q.1) out.toList := by rw [hout]; exact vals_of_refs L'
  have J : Inv X pins σ (upd H h'.objs.size (.lst (L'.map fun q => V.ref q.1))) { s with heap := sortedHeap h1' h'.objs.size acc.toList out, toks := tk } :=
    I.laidN (t' := tk) old (by
      cases e : s.heap.get? h'.objs.size with
      | none => rfl
      | some u => exact absurd (Heap.lt_size (hkp _ _ e)) (Nat.lt_irrefl _)) hn ⟨hlen, out.toList, c, hv, hcc⟩
  refine wpAny_pure ⟨_, rfl, .ref h'.objs.size, _, J, rfl, q L' _ ?_ ?_ (fun r hr => (l4 r (hpL.mem_iff.mp hr)).1) ?_ hn⟩
  · rw [← l2]
    exact hpL.map _
  · refine ((hpL.map (·.2)).nodup_iff).mpr ?_
    have nd : (L0.map fun q => q.2.map (Sum.inl : Int → Key)).Nodup := by rw [l3]; exact h5
    have nd2 : ((L0.map (·.2)).map fun ns => ns.map (Sum.inl : Int → Key)).Nodup := by rw [List.map_map]; exact nd
    exact (List.pairwise_map.mp nd2).imp fun h e => h (by rw [e])
  · rw [← hL]
    exact List.pairwise_map.mpr a2
end DS

set_option Elab.async false
set_option linter.all false
set_option maxRecDepth 100000
set_option maxHeartbeats 4000000
/-! What a yard is, of things of any kind. -/
namespace YT
open PySem PySem.Spec PyProof.Rows L2 Evl DL GX YA EX TH TV
def thLt : Th → Th → Bool
  | .int a, .int b => decide (a < b)
  | .tup as, .tup bs => HT.lexLt (as.map asInt) (bs.map asInt)
  | _, _ => false
def rising (ts : List Th) : Bool := (List.range ((ts.length : Int) - 1).toNat).all fun i => thLt (ts.getD i .none) (ts.getD (i + 1) .none)
def intTup (t : Th) : Bool := isTup t && (parts t).all isWhole
def cmpOk (ts : List Th) : Bool := (ts.all isWhole || ts.all intTup) && decide (ts.length ≤ 1000)
def isRow (t : Th) (full threads : Int) : Bool := isTupleOf t 2 2 && (isWithin ((parts t).getD 0 .none) 1 full && isWithin ((parts t).getD 1 .none) 0 (threads - 1))
def isRows (t : Th) (full threads : Int) : Bool := isTupleOf t 0 8 && ((parts t).all (fun p => isRow p full threads) && rising (parts t))
def isFrame (t : Th) : Bool := isTupleOf t 6 6 && match parts t with
  | [kind, threads, most, full, doff, rows] => isWithin kind 0 1 && (isWithin threads 1 4 && (isWithin most 0 (asInt threads - 1) && (isWithin full 1 30 && (isWithin doff 0 9 && isRows rows (asInt full) (asInt threads)))))
  | _ => false
def isFrames (t : Th) : Bool := isTupleOf t 1 4 && (parts t).all isFrame
def isWalk (t : Th) (at' many : Int) : Bool := isTupleOf t many many && ((parts t).all (fun p => isWithin p 0 9) && decide (asInt ((parts t).getD at'.toNat .none) = 0))
def isWalks (t : Th) (many : Int) : Bool := isTupleOf t many many && (nums (parts t)).all fun p => isWalk p.2 (p.1 : Int) many
def isPieces (t : Th) : Bool := isTupleOf t 2 2 && (parts t).all fun p => isWithin p 1 9
theorem row_tup {t : Th} {a b : Int} (h : isRow t a b = true) : intTup t = true := by
  unfold isRow at h
  rw [Bool.and_eq_true, Bool.and_eq_true] at h
  obtain ⟨us, rfl, l1, l2⟩ := tup_len h.1
  obtain ⟨x, y, rfl⟩ : ∃ x y, us = [x, y] := by
    match us, l1, l2 with
    | [x, y], _, _ => exact ⟨x, y, rfl⟩
    | [], h, _ => simp at h
    | [_], h, _ => simp at h
    | _ :: _ :: _ :: _, _, h => simp at h; omega
  obtain ⟨i, e1, _⟩ := int_within h.2.1
  obtain ⟨j, e2, _⟩ := int_within h.2.2
  have e1 : x = .int i := e1
  have e2 : y = .int j := e2
  subst e1
  subst e2
  rfl
theorem six_of {us : List Th} (l1 : (6 : Int) ≤ (us.length : Int)) (l2 : (us.length : Int) ≤ 6) : ∃ a b c d e f, us = [a, b, c, d, e, f] := by
  match us, l1, l2 with
  | [a, b, c, d, e, f], _, _ => exact ⟨a, b, c, d, e, f, rfl⟩
  | [], h, _ => simp at h
  | [_], h, _ => simp at h
  | [_, _], h, _ => simp at h
  | [_, _, _], h, _ => simp at h
  | [_, _, _, _], h, _ => simp at h
  | [_, _, _, _, _], h, _ => simp at h
  | _ :: _ :: _ :: _ :: _ :: _ :: _ :: _, _, h => simp at h; omega
def RUL : List V := [.str "near", .str "old", .str "sort"]
def strV : Th → V
  | .str s => .str s
  | _ => .non
def isRule (t : Th) : Bool := isIn t "str" && inV (strV t) RUL
def isNone : Th → Bool
  | .none => true
  | _ => false
def isMinds (t : Th) (many : Int) : Bool := isTupleOf t 1 many && ((parts t).all (fun p => isWithin p 0 (many - 1)) && rising (parts t))
def isHand (t : Th) (many : Int) : Bool := isTupleOf t 4 4 && match parts t with
  | [fr, mi, st, en] => (isWithin fr 0 (many - 1) && (isMinds mi many && isWithin st 0 (10 ^ 30))) && (isNone en || isWithin en (asInt st + 1) (10 ^ 30))
  | _ => false
def isHands (t : Th) (many : Int) : Bool := isTupleOf t 0 16 && (parts t).all fun p => isHand p many
/-- how many threads the frame has -/
def threadsOf (fs : List Th) (fr : Th) : Int := asInt ((parts (fs.getD (asInt fr).toNat .none)).getD 1 .none)
def isStray (t : Th) (fs : List Th) : Bool := isTupleOf t 3 3 && match parts t with
  | [fr, sp, th] => (isWithin fr 0 ((fs.length : Int) - 1) && isWithin sp 1 (10 ^ 30)) && isWithin th 0 (threadsOf fs fr - 1)
  | _ => false
def isStrays (t : Th) (fs : List Th) : Bool := isTupleOf t 0 16 && ((parts t).all (fun p => isStray p fs) && rising (parts t))
def isYard (t : Th) : Bool := isTupleOf t 6 6 && match parts t with
  | [fr, wa, pi, ru, ha, st] => isFrames fr && (isWalks wa ((parts fr).length : Int) && (isPieces pi && (isRule ru && (isHands ha ((parts fr).length : Int) && isStrays st (parts fr)))))
  | _ => false
theorem str_of {t : Th} (h : isIn t "str" = true) : ∃ s, t = .str s := by
  cases t with
  | str s => exact ⟨s, rfl⟩
  | odd o => cases o <;> cases h
  | _ => cases h
theorem stray_tup {t : Th} {fs : List Th} (h : isStray t fs = true) : intTup t = true := by
  unfold isStray at h
  rw [Bool.and_eq_true] at h
  obtain ⟨us, rfl, l1, l2⟩ := tup_len h.1
  obtain ⟨x, y, z, rfl⟩ : ∃ x y z, us = [x, y, z] := by
    match us, l1, l2 with
    | [x, y, z], _, _ => exact ⟨x, y, z, rfl⟩
    | [], h, _ => simp at h
    | [_], h, _ => simp at h
    | [_, _], h, _ => simp at h
    | _ :: _ :: _ :: _ :: _, _, h => simp at h; omega
  have h2 : ((isWithin x 0 ((fs.length : Int) - 1) && isWithin y 1 (10 ^ 30)) && isWithin z 0 (threadsOf fs x - 1)) = true := h.2
  rw [Bool.and_eq_true, Bool.and_eq_true] at h2
  obtain ⟨i, rfl, _⟩ := int_within h2.1.1
  obtain ⟨j, rfl, _⟩ := int_within h2.1.2
  obtain ⟨k, rfl, _⟩ := int_within h2.2
  rfl
/-- a frame's threads are told by a number -/
theorem frame_threads {t : Th} (h : isFrame t = true) : ∃ us th, t = .tup us ∧ us[1]? = some (.int th) := by
  unfold isFrame at h
  rw [Bool.and_eq_true] at h
  obtain ⟨us, rfl, l1, l2⟩ := tup_len h.1
  obtain ⟨k1, k2, k3, k4, k5, k6, rfl⟩ := six_of l1 l2
  have h2 : (isWithin k1 0 1 && (isWithin k2 1 4 && (isWithin k3 0 (asInt k2 - 1) && (isWithin k4 1 30 && (isWithin k5 0 9 && isRows k6 (asInt k4) (asInt k2)))))) = true := h.2
  rw [Bool.and_eq_true, Bool.and_eq_true] at h2
  obtain ⟨th, rfl, _⟩ := int_within h2.2.1
  exact ⟨_, th, rfl, rfl⟩
end YT

set_option Elab.async false
set_option linter.all false
set_option maxRecDepth 100000
set_option maxHeartbeats 4000000
/-! Keys in their order; lists of things with a test; a dict beside the pool. -/
namespace YT
open PySem PySem.Spec PyProof.Rows L2 Evl DL GX YA EX TH TV DS
theorem code_bd {B : Int} : ∀ {ns : List Int}, TS.Bd B ns → 0 < B → 0 ≤ TS.code B ns ∧ TS.code B ns < B ^ ns.length
  | [], _, hB => by
    have e1 : TS.code B [] = 0 := by unfold TS.code; rfl
    have e2 : B ^ ([] : List Int).length = 1 := Int.pow_zero B
    rw [e1, e2]
    decide
  | x :: xs, h, hB => by
    obtain ⟨h1, h2⟩ := code_bd (ns := xs) (fun y hy => h y (List.mem_cons_of_mem _ hy)) hB
    obtain ⟨x0, x1⟩ := h x List.mem_cons_self
    have hp : (0 : Int) < B ^ xs.length := Int.pow_pos hB
    have e : B ^ (x :: xs).length = B ^ xs.length * B := Int.pow_succ ..
    show 0 ≤ x * B ^ xs.length + TS.code B xs ∧ x * B ^ xs.length + TS.code B xs < B ^ (x :: xs).length
    rw [e]
    have a1 : 0 ≤ x * B ^ xs.length := Int.mul_nonneg x0 (by omega)
    have a2 : x * B ^ xs.length ≤ (B - 1) * B ^ xs.length := Int.mul_le_mul_of_nonneg_right (by omega) (by omega)
    have a3 : (B - 1) * B ^ xs.length = B ^ xs.length * B - B ^ xs.length := by rw [Int.sub_mul, Int.one_mul, Int.mul_comm]
    omega
/-- by the code is by the tuples' order -/
theorem code_lex {B : Int} (hB : 0 < B) : ∀ {xs ys : List Int}, xs.length = ys.length → TS.Bd B xs → TS.Bd B ys → TS.code B xs ≤ TS.code B ys → xs ≠ ys → HT.lexLt xs ys = true
  | [], [], _, _, _, _, hn => absurd rfl hn
  | x :: xs, y :: ys, hl, hx, hy, hc, hn => by
    have hl' : xs.length = ys.length := by simpa using hl
    have bx : TS.Bd B xs := fun z hz => hx z (List.mem_cons_of_mem _ hz)
    have by' : TS.Bd B ys := fun z hz => hy z (List.mem_cons_of_mem _ hz)
    have cx := code_bd bx hB
    have cy := code_bd by' hB
    have hc : x * B ^ xs.length + TS.code B xs ≤ y * B ^ ys.length + TS.code B ys := hc
    rw [← hl'] at hc cy
    rw [HT.lexLt_cons]
    by_cases e : x = y
    · rw [if_pos e]
      subst e
      exact code_lex hB hl' bx by' (by omega) fun z => hn (by rw [z])
    · rw [if_neg e]
      refine decide_eq_true ?_
      rcases Int.lt_trichotomy x y with c | c | c
      · exact c
      · exact absurd c e
      · exfalso
        have a : (y + 1) * B ^ xs.length ≤ x * B ^ xs.length := Int.mul_le_mul_of_nonneg_right (by omega) (by have hq : (0 : Int) < B ^ xs.length := Int.pow_pos hB; omega)
        rw [Int.add_mul, Int.one_mul] at a
        omega
def tupI (ns : List Int) : Th := .tup (ns.map Th.int)
theorem asInt_ints (ns : List Int) : (ns.map Th.int).map asInt = ns := by
  rw [List.map_map]
  conv => rhs; rw [← List.map_id ns]
  rfl
theorem rise_of {L : List (List Int)} {d : Nat} {B : Int} (hB : 0 < B) (hd : ∀ ns ∈ L, ns.length = d ∧ TS.Bd B ns) (nd : L.Nodup) (hs : L.Pairwise fun q r => TS.code B q ≤ TS.code B r) : rising (L.map tupI) = true := by
  unfold rising
  refine List.all_eq_true.mpr fun i hi => ?_
  have hi2 : i < ((L.map tupI).length : Int) - 1 := by
    have := List.mem_range.mp hi
    omega
  rw [List.length_map] at hi2
  have h1 : i < L.length := by omega
  have h2 : i + 1 < L.length := by omega
  have e1 : (L.map tupI).getD i .none = tupI L[i] := by rw [List.getD_eq_getElem?_getD, List.getElem?_map, List.getElem?_eq_getElem h1]; rfl
  have e2 : (L.map tupI).getD (i + 1) .none = tupI L[i + 1] := by rw [List.getD_eq_getElem?_getD, List.getElem?_map, List.getElem?_eq_getElem h2]; rfl
  rw [e1, e2]
  show HT.lexLt ((L[i].map Th.int).map asInt) ((L[i + 1].map Th.int).map asInt) = true
  rw [asInt_ints, asInt_ints]
  have m1 := hd _ (List.getElem_mem h1)
  have m2 := hd _ (List.getElem_mem h2)
  refine code_lex hB (by rw [m1.1, m2.1]) m1.2 m2.2 (List.pairwise_iff_getElem.mp hs i (i + 1) h1 h2 (by omega)) fun z => ?_
  exact absurd z (List.pairwise_iff_getElem.mp nd i (i + 1) h1 h2 (by omega))
section
variable {G : Hp → Hp → Prop} {Ok : Addr → Prop} {K : PySem.W.Frag} (W : Way G Ok) {σ : L2.St} {H : Hp} {te : TE} {tt : TT} {wi : TI} {g : TG}
include W
/-- [e for x in it if c], of things: those of some of the items, in their order -/
theorem pl_lcF {α : Type} {S : Hp → V → α → Prop} {vs : List Nat} {as : List α} (Pe : α → Th → Prop) (fr : Fr G Ok H) (hw : EvWG G S wi σ H as) (hz : as.length ≤ 40000)
    (hs : ∀ (i : Nat) (d : α) (x : V) (H1 : Hp), G H H1 → as[i]? = some d → S H1 x d → ∃ σ2, TgD g x (wipe σ vs) H1 σ2 ∧ wipe σ2 vs = wipe σ vs ∧ EvTG G tt σ2 H1 (fun _ => True) ∧ ∀ H2, G H1 H2 → EvP G K te σ2 H2 (Pe d)) :
    EvPL G Ok K (tLc wi g tt te vs) σ H (fun ts => ∃ bs : List α, bs.Sublist as ∧ ts.length = bs.length ∧ ∀ (j : Nat) (t : Th) (d : α), ts[j]? = some t → bs[j]? = some d → Pe d t) := fun H0 g0 Q q => hw H0 g0 _ fun J H1 g1 wk D hD => by
  obtain ⟨Gd, Y, wlk, hG, hY⟩ := wk
  have oD : Ok D := fr H1 D (W.trans g0 g1) hD
  refine lc_it (σ := σ) wlk (fun i H' => G H1 H' ∧ ∃ xs ts bs, H' D = some (.lst xs) ∧ RpAll K H' xs ts ∧ bs.Sublist (as.take i) ∧ ts.length = bs.length ∧ ∀ (j : Nat) (t : Th) (d : α), ts[j]? = some t → bs[j]? = some d → Pe d t)
    ⟨W.ex (Ex.new hD), [], [], [], upd_same, .nil, by simp, rfl, fun j t d h => by simp at h⟩ (fun i H' _ p => hG H' p.1) (fun i x H2 H3 hi p y => ?_) (fun H' p => ?_)
  · obtain ⟨gi, xs, ts, bs, hx, ha, hsub, hl, hp⟩ := p
    obtain ⟨gy, d, hd, hS⟩ := hY i H2 x H3 gi y
    obtain ⟨σ2, tg, hwp, ht, he⟩ := hs i d x H3 (W.trans (W.trans g0 g1) (W.trans gi gy)) hd hS
    have tk : as.take (i + 1) = as.take i ++ [d] := by rw [List.take_add_one, hd]; rfl
    refine tg H3 (Ex.refl H3) _ ⟨hwp, ht H3 (W.refl H3) _ fun b H4 g4 _ => ?_⟩
    cases b with
    | true =>
      show te σ2 H4 _
      refine he H4 g4 H4 (W.refl H4) _ fun v t H5 g5 hv ht => ?_
      have g35 := W.trans gy (W.trans g4 g5)
      have xD : H5 D = some (.lst xs) := W.kp g35 oD hx
      have hxl : xs.length ≤ i := by
        rw [ra_len ha, hl]
        have := hsub.length_le
        rw [List.length_take] at this
        omega
      refine ⟨xs, xD, sz_lt (by omega), W.put (W.trans gi g35) hD xD, xs ++ [v], ts ++ [t], bs ++ [d], upd_same, ra_r (exr_upd xD) (ra_app (ra_r (W.exr g35) ha) (.cons hv .nil)), by rw [tk]; exact hsub.append (List.Sublist.refl _), by rw [List.length_append, List.length_append, hl]; rfl, fun j t' d' h1 h2 => ?_⟩
      by_cases hj : j < ts.length
      · rw [List.getElem?_append_left hj] at h1
        rw [List.getElem?_append_left (by omega)] at h2
        exact hp j t' d' h1 h2
      · rw [List.getElem?_append_right (by omega)] at h1
        rw [List.getElem?_append_right (by omega)] at h2
        have hj2 : j - ts.length = 0 := by
          cases hh : j - ts.length with
          | zero => rfl
          | succ m => rw [hh] at h1; simp at h1
        rw [hj2] at h1
        rw [← hl, hj2] at h2
        simp at h1 h2
        rw [← h1, ← h2]
        exact ht
    | false =>
      show G H1 H4 ∧ _
      have g34 := W.trans gy g4
      refine ⟨W.trans gi g34, xs, ts, bs, W.kp g34 oD hx, ra_r (W.exr g34) ha, by rw [tk]; exact hsub.trans (List.sublist_append_left _ _), hl, hp⟩
  · obtain ⟨gi, xs, ts, bs, hx, ha, hsub, hl, hp⟩ := p
    rw [List.take_of_length_le (Nat.le_refl _)] at hsub
    exact q D xs ts H' (W.trans g1 gi) oD hx ha ⟨bs, hsub, hl, hp⟩
end
end YT

set_option Elab.async false
set_option linter.all false
set_option maxRecDepth 100000
set_option maxHeartbeats 4000000
/-! A tuple beside the empty one; range(1, n); things that aren't too wide. -/
namespace YT
open PySem PySem.Spec PyProof.Rows L2 Evl DL GX YA EX TH TV DS
/-- t == (), whatever stands in t -/
def rEqT0 (K : PySem.W.Frag) : R2 := fun x y H Q => ∃ a b xs, x = .ref a ∧ y = .ref b ∧ SqT K H a xs ∧ SqT K H b [] ∧ Q (.bl xs.isEmpty) H
theorem op_eqT0 {X : Cx} (hu : X.A.units + 64 < cLine) : OpR X (compareOp .Eq) (rEqT0 X.K) := by
  intro pins s σ H x y v u Q I rx ry h
  obtain ⟨a, b, xs, rfl, rfl, ha, hb, q⟩ := h
  cases rx
  cases ry
  obtain ⟨its, r1, p1, _⟩ := I.tuple ha
  obtain ⟨its2, r2, p2, _⟩ := I.tuple hb
  cases r2
  have p1' : s.heap.IsTuple a its.toArray := p1
  have p2' : s.heap.IsTuple b #[] := p2
  refine PySem.SeqAt.eq_tupleAt (e := fun _ => true) p1' p2' (by omega) (fun j h1 h2 => by simp at h2) ⟨.bl xs.isEmpty, H, I, ?_, q⟩
  cases r1 with
  | nil => rfl
  | cons _ _ => rfl
section
variable {K : PySem.W.Frag} {σ : L2.St} {H : Hp} {ta tb : TE} {v : V}
theorem ev_eqT0 {ts : List Th} (ha : Ev ta σ H v) (hr : Rp K H v (.tup ts)) : Ev (tOp (rEqT0 K) ta (tTup tNil)) σ H (.bl ts.isEmpty) := fun H1 e Q q => ha H1 e _ fun H2 e2 => by
  refine ⟨Nat.zero_le _, fun t ht => ?_⟩
  have e3 := e2.trans (Ex.new (o := .tup []) ht)
  obtain ⟨a, xs, rfl, hs, hx⟩ := rp_tup (rp_mono (e.trans e3) hr)
  refine ⟨a, t, xs, rfl, rfl, hs, st_of upd_same, ?_⟩
  have : xs.isEmpty = ts.isEmpty := by
    cases hx with
    | nil => rfl
    | cons _ _ => rfl
  rw [this]
  exact q _ e3
/-- range(1, n) -/
theorem ewr_rng1 {n : Nat} (hn : n ≤ 100000) (h : Ev tb σ H (.int (n : Int))) : EvWR (fun _ x (i : Nat) => x = .int ((i : Int) + 1)) (iRng2 (tCons (tC (.int 1)) (tCons tb tNil))) σ H (List.range ((n : Int) - 1).toNat) := fun H1 e R q => h H1 e _ fun H2 e2 => by
  refine ⟨1, (n : Int), rfl, ⟨by decide, by decide, by omega, by omega⟩, q _ H2 e2 ⟨fun _ => True, fun i H x H' => H' = H ∧ x = .int ((1 : Int) + (i : Nat)) ∧ i < ((n : Int) - 1).toNat, ?_, fun H3 _ => trivial, fun i H3 x H4 e3 y => ?_⟩⟩
  · rw [List.length_range]
    exact ⟨fun _ _ hi _ => hi, fun _ _ => Nat.le_refl _, fun _ _ _ _ hi _ y => ⟨y.1, y.2, hi⟩⟩
  · obtain ⟨rfl, rfl, hi⟩ := y
    exact ⟨Ex.refl _, i, List.getElem?_range hi, by rw [Int.add_comm]⟩
end
mutual
/-- no tuple in it has more than a thousand parts -/
def thin : Th → Bool
  | .tup ts => decide (ts.length ≤ 1000) && thins ts
  | _ => true
def thins : List Th → Bool
  | [] => true
  | t :: ts => thin t && thins ts
end
theorem thins_all : ∀ {ts : List Th}, thins ts = true ↔ ∀ t ∈ ts, thin t = true
  | [] => ⟨fun _ t h => (nomatch h), fun _ => rfl⟩
  | t :: ts => by
    show (thin t && thins ts) = true ↔ _
    rw [Bool.and_eq_true, thins_all]
    constructor
    · rintro ⟨a, b⟩ u hu
      rcases List.mem_cons.mp hu with z | z
      · rw [z]
        exact a
      · exact b u z
    · intro h
      exact ⟨h t List.mem_cons_self, fun u hu => h u (List.mem_cons_of_mem _ hu)⟩
theorem thin_tup {ts : List Th} (h : thin (.tup ts) = true) : ts.length ≤ 1000 ∧ ∀ t ∈ ts, thin t = true := by
  have z : (decide (ts.length ≤ 1000) && thins ts) = true := h
  rw [Bool.and_eq_true] at z
  exact ⟨of_decide_eq_true z.1, thins_all.mp z.2⟩
theorem thin_of {ts : List Th} (h1 : ts.length ≤ 1000) (h2 : ∀ t ∈ ts, thin t = true) : thin (.tup ts) = true := by
  show (decide (ts.length ≤ 1000) && thins ts) = true
  rw [decide_eq_true h1, thins_all.mpr h2]
  rfl
def rLtB (K : PySem.W.Frag) : R2 := fun x y H Q => rI0 (fun i j => .bl (decide (i < j))) x y H Q ∨ rLtT K x y H Q
theorem op_ltB {X : Cx} (hu : X.A.units < cLine) : OpR X (compareOp .Lt) (rLtB X.K) := OpR.or op_lt (op_ltT hu)
def fRising : List Th → Option Bool
  | [.tup ts] => if cmpOk ts = true then some (rising ts) else none
  | _ => none
theorem fRising_is {ts : List Th} {b : Bool} (h : fRising ts = some b) : ∃ us, ts = [.tup us] ∧ cmpOk us = true ∧ b = rising us := by
  unfold fRising at h
  split at h
  · split at h
    · rename_i us hc
      exact ⟨us, rfl, hc, (Option.some.inj h).symm⟩
    · cases h
  · cases h
section
variable {K : PySem.W.Frag}
theorem ra_intsW {H : Hp} : ∀ {us : List Th} {xs : List V}, us.all isWhole = true → RpAll K H xs us → xs = (us.map asInt).map V.int
  | [], _, _, h => by cases h; rfl
  | u :: us, _, ha, h => by
    rw [List.all_cons, Bool.and_eq_true] at ha
    cases h with
    | cons h1 h2 =>
      obtain ⟨i, rfl⟩ := int_of ha.1
      rw [rp_int h1, ra_intsW ha.2 h2]
      rfl
theorem rv_ltB {H : Hp} {x y : V} {t u : Th} (ht : Rp K H x t) (hu : Rp K H y u) (hk : (isWhole t = true ∧ isWhole u = true) ∨ (intTup t = true ∧ intTup u = true)) : RV (rLtB K) x y H (.bl (thLt t u)) := fun H1 e Q q => by
  rcases hk with ⟨h1, h2⟩ | ⟨h1, h2⟩
  · obtain ⟨i, rfl⟩ := int_of h1
    obtain ⟨j, rfl⟩ := int_of h2
    exact .inl ⟨i, j, rp_int ht, rp_int hu, q H1 (Ex.refl H1)⟩
  · unfold intTup at h1 h2
    rw [Bool.and_eq_true] at h1 h2
    obtain ⟨as, rfl⟩ := tup_of h1.1
    obtain ⟨bs, rfl⟩ := tup_of h2.1
    obtain ⟨a, xs, rfl, hs, ha⟩ := rp_tup (rp_mono e ht)
    obtain ⟨b, ys, rfl, ks, hb⟩ := rp_tup (rp_mono e hu)
    rw [ra_intsW h1.2 ha] at hs
    rw [ra_intsW h2.2 hb] at ks
    exact .inr ⟨a, b, _, _, rfl, rfl, hs, ks, q H1 (Ex.refl H1)⟩
theorem ix_of {H : Hp} {v : V} {ts : List Th} {j : Nat} {t : Th} {i : Int} (hv : Rp K H v (.tup ts)) (hj : ts[j]? = some t) (hi : i = (j : Int)) : ∃ u, Rp K H u t ∧ RV (rIxT K) v (.int i) H u := by
  obtain ⟨a, xs, rfl, hs, ha⟩ := rp_tup hv
  obtain ⟨u, hu, hr⟩ := ra_at ha hj
  subst hi
  exact ⟨u, hr, rv_ixT hs (atI_nat hu)⟩
end
/-- rising whole numbers from 0 to m - 1 are m at most -/
theorem rise_len {ws : List Th} {m : Int} (hm : (ws.all fun p => isWithin p 0 (m - 1)) = true) (hr : rising ws = true) (hne : 0 < ws.length) : (ws.length : Int) ≤ m := by
  have at' : ∀ (i : Nat) (h : i < ws.length), ∃ n : Int, ws[i] = .int n ∧ (i : Int) ≤ n ∧ n ≤ m - 1 := by
    intro i
    induction i with
    | zero =>
      intro h
      obtain ⟨n, e, h0, h1⟩ := int_within (List.all_eq_true.mp hm _ (List.getElem_mem h))
      exact ⟨n, e, by simpa using h0, h1⟩
    | succ i ih =>
      intro h
      obtain ⟨n, e, h0, h1⟩ := ih (by omega)
      obtain ⟨k, e', k0, k1⟩ := int_within (List.all_eq_true.mp hm _ (List.getElem_mem h))
      refine ⟨k, e', ?_, k1⟩
      unfold rising at hr
      have z := List.all_eq_true.mp hr i (List.mem_range.mpr (by omega))
      have g1 : ws.getD i .none = .int n := by rw [List.getD_eq_getElem?_getD, List.getElem?_eq_getElem (show i < ws.length by omega), e]; rfl
      have g2 : ws.getD (i + 1) .none = .int k := by rw [List.getD_eq_getElem?_getD, List.getElem?_eq_getElem h, e']; rfl
      rw [g1, g2] at z
      have : n < k := of_decide_eq_true z
      omega
  obtain ⟨k, _, k0, k1⟩ := at' (ws.length - 1) (by omega)
  omega
end YT

set_option linter.all false
/-! Doffings and their doffers: the greedy plan, by numbers alone. -/
namespace EM
abbrev Dof := Int × Int × Int
def goesOn (b : Int) (d : Dof) : Bool := decide (d.1 ≤ b) && decide (b ≤ d.2.1)
def dAt (ds : List Dof) (k : Nat) : Dof := ds.getD k (0, 0, 0)
def going (ds : List Dof) (b : Int) : List Nat := (List.range ds.length).filter fun k => goesOn b (dAt ds k)
def busy (ds : List Dof) (plan : List Nat) (k : Nat) : List Nat := ((going ds (dAt ds k).1).filter fun j => decide (j < k)).map fun j => plan.getD j 0
def free (ds : List Dof) (plan : List Nat) (k : Nat) : List Nat := (List.range ds.length).filter fun d => !(busy ds plan k).contains d
def planN (ds : List Dof) : Nat → List Nat
  | 0 => []
  | k + 1 => planN ds k ++ [(free ds (planN ds k) k).headD 0]
def pk (ds : List Dof) (k : Nat) : Nat := (free ds (planN ds k) k).headD 0
structure Ord (ds : List Dof) : Prop where
  ord : ∀ i j, i ≤ j → j < ds.length → (dAt ds i).1 ≤ (dAt ds j).1
  up : ∀ k, k < ds.length → (dAt ds k).1 ≤ (dAt ds k).2.1
theorem planN_len (ds : List Dof) : ∀ k, (planN ds k).length = k
  | 0 => rfl
  | k + 1 => by
    show (planN ds k ++ [_]).length = k + 1
    rw [List.length_append, planN_len ds k]
    rfl
theorem planN_get (ds : List Dof) : ∀ {k j : Nat}, j < k → (planN ds k)[j]? = some (pk ds j)
  | 0, j, h => absurd h (Nat.not_lt_zero _)
  | k + 1, j, h => by
    show (planN ds k ++ [pk ds k])[j]? = _
    by_cases hj : j < k
    · rw [List.getElem?_append_left (by rw [planN_len]; exact hj)]
      exact planN_get ds hj
    · have e : j = k := by omega
      subst e
      rw [List.getElem?_append_right (by rw [planN_len]; exact Nat.le_refl _), planN_len, Nat.sub_self]
      rfl
theorem planN_getD (ds : List Dof) {k j : Nat} (h : j < k) : (planN ds k).getD j 0 = pk ds j := by
  rw [List.getD_eq_getElem?_getD, planN_get ds h]
  rfl
theorem planN_map (ds : List Dof) (k : Nat) : planN ds k = (List.range k).map (pk ds) := by
  apply List.ext_getElem?
  intro j
  by_cases h : j < k
  · rw [planN_get ds h, List.getElem?_map, List.getElem?_range h]
    rfl
  · rw [List.getElem?_eq_none (by rw [planN_len]; omega), List.getElem?_eq_none (by rw [List.length_map, List.length_range]; omega)]
/-- a pigeonhole -/
theorem holes : ∀ {l m : List Nat}, l.Nodup → (∀ x ∈ l, x ∈ m) → l.length ≤ m.length
  | [], _, _, _ => Nat.zero_le _
  | x :: l, m, nd, h => by
    have hx : x ∈ m := h x List.mem_cons_self
    have nd' := List.nodup_cons.mp nd
    have h2 : ∀ y ∈ l, y ∈ m.erase x := fun y hy => by
      have hne : y ≠ x := fun e => nd'.1 (e ▸ hy)
      exact (List.mem_erase_of_ne hne).mpr (h y (List.mem_cons_of_mem _ hy))
    have h3 := holes nd'.2 h2
    rw [List.length_erase_of_mem hx] at h3
    have h4 : 0 < m.length := List.length_pos_of_mem hx
    rw [List.length_cons]
    omega
theorem mem_going {ds : List Dof} {b : Int} {k : Nat} : k ∈ going ds b ↔ k < ds.length ∧ (dAt ds k).1 ≤ b ∧ b ≤ (dAt ds k).2.1 := by
  unfold going goesOn
  rw [List.mem_filter, List.mem_range, Bool.and_eq_true, decide_eq_true_eq, decide_eq_true_eq]
theorem going_nodup (ds : List Dof) (b : Int) : (going ds b).Nodup := List.nodup_range.filter _
theorem going_le (ds : List Dof) (b : Int) : (going ds b).length ≤ ds.length := by
  have h := List.length_filter_le (fun k => goesOn b (dAt ds k)) (List.range ds.length)
  rw [List.length_range] at h
  exact h
theorem self_going {ds : List Dof} (o : Ord ds) {k : Nat} (h : k < ds.length) : k ∈ going ds (dAt ds k).1 := mem_going.mpr ⟨h, Int.le_refl _, o.up k h⟩
theorem filt_lt {α : Type} {p : α → Bool} {x : α} : ∀ {l : List α}, x ∈ l → p x = false → (l.filter p).length < l.length
  | [], h, _ => nomatch h
  | y :: l, h, hp => by
    rcases List.mem_cons.mp h with e | h
    · subst e
      rw [List.filter_cons, if_neg (by rw [hp]; decide), List.length_cons]
      exact Nat.lt_succ_of_le (List.length_filter_le p l)
    · have ih := filt_lt h hp
      rw [List.filter_cons, List.length_cons]
      split
      · rw [List.length_cons]
        omega
      · omega
theorem busy_lt {ds : List Dof} (o : Ord ds) {k : Nat} (h : k < ds.length) (plan : List Nat) : (busy ds plan k).length < (going ds (dAt ds k).1).length := by
  unfold busy
  rw [List.length_map]
  exact filt_lt (self_going o h) (decide_eq_false (Nat.lt_irrefl k))
theorem free_ne {ds : List Dof} (o : Ord ds) {k : Nat} (h : k < ds.length) (plan : List Nat) : free ds plan k ≠ [] := fun e => by
  have h1 : ∀ d ∈ List.range ds.length, d ∈ busy ds plan k := fun d hd => by
    have h2 : d ∉ free ds plan k := by rw [e]; exact fun z => nomatch z
    unfold free at h2
    rw [List.mem_filter] at h2
    by_cases hc : (busy ds plan k).contains d = true
    · exact List.contains_iff_mem.mp hc
    · exact absurd ⟨hd, by rw [Bool.not_eq_true] at hc; rw [hc]; rfl⟩ h2
  have h3 := holes List.nodup_range h1
  rw [List.length_range] at h3
  have h4 := busy_lt o h plan
  have h5 := going_le ds (dAt ds k).1
  omega
theorem head_mem {α : Type} {x : α} : ∀ {l : List α}, l ≠ [] → l.headD x ∈ l
  | [], h => absurd rfl h
  | y :: l, _ => List.mem_cons_self
theorem pk_free {ds : List Dof} (o : Ord ds) {k : Nat} (h : k < ds.length) : pk ds k ∈ free ds (planN ds k) k := head_mem (free_ne o h _)
theorem head_least {p : Nat → Bool} {n m : Nat} {rest : List Nat} (e : (List.range n).filter p = m :: rest) : ∀ j, j < m → p j = false := fun j hj => by
  have hp : ((List.range n).filter p).Pairwise (· < ·) := List.pairwise_lt_range.filter p
  rw [e, List.pairwise_cons] at hp
  have hm : m ∈ (List.range n).filter p := by rw [e]; exact List.mem_cons_self
  have hmn : m < n := List.mem_range.mp (List.mem_filter.mp hm).1
  cases hpj : p j with
  | false => rfl
  | true =>
    have hmem : j ∈ (List.range n).filter p := List.mem_filter.mpr ⟨List.mem_range.mpr (by omega), hpj⟩
    rw [e] at hmem
    rcases List.mem_cons.mp hmem with z | z
    · omega
    · have := hp.1 j z
      omega
theorem pk_le {ds : List Dof} (o : Ord ds) {k : Nat} (h : k < ds.length) : pk ds k ≤ (busy ds (planN ds k) k).length := by
  cases e : free ds (planN ds k) k with
  | nil => exact absurd e (free_ne o h _)
  | cons m rest =>
    have e2 : pk ds k = m := by unfold pk; rw [e]; rfl
    rw [e2]
    have h1 : ∀ d ∈ List.range m, d ∈ busy ds (planN ds k) k := fun d hd => by
      have z := head_least e d (List.mem_range.mp hd)
      simp only [Bool.not_eq_false'] at z
      exact List.contains_iff_mem.mp z
    have h2 := holes List.nodup_range h1
    rw [List.length_range] at h2
    exact h2
theorem pk_lt {ds : List Dof} (o : Ord ds) {k : Nat} (h : k < ds.length) : pk ds k < (going ds (dAt ds k).1).length := Nat.lt_of_le_of_lt (pk_le o h) (busy_lt o h _)
theorem sep {ds : List Dof} (o : Ord ds) {i k : Nat} (hik : i < k) (h : k < ds.length) (hi : i ∈ going ds (dAt ds k).1) : pk ds i ≠ pk ds k := fun e => by
  have h1 : pk ds i ∈ busy ds (planN ds k) k := by
    unfold busy
    exact List.mem_map.mpr ⟨i, List.mem_filter.mpr ⟨hi, decide_eq_true hik⟩, planN_getD ds hik⟩
  have h2 := (List.mem_filter.mp (pk_free o h)).2
  rw [← e, List.contains_iff_mem.mpr h1] at h2
  cases h2
theorem uniq {ds : List Dof} (o : Ord ds) {j k : Nat} (h : k < ds.length) (hj : j ∈ going ds (dAt ds k).1) (e : pk ds j = pk ds k) : j = k := by
  obtain ⟨j1, j2, j3⟩ := mem_going.mp hj
  rcases Nat.lt_trichotomy j k with c | c | c
  · exact absurd e (sep o c h hj)
  · exact c
  · have h1 := o.ord k j (Nat.le_of_lt c) j1
    have h2 := o.up k h
    exact absurd e.symm (sep o c j1 (mem_going.mpr ⟨h, h1, by omega⟩))
theorem count_one {f : Nat → Nat} {k : Nat} : ∀ {l : List Nat}, l.Nodup → k ∈ l → (∀ j ∈ l, f j = f k → j = k) → (l.map f).count (f k) = 1
  | [], _, h, _ => nomatch h
  | x :: l, nd, hk, hu => by
    have nd' := List.nodup_cons.mp nd
    rw [List.map_cons, List.count_cons]
    rcases List.mem_cons.mp hk with e | hk
    · subst e
      have z : (l.map f).count (f k) = 0 := List.count_eq_zero.mpr fun hm => by
        obtain ⟨j, hj, e⟩ := List.mem_map.mp hm
        have := hu j (List.mem_cons_of_mem _ hj) e
        exact nd'.1 (this ▸ hj)
      rw [z]
      simp
    · rw [count_one nd'.2 hk fun j hj => hu j (List.mem_cons_of_mem _ hj)]
      have hne : f x ≠ f k := fun e => nd'.1 (hu x List.mem_cons_self e ▸ hk)
      simp [hne]
theorem once {ds : List Dof} (o : Ord ds) {k : Nat} (h : k < ds.length) : ((going ds (dAt ds k).1).map (pk ds)).count (pk ds k) = 1 := count_one (going_nodup _ _) (self_going o h) fun _ hj e => uniq o h hj e
/-! ### the best so far -/
def bestK (f : Int → Int) (xs : List Int) : Option (Int × Int) := xs.foldl (fun acc x => match acc with
  | none => some (x, f x)
  | some (b, k) => if k < f x then some (x, f x) else some (b, k)) none
theorem best_snoc (f : Int → Int) (xs : List Int) (x : Int) : bestK f (xs ++ [x]) = match bestK f xs with
  | none => some (x, f x)
  | some (b, k) => if k < f x then some (x, f x) else some (b, k) := by
  unfold bestK
  rw [List.foldl_append]
  rfl
theorem best_is (f : Int → Int) : ∀ (xs : List Int), xs ≠ [] → ∃ b, bestK f xs = some (b, f b) ∧ b ∈ xs ∧ ∀ x ∈ xs, f x ≤ f b := by
  intro xs
  induction hn : xs.length generalizing xs with
  | zero => intro h; exact absurd (List.length_eq_zero_iff.mp hn) h
  | succ n ih =>
    intro h
    have e : xs = xs.dropLast ++ [xs.getLast h] := (List.dropLast_concat_getLast h).symm
    generalize hy : xs.getLast h = y at e
    generalize hz : xs.dropLast = ys at e
    subst e
    rw [best_snoc]
    by_cases hys : ys = []
    · subst hys
      exact ⟨y, rfl, by simp, fun x hx => by simp at hx; rw [hx]; exact Int.le_refl _⟩
    · obtain ⟨b, h1, h2, h3⟩ := ih ys (by simp at hn; exact hn) hys
      rw [h1]
      simp only
      by_cases c : f b < f y
      · rw [if_pos c]
        refine ⟨y, rfl, by simp, fun x hx => ?_⟩
        rcases List.mem_append.mp hx with z | z
        · have := h3 x z
          omega
        · rw [List.mem_singleton.mp z]
          exact Int.le_refl _
      · rw [if_neg c]
        refine ⟨b, rfl, List.mem_append_left _ h2, fun x hx => ?_⟩
        rcases List.mem_append.mp hx with z | z
        · exact h3 x z
        · rw [List.mem_singleton.mp z]
          omega
end EM

set_option Elab.async false
set_option linter.all false
set_option maxRecDepth 100000
set_option maxHeartbeats 4000000
/-! Walks told by a relation: comprehensions with a test, loops beside which lists grow. -/
namespace DL
open PySem PySem.Spec PyProof.Rows L2 Evl GX YA TH
section
variable {K : PySem.W.Frag} {σ : L2.St} {H : Hp} {te tl : TE} {tt : TT} {wi : TI} {g : TG}
/-- [e for x in it if c], of data -/
theorem ed_lcF {α : Type} {S : Hp → V → α → Prop} {vs : List Nat} {as : List α} (f : α → Bool) (h : α → PyData) (hw : EvWR S wi σ H as) (hz : as.length ≤ 40000)
    (hs : ∀ (i : Nat) (d : α) (x : V) (H1 : Hp), Ex H H1 → as[i]? = some d → S H1 x d → ∃ σ2, TgD g x (wipe σ vs) H1 σ2 ∧ wipe σ2 vs = wipe σ vs ∧ EvT tt σ2 H1 (f d) ∧ (f d = true → noL (h d) = true ∧ EvD K te σ2 H1 (h d))) :
    EvD K (tLc wi g tt te vs) σ H (.list ((as.filter f).map h)) := fun H0 e0 Q q => hw H0 e0 _ fun J H1 e1 wk Dl hD => by
  obtain ⟨Gd, Y, wlk, hG, hY⟩ := wk
  refine lc_it (σ := σ) wlk (fun i H' => Ex H1 H' ∧ noLs (((as.take i).filter f).map h) = true ∧ ∃ xs, H' Dl = some (.lst xs) ∧ xs.length ≤ i ∧ DpAll K H' xs (((as.take i).filter f).map h))
    ⟨Ex.new hD, rfl, [], upd_same, Nat.le_refl _, .nil⟩ (fun i H' _ p => hG H' p.1) (fun i x H2 H3 hi p y => ?_) (fun H' p => ?_)
  · obtain ⟨ex, hn, xs, hx, hl, ha⟩ := p
    obtain ⟨ey, d, hd, hS⟩ := hY i H2 x H3 ex y
    obtain ⟨σ2, tg, hwp, ht, he⟩ := hs i d x H3 ((e0.trans e1).trans (ex.trans ey)) hd hS
    refine tg H3 (Ex.refl H3) _ ⟨hwp, ht H3 (Ex.refl H3) _ fun H4 e4 => ?_⟩
    have tk : as.take (i + 1) = as.take i ++ [d] := by rw [List.take_add_one, hd]; rfl
    cases hf : f d with
    | true =>
      show te σ2 H4 _
      obtain ⟨hno, hev⟩ := he hf
      refine hev H4 e4 _ fun v H5 e5 hv => ?_
      have xD : H5 Dl = some (.lst xs) := e5 _ _ (e4 _ _ (ey _ _ hx))
      have ef : ([d].filter f) = [d] := by simp [hf]
      refine ⟨xs, xD, sz_lt (by omega), Ex.mut ((ex.trans ey).trans (e4.trans e5)) hD, ?_, xs ++ [v], upd_same, by rw [List.length_append]; show xs.length + 1 ≤ i + 1; omega, ?_⟩
      · rw [tk, List.filter_append, List.map_append, ef]
        exact noLs_snoc hn hno
      · rw [tk, List.filter_append, List.map_append, ef]
        exact da_monoT (ext_upd xD) (noLs_snoc hn hno) (da_snoc (da_mono (ey.trans (e4.trans e5)) ha) hv)
    | false =>
      show Ex H1 H4 ∧ _
      have ef : ([d].filter f) = [] := by simp [hf]
      rw [tk, List.filter_append, List.map_append, ef]
      refine ⟨(ex.trans ey).trans e4, by simpa using hn, xs, e4 _ _ (ey _ _ hx), by omega, ?_⟩
      simpa using da_mono (ey.trans e4) ha
  · obtain ⟨ex, hn, xs, hx, hl, ha⟩ := p
    rw [List.take_of_length_le (Nat.le_refl _)] at ha
    exact q (.ref Dl) H' (e1.trans ex) (.lst (sq_of hx) ha)
/-- over data told by a map -/
theorem ewm_tup {α : Type} {as : List α} {f : α → PyData} (h : EvD K tl σ H (.tuple (as.map f))) : EvWR (fun H x a => Dp K H x (f a)) (iTup K tl) σ H as := fun H1 e R q => h H1 e _ fun v H2 e2 hv => by
  obtain ⟨a, xs, rfl, hs, ha⟩ := dp_tup hv
  have hl : xs.length = as.length := by rw [da_len ha, List.length_map]
  refine ⟨a, rfl, ⟨xs, hs⟩, q _ H2 e2 ⟨fun H3 => SqT K H3 a xs, YAt xs, by rw [← hl]; exact walk_tup (xs := xs), fun H3 e3 => ex_t e3 hs, fun i H3 x H4 e3 y => ?_⟩⟩
  obtain ⟨rfl, hx⟩ := y
  obtain ⟨d, hd, hp⟩ := da_get (da_mono e3 ha) hx
  rw [List.getElem?_map] at hd
  obtain ⟨b, hb, rfl⟩ := Option.map_eq_some_iff.mp hd
  exact ⟨Ex.refl _, b, hb, hp⟩
theorem ewm_lst {α : Type} {as : List α} {f : α → PyData} (h : EvD K tl σ H (.list (as.map f))) : EvWR (fun H x a => Dp K H x (f a)) (iList K tl) σ H as := fun H1 e R q => h H1 e _ fun v H2 e2 hv => by
  obtain ⟨a, xs, rfl, hs, ha⟩ := dp_lst hv
  have hl : xs.length = as.length := by rw [da_len ha, List.length_map]
  refine ⟨a, rfl, ⟨xs, hs⟩, q _ H2 e2 ⟨fun H3 => SqL K H3 a xs, YAt xs, by rw [← hl]; exact walk_list (xs := xs), fun H3 e3 => ex_l e3 hs, fun i H3 x H4 e3 y => ?_⟩⟩
  obtain ⟨rfl, hx⟩ := y
  obtain ⟨d, hd, hp⟩ := da_get (da_mono e3 ha) hx
  rw [List.getElem?_map] at hd
  obtain ⟨b, hb, rfl⟩ := Option.map_eq_some_iff.mp hd
  exact ⟨Ex.refl _, b, hb, hp⟩
/-- the pair (k, the k-th) -/
def NumD {α : Type} (K : PySem.W.Frag) (as : List α) (f : α → PyData) (H : Hp) (x : V) (k : Nat) : Prop := ∃ a, as[k]? = some a ∧ Dp K H x (.tuple [.int (k : Int), f a])
/-- the walk holds in each heap that goes on from H -/
def EvW0 {α : Type} (S : Hp → V → α → Prop) (wi : TI) (σ : L2.St) (H : Hp) (as : List α) : Prop := ∀ H1, Ex H H1 → ∀ R : It → Hp → Prop, (∀ J H2, Ex H1 H2 → WkR S J H as → R J H2) → wi σ H1 R
theorem ew0_enum {α : Type} {as : List α} {f : α → PyData} {v : V} (h : Ev tl σ H v) (hv : Dp K H v (.tuple (as.map f))) : EvW0 (NumD K as f) (iEnumT K (tCons tl tNil)) σ H (List.range as.length) := fun H1 e R q => h H1 e _ fun H2 e2 => by
  obtain ⟨a, xs, rfl, hs, ha⟩ := dp_tup hv
  have hl : xs.length = as.length := by rw [da_len ha, List.length_map]
  refine ⟨a, xs, rfl, ex_t (e.trans e2) hs, q _ H2 e2 ⟨fun H3 => SqT K H3 a xs, fun i H3 y H4 => ∃ T x, y = .ref T ∧ H3 T = none ∧ H4 = upd H3 T (.tup [.int (i : Nat), x]) ∧ xs[i]? = some x, ?_, fun H3 e3 => ex_t e3 hs, fun i H3 x H4 e3 y => ?_⟩⟩
  · rw [List.length_range, ← hl]
    refine ⟨fun i H3 hi g => ⟨xs, xs[i], g, by simp [hi]⟩, fun H3 g => ⟨xs, g, Nat.le_refl _⟩, fun i H3 y H4 hi g yy => ?_⟩
    obtain ⟨T, x, h1, h2, h3, h4⟩ := yy
    exact ⟨T, x, h1, h2, h3, h4 xs g⟩
  · obtain ⟨T, u, rfl, hT, rfl, hu⟩ := y
    obtain ⟨d, hd, hdp⟩ := da_get (da_mono e3 ha) hu
    rw [List.getElem?_map] at hd
    obtain ⟨b, hb, rfl⟩ := Option.map_eq_some_iff.mp hd
    have hi : i < as.length := (List.getElem?_eq_some_iff.mp hb).1
    exact ⟨Ex.new hT, i, List.getElem?_range hi, b, hb, .tup (st_of upd_same) (.cons (.int _) (.cons (dp_mono (Ex.new hT) hdp) .nil))⟩
theorem ew0_tup {α : Type} {as : List α} {f : α → PyData} {v : V} (h : Ev tl σ H v) (hv : Dp K H v (.tuple (as.map f))) : EvW0 (fun H x a => Dp K H x (f a)) (iTup K tl) σ H as := fun H1 e R q => h H1 e _ fun H2 e2 => by
  obtain ⟨a, xs, rfl, hs, ha⟩ := dp_tup hv
  have hl : xs.length = as.length := by rw [da_len ha, List.length_map]
  refine ⟨a, rfl, ⟨xs, ex_t (e.trans e2) hs⟩, q _ H2 e2 ⟨fun H3 => SqT K H3 a xs, YAt xs, by rw [← hl]; exact walk_tup (xs := xs), fun H3 e3 => ex_t e3 hs, fun i H3 x H4 e3 y => ?_⟩⟩
  obtain ⟨rfl, hx⟩ := y
  obtain ⟨d, hd, hp⟩ := da_get (da_mono e3 ha) hx
  rw [List.getElem?_map] at hd
  obtain ⟨b, hb, rfl⟩ := Option.map_eq_some_iff.mp hd
  exact ⟨Ex.refl _, b, hb, hp⟩
theorem ew_of0 {α : Type} {S : Hp → V → α → Prop} {as : List α} (h : EvW0 S wi σ H as) : EvWR S wi σ H as := fun H1 e R q => h H1 e R fun J H2 e2 wk => q J H2 e2 (by
  obtain ⟨Gd, Y, wlk, hG, hY⟩ := wk
  exact ⟨Gd, Y, wlk, fun H3 e3 => hG H3 ((e.trans e2).trans e3), fun i H3 x H4 e3 y => hY i H3 x H4 ((e.trans e2).trans e3) y⟩)
variable {tu tz : TS} {D : Ends}
/-- for, while lists that are younger than the walk grow -/
theorem q_for0 {α : Type} {S : Hp → V → α → Prop} {as : List α} {Hc : Hp} (hw : EvW0 S wi σ H as) (hc : Ex H Hc) (Pv : Nat → L2.St → Hp → Prop) (h0 : ∀ H1, Ex Hc H1 → Pv 0 σ H1) (hx : ∀ i σ' H', Pv i σ' H' → Ex H H')
    (hs : ∀ (i : Nat) (d : α) (x : V) (σ' : L2.St) (H' H2 : Hp), as[i]? = some d → Pv i σ' H' → Ex H' H2 → S H2 x d → ∃ σ2, TgD g x σ' H2 σ2 ∧ tu { D with nx := Pv (i + 1), ct := Pv (i + 1), bk := tz D } σ2 H2) (hd : ∀ σ' H', Pv as.length σ' H' → tz D σ' H') :
    tSeq (tFor wi g tu) tz D σ Hc := hw Hc hc _ fun J H1 e1 wk => by
  obtain ⟨Gd, Y, wlk, hG, hY⟩ := wk
  refine for_it (D := { D with nx := tz D }) wlk Pv (h0 H1 e1) (fun i σ' H' _ p => hG H' (hx _ _ _ p)) (fun i x σ' H2 H3 hi p y => ?_) (fun σ' H' p => hd σ' H' p)
  obtain ⟨ey, d, hd', hS⟩ := hY i H2 x H3 (hx _ _ _ p) y
  obtain ⟨σ2, tg, hu⟩ := hs i d x σ' H2 H3 hd' p ey hS
  exact tg H3 (Ex.refl H3) _ hu
/-- n, (a, b, c) -/
theorem tg_num3 {i j1 j2 j3 : Nat} {x : V} {n a b c : Int} {σ : L2.St} {H : Hp} (h : Dp K H x (.tuple [.int n, .tuple [.int a, .int b, .int c]])) :
    TgD (gTup K 2 (gCons (gName i) (gCons (gTup K 3 (gCons (gName j1) (gCons (gName j2) (gCons (gName j3) gNil)))) gNil))) x σ H ((((σ.set i (some (.int n))).set j1 (some (.int a))).set j2 (some (.int b))).set j3 (some (.int c))) := fun H1 e Q q => by
  obtain ⟨p, xs, rfl, hs, ha⟩ := dp_tup h
  cases ha with
  | cons h1 ha =>
    cases ha with
    | cons h2 ha =>
      cases ha
      obtain ⟨p2, ys, rfl, hs2, hb⟩ := dp_tup h2
      have ey : ys = [a, b, c].map V.int := da_ints_inv (ns := [a, b, c]) hb
      subst ey
      cases dp_int h1
      exact ⟨p, _, rfl, ex_t e hs, rfl, _, _, rfl, _, _, rfl, p2, _, rfl, ex_t e hs2, rfl, _, _, rfl, _, _, rfl, _, _, rfl, rfl, rfl, q⟩
theorem tg_3 {j1 j2 j3 : Nat} {x : V} {a b c : Int} {σ : L2.St} {H : Hp} (h : Dp K H x (.tuple [.int a, .int b, .int c])) :
    TgD (gTup K 3 (gCons (gName j1) (gCons (gName j2) (gCons (gName j3) gNil)))) x σ H (((σ.set j1 (some (.int a))).set j2 (some (.int b))).set j3 (some (.int c))) := fun H1 e Q q => by
  obtain ⟨p2, ys, rfl, hs2, hb⟩ := dp_tup h
  have ey : ys = [a, b, c].map V.int := da_ints_inv (ns := [a, b, c]) hb
  subst ey
  exact ⟨p2, _, rfl, ex_t e hs2, rfl, _, _, rfl, _, _, rfl, _, _, rfl, rfl, q⟩
/-- l.count(x), ints -/
theorem ed_lcount {ns : List Int} {b : Int} {i : Nat} {v : V} (h1 : σ[i]? = some (some v)) (hd : Dp K H v (.list (ns.map .int))) (h2 : Ev te σ H (.int b)) : EvD K (tBM K "list" (rCntI K) (tVar i) (tCons te tNil)) σ H (.int ((ns.count b : Nat) : Int)) := fun H1 e Q q => by
  obtain ⟨a, xs, rfl, hs, ha⟩ := dp_lst hd
  cases da_ints_inv ha
  exact ⟨.ref a, h1, .inl ⟨rfl, _, ex_l e hs⟩, h2 H1 e _ fun H2 e2 => ⟨a, ns, b, rfl, rfl, ex_l (e.trans e2) hs, q _ H2 e2 (.int _)⟩⟩

end
end DL

set_option Elab.async false
set_option linter.all false
set_option maxRecDepth 100000
set_option maxHeartbeats 4000000
namespace K42
open PySem PySem.Spec PyProof.Rows L2 Evl DL GX YA EX TH TV YT DS LM EM
def topS (i : Nat) : Stmt := PySem.Challenge.pw_doffyard_k42_fewest_doffers.main.body.getD i (.Pass ⟨0, 0, 0, 0⟩)
abbrev s_law_pool : Stmt := topS 44
theorem sc_law_pool : FnScope ["_law_script", "_law_k", "_law_cell", "_law_more", "_law_found", "_law_turn"] ["_law_script", "_law_k"] (defScope s_law_pool) := ⟨rfl, rfl, rfl, by decide +kernel, rfl, by decide +kernel, by decide +kernel⟩
abbrev s_law_take : Stmt := topS 45
theorem sc_law_take : FnScope ["_law_pool_here", "_law_many", "_law_digit"] ["_law_pool_here", "_law_many"] (defScope s_law_take) := ⟨rfl, rfl, rfl, by decide +kernel, rfl, by decide +kernel, by decide +kernel⟩
abbrev s_law_whole : Stmt := topS 46
theorem sc_law_whole : FnScope ["_law_thing"] ["_law_thing"] (defScope s_law_whole) := ⟨rfl, rfl, rfl, by decide +kernel, rfl, by decide +kernel, by decide +kernel⟩
structure Bi (mg : Str → Option Value) : Prop where
  len : mg "len" = none
  sum : mg "sum" = none
  abs : mg "abs" = none
  min : mg "min" = none
  max : mg "max" = none
  divmod : mg "divmod" = none
  all : mg "all" = none
  isinstance : mg "isinstance" = none
  tuple : mg "tuple" = none
  int : mg "int" = none
  bool : mg "bool" = none
  range : mg "range" = none
  enumerate : mg "enumerate" = none
  list : mg "list" = none
  str : mg "str" = none
  ValueError : mg "ValueError" = none
  sorted : mg "sorted" = none
structure Df (K : PySem.W.Frag) (mg : Str → Option Value) (x : Str) (st : Stmt) (ps : List Str) (f : Addr) (fd : FuncData) : Prop where
  F : Fun K x x st f fd
  b : Binds K fd ps []
  g : mg x = some (.ref f)
section
variable {P : Program} {w : World} {K : PySem.W.Frag} {mg : Str → Option Value} {base : Heap}
theorem cdivp {n m : Int} (h0 : 0 < m) (h1 : m ≤ 10 ^ 40) : CDivP n m := by
  refine ⟨h0, PyProof.noPylong_of_log2 (Nat.lt_of_lt_of_le (PySem.Flt.log2_lt_of (show 0 < 200 by decide) ?_) (show 200 ≤ 9000 by decide))⟩
  have h2 : m.natAbs ≤ 10 ^ 40 := by omega
  exact Nat.lt_of_le_of_lt h2 (by decide)
theorem ev_run {te : TE} {σ : L2.St} {H : Hp} {v : V} {Q : VK} (h : Ev te σ H v) (k : ∀ H1, Ex H H1 → Q v H1) : te σ H Q := h H (Ex.refl H) Q k
theorem pos384 : (0 : Int) < 10 ^ Int.toNat 64 * 10 ^ Int.toNat 64 * 10 ^ Int.toNat 64 * 10 ^ Int.toNat 64 * 10 ^ Int.toNat 64 * 10 ^ Int.toNat 64 := by decide +kernel
theorem mulW {i j : Int} (hi : -(10 ^ 500) ≤ i ∧ i ≤ 10 ^ 500) (hj : -(10 ^ 500) ≤ j ∧ j ≤ 10 ^ 500) : CMulW i j := wide_mul (a := 2000) (b := 2000)
  (Nat.lt_of_le_of_lt (show i.natAbs ≤ 10 ^ 500 by omega) (by decide +kernel)) (Nat.lt_of_le_of_lt (show j.natAbs ≤ 10 ^ 500 by omega) (by decide +kernel)) (by decide) (by decide) (by decide)
theorem mulF {i j : Int} (hi : 0 ≤ i ∧ i < 10 ^ 11000) (hj : 0 ≤ j ∧ j ≤ 10 ^ 500) : CMulW i j := wide_mul (a := 40000) (b := 2000)
  (Nat.lt_of_lt_of_le (show i.natAbs < 10 ^ 11000 by have h2 := hi.2; have h1 := hi.1; exact_mod_cast (show ((i.natAbs : Nat) : Int) < ((10 ^ 11000 : Nat) : Int) by rw [Int.natAbs_of_nonneg h1]; exact_mod_cast h2)) (by decide +kernel))
  (Nat.lt_of_le_of_lt (show j.natAbs ≤ 10 ^ 500 by omega) (by decide +kernel)) (by decide) (by decide) (by decide)
def spTake : Sp := fun vs H Q _ => ∃ (a : Addr) (n m : Int), vs = [.ref a, .int m] ∧ H a = some (.lst [.int n]) ∧ (0 < m ∧ m ≤ 10 ^ 40) ∧ ∀ t, H t = none → Q (.int (n % m)) (upd (upd H t (.tup [.int (n / m), .int (n % m)])) a (.lst [.int (n / m)]))
theorem ok_take {f : Addr} {fd : FuncData} {k : Nat} (T : Bi mg) (D : Df K mg "_law_take" s_law_take ["_law_pool_here", "_law_many"] f fd) : FnOk P w K mg base CX0 (k + 1) f fd ["_law_pool_here", "_law_many"] spTake := by
  refine D.F.ok sc_law_take (fun vs H Q E h => ?_) (fun cdv A outer s H vs Q E hr h => ?_)
  · obtain ⟨a, n, m, rfl, _⟩ := h
    rfl
  · obtain ⟨a, n, m, rfl, ha, hc, q⟩ := h
    refine ⟨_, (pss_cons (ps_asg (pe_callB call_divmodW (by rfl) T.divmod boot_divmod (pa_cons (pe_ix (r := rIxL K) ix_list (pv 0) pe_int (fun _ _ => rfl)) (pa_cons (pv 1) pa_nil))) (pg_tup rfl (pgs_cons (pg_sub (pv 0) pe_int set_list) (pgs_cons (pg_name (i := 2) sc_law_take.nd rfl (.inl rfl)) pgs_nil))))
      (pss_one (ps_ret (pv 2)))), ?_⟩
    refine ⟨.ref a, rfl, a, _, 0, .int n, rfl, rfl, sq_of ha, rfl, .int m, rfl, n, m, rfl, cdivp hc.1 hc.2, fun t ht => ?_⟩
    have hat : a ≠ t := ne_of_none ha ht
    refine ⟨t, [.int (n / m), .int (n % m)], rfl, .inl (.inl upd_same), rfl, _, _, rfl, .ref a, rfl, a, [.int n], 0, 0, rfl, rfl, ?_, rfl, _, _, rfl, rfl, .int (n % m), rfl, q t ht⟩
    rw [upd_ne hat]
    exact ha
def spWhole : Sp := fun vs H Q _ => ∃ i : Int, vs = [.int i] ∧ Q (.bl true) H
theorem ok_whole {f : Addr} {fd : FuncData} {k : Nat} (T : Bi mg) (D : Df K mg "_law_whole" s_law_whole ["_law_thing"] f fd) : FnOk P w K mg base CX0 (k + 1) f fd ["_law_thing"] spWhole := by
  refine D.F.ok sc_law_whole (fun vs H Q E h => ?_) (fun cdv A outer s H vs Q E hr h => ?_)
  · obtain ⟨i, rfl, _⟩ := h
    rfl
  · obtain ⟨i, rfl, q⟩ := h
    refine ⟨_, (pss_one (ps_ret (pe_and (pe_callB (r := rIsi K) call_isi (by rfl) T.isinstance boot_isinstance (pa_cons (pv 0) (pa_cons (pe_bltn (by rfl) T.int boot_int (v := .ty "int") rfl) pa_nil))) (pe_one (pe_not (pe_callB (r := rIsi K) call_isi (by rfl) T.isinstance boot_isinstance (pa_cons (pv 0) (pa_cons (pe_bltn (by rfl) T.bool boot_bool (v := .ty "bool") rfl) pa_nil)))))))), ?_⟩
    refine ⟨.int i, rfl, .int i, .ty "int", .type "int", .type "int", true, rfl, .ty _, .base (.int i), kit_ty (by decide +kernel), true, rfl, ?_⟩
    refine ⟨.int i, rfl, .int i, .ty "bool", .type "int", .type "bool", false, rfl, .ty _, .base (.int i), kit_ty (by decide +kernel), false, rfl, ?_⟩
    exact q
theorem cut_ints (ns : List Int) (lo hi : Option Int) : ∃ ms : List Int, cutV (ns.map V.int) lo hi = ms.map V.int := by
  refine ⟨(ns.drop (HT.sIx ns.length 0 lo)).take (HT.sIx ns.length ns.length hi - HT.sIx ns.length 0 lo), ?_⟩
  unfold cutV
  rw [List.length_map, List.map_take, List.map_drop]
/-- the digits' pool: a new list of one int from 0 on -/
def spPool (K : PySem.W.Frag) : Sp := fun vs H Q _ => ∃ (s : Addr) (ns : List Int) (k : Int), vs = [.ref s, .int k] ∧ SqL K H s (ns.map V.int) ∧ (0 ≤ k ∧ k ≤ 1000) ∧ ∀ p H' n, Ex H H' → H p = none → H' p = some (.lst [.int n]) → 0 ≤ n → Q (.ref p) H'
theorem ok_pool {f : Addr} {fd : FuncData} {k : Nat} (T : Bi mg) (D : Df K mg "_law_pool" s_law_pool ["_law_script", "_law_k"] f fd) : FnOk P w K mg base CX0 (k + 1) f fd ["_law_script", "_law_k"] (spPool K) := by
  refine D.F.ok sc_law_pool (fun vs H Q E h => ?_) (fun cdv A outer s H vs Q E hr h => ?_)
  · obtain ⟨a, n, m, rfl, _⟩ := h
    rfl
  · obtain ⟨a, ns, kk, rfl, hS, hk, q⟩ := h
    refine ⟨_, (pss_cons (ps_set (i := 2) sc_law_pool.nd rfl (.inl rfl) (pe_callB (r := rSum K) (cr_sum rfl) (by rfl) T.sum boot_sum (pa_cons (pe_slice sl_list (pv 0) (po_some (pv 1)) (po_some (pe_op op_add (pv 1) pe_int))) pa_nil)))
      (pss_cons (ps_if (PW.pt (pw_or (pt_cmpR op_lt (pv 2) pe_int (nomark _)) (pw_or1 (pt_cmpR op_ge (pv 2) (pe_op op_pow pe_int pe_int) (nomark _))))) (pss_one (ps_ret (pe_lst (pa_cons (pe_op op_mod (pe_callB call_abs (by rfl) T.abs boot_abs (pa_cons (pv 2) pa_nil)) (pe_op op_mulW (pe_op op_mulW (pe_op op_mulW (pe_op op_mulW (pe_op op_mulW (pe_op op_pow pe_int pe_int) (pe_op op_pow pe_int pe_int)) (pe_op op_pow pe_int pe_int)) (pe_op op_pow pe_int pe_int)) (pe_op op_pow pe_int pe_int)) (pe_op op_pow pe_int pe_int))) pa_nil)))) pss_nil)
      (pss_cons (ps_set (i := 3) sc_law_pool.nd rfl (.inl rfl) (pe_op op_add (pe_op op_add (pe_op op_mulW (pv 2) pe_int) (pe_op op_mulW (pe_op op_mulW pe_int (pv 1)) (pv 1))) pe_int))
      (pss_cons (ps_set (i := 4) sc_law_pool.nd rfl (.inl rfl) pe_int)
      (pss_cons (ps_for PassesOwn.never rfl (pi_range1 rfl T.range (pa_cons pe_int pa_nil)) (pg_name (i := 5) sc_law_pool.nd rfl (.inl rfl)) (pss_cons (ps_set (i := 3) sc_law_pool.nd rfl (.inl rfl) (pe_op op_mod (pe_op op_add (pe_op op_add (pe_op op_mulW (pe_op op_mod (pv 3) pe_int) pe_int) (pe_op op_mulW pe_int (pv 5))) pe_int) pe_int))
      (pss_one (ps_set (i := 4) sc_law_pool.nd rfl (.inl rfl) (pe_op op_add (pe_op op_mulW (pv 4) (pe_op op_pow pe_int pe_int)) (pe_op op_mod (pe_op op_mulW (pv 3) (pe_op op_add (pe_op op_mod (pv 3) pe_int) pe_int)) pe_int))))))
      (pss_one (ps_ret (pe_lst (pa_cons (pv 4) pa_nil))))))))), ?_⟩
    refine ⟨.ref a, rfl, .int kk, rfl, kk, rfl, .int kk, rfl, kk, 1, rfl, rfl, kk + 1, rfl, a, _, rfl, hS, fun c hc => ?_⟩
    obtain ⟨ms, hms⟩ := cut_ints ns (some kk) (some (kk + 1))
    refine ⟨c, ms, rfl, .inl (.inl (by rw [← hms]; exact upd_same)), ?_⟩
    generalize ms.sum = cell
    have e1 : Ex H (upd H c (.lst (cutV (ns.map V.int) (some kk) (some (kk + 1))))) := Ex.new hc
    generalize upd H c (.lst (cutV (ns.map V.int) (some kk) (some (kk + 1)))) = H1 at e1
    dsimp only [gName]
    refine q_when (et_or (et_test (ev_op (ev_var rfl) ev_c rv_I0)) (fun _ => (et_test (ev_op (ev_var rfl) (ev_op ev_c ev_c (rv_I ?_)) rv_I0)))) (fun _ H2 e2 => ?_) (fun hb H2 e2 => ?_)
    · exact ⟨by decide, by decide, by decide⟩
    · -- the cell's own digits
      refine ⟨.int cell, rfl, cell, rfl, ?_⟩
      dsimp only
      refine ev_run (ev_op (ev_op (ev_op (ev_op (ev_op (ev_op ev_c ev_c (rv_I ?_)) (ev_op ev_c ev_c (rv_I ?_)) (rv_I ?_)) (ev_op ev_c ev_c (rv_I ?_)) (rv_I ?_)) (ev_op ev_c ev_c (rv_I ?_)) (rv_I ?_)) (ev_op ev_c ev_c (rv_I ?_)) (rv_I ?_)) (ev_op ev_c ev_c (rv_I ?_)) (rv_I ?_)) fun H3 e3 => ?_
      all_goals first
        | exact ⟨by decide, by decide, by decide⟩
        | (refine mulW ?_ ?_ <;> decide +kernel)
        | skip
      refine ⟨_, _, rfl, rfl, pos384, by show 1 ≤ sizeLine; decide, fun p hp => ?_⟩
      have e13 := (e1.trans e2).trans e3
      exact q p _ _ (e13.trans (Ex.new hp)) (fresh_back e13 hp) upd_same (Int.emod_nonneg _ (Int.ne_of_gt pos384))
    · have hb' : ¬ cell < 0 ∧ ¬ (10 : Int) ^ 18 ≤ cell := by simpa using hb
      refine q_asg (ev_op (ev_op (ev_op (ev_var rfl) ev_c (rv_I ?_)) (ev_op (ev_op ev_c (ev_var rfl) (rv_I ?_)) (ev_var rfl) (rv_I ?_)) rv_I0) ev_c rv_I0) fun H3 e3 => ?_
      · exact mulW (by omega) (by omega)
      · exact mulW (by omega) (by omega)
      · exact mulW (by omega) (by omega)
      refine q_asg ev_c fun H4 e4 => ?_
      refine q_forR1 (ea_cons ev_c ea_nil) ⟨by decide, by decide⟩ (fun i σ' H' => Ex H H' ∧ i ≤ 1000 ∧ ∃ more found y5, σ' = [some (.ref a), some (.int kk), some (.int cell), some (.int more), some (.int found), y5] ∧ 0 ≤ found ∧ found < 10 ^ (11 * i)) (fun H5 e5 => ?_) (fun i σ' H' hi p => ?_) (fun σ' H' p => ?_)
      · exact ⟨(((e1.trans e2).trans e3).trans e4).trans e5, by omega, _, 0, _, rfl, by decide, by decide⟩
      · obtain ⟨ex, h9, more, found, y5, rfl, h0, h1⟩ := p
        have m1 : 0 ≤ more % 999999999989 ∧ more % 999999999989 < 999999999989 := ⟨Int.emod_nonneg _ (by decide), Int.emod_lt_of_pos _ (by decide)⟩
        refine q_asg (ev_op (ev_op (ev_op (ev_op (ev_op (ev_var rfl) ev_c (rv_I ?_)) ev_c (rv_I ?_)) (ev_op ev_c (ev_var rfl) (rv_I ?_)) rv_I0) ev_c rv_I0) ev_c (rv_I ?_)) fun H5 e5 => ?_
        · show (0 : Int) < _; decide
        · exact mulW (by omega) (by omega)
        · exact mulW (by omega) (by omega)
        · show (0 : Int) < _; decide
        generalize hm : (more % 999999999989 * 69621 + 40503 * (i : Int) + 271) % 999999999989 = m2
        have m3 : 0 ≤ m2 ∧ m2 < 999999999989 := by rw [← hm]; exact ⟨Int.emod_nonneg _ (by decide), Int.emod_lt_of_pos _ (by decide)⟩
        have m4 : 0 ≤ m2 % 65537 ∧ m2 % 65537 < 65537 := ⟨Int.emod_nonneg _ (by decide), Int.emod_lt_of_pos _ (by decide)⟩
        have f1 : found < 10 ^ 11000 := Int.lt_of_lt_of_le h1 (by
          have z : (10 : Int) ^ (11 * i) ≤ 10 ^ 11000 := by exact_mod_cast Nat.pow_le_pow_right (by decide) (by omega)
          exact z)
        refine s_asg (ev_op (ev_op (ev_var rfl) (ev_op ev_c ev_c (rv_I ?_)) (rv_I ?_)) (ev_op (ev_op (ev_var rfl) (ev_op (ev_op (ev_var rfl) ev_c (rv_I ?_)) ev_c rv_I0) (rv_I ?_)) ev_c (rv_I ?_)) rv_I0) fun H6 e6 => ?_
        · exact ⟨by decide, by decide, by decide⟩
        · exact mulF ⟨h0, f1⟩ ⟨by decide, by decide⟩
        · show (0 : Int) < _; decide
        · exact mulW (by omega) (by omega)
        · show (0 : Int) < _; decide
        have m5 : 0 ≤ m2 * (m2 % 65537 + 3) % 99999999977 ∧ m2 * (m2 % 65537 + 3) % 99999999977 < 99999999977 := ⟨Int.emod_nonneg _ (by decide), Int.emod_lt_of_pos _ (by decide)⟩
        generalize m2 * (m2 % 65537 + 3) % 99999999977 = r at m5
        refine ⟨(ex.trans e5).trans e6, by have : (i : Int) < 9 := hi; omega, m2, _, _, rfl, ?_, ?_⟩
        · show 0 ≤ found * 10 ^ 11 + r
          omega
        · show found * 10 ^ 11 + r < 10 ^ (11 * (i + 1))
          have e : (10 : Int) ^ (11 * (i + 1)) = 10 ^ (11 * i) * 10 ^ 11 := by rw [Nat.mul_add, Int.pow_add]
          rw [e]
          omega
      · obtain ⟨ex, _, more, found, y5, rfl, h0, h1⟩ := p
        refine ⟨.int found, rfl, by show 1 ≤ sizeLine; decide, fun p hp => ?_⟩
        exact q p _ found (ex.trans (Ex.new hp)) (fresh_back ex hp) upd_same h0
end
/-! ### the pool, wherever it stands -/
theorem exb_refl (a : Addr) (H : Hp) : ExB a H H := fun _ _ _ h => h
theorem exb_of {a : Addr} {H H' : Hp} (e : Ex H H') : ExB a H H' := fun b o _ h => e b o h
theorem pool_ex {H H' : Hp} {a : Addr} (e : Ex H H') (p : PoolAt H a) : PoolAt H' a := by
  obtain ⟨n, h⟩ := p
  exact ⟨n, e _ _ h⟩
theorem pool_ne {H : Hp} {a t : Addr} (p : PoolAt H a) (h : H t = none) : a ≠ t := by
  obtain ⟨n, q⟩ := p
  exact ne_of_none q h
theorem exb_fresh {a t : Addr} {H H' : Hp} (e : ExB a H H') (p : PoolAt H a) (h : H' t = none) (hp : PoolAt H' a) : H t = none := by
  cases q : H t with
  | none => rfl
  | some o =>
    by_cases z : t = a
    · obtain ⟨n, k⟩ := hp
      rw [z, k] at h
      cases h
    · rw [e t o z q] at h
      cases h
theorem take_run {a : Addr} {σ : L2.St} {H : Hp} {te : TE} {i : Nat} {m : Int} {E : XK} {Q : VK} (hv : σ[i]? = some (some (.ref a))) (hp : PoolAt H a) (he : Ev te σ H (.int m)) (h0 : 0 < m ∧ m ≤ 10 ^ 40)
    (k : ∀ r H', 0 ≤ r ∧ r < m → ExB a H H' → PoolAt H' a → Q (.int r) H') : tCall spTake [] E (tCons (tVar i) (tCons te tNil)) σ H Q := by
  obtain ⟨n, hn⟩ := hp
  refine ⟨.ref a, hv, he H (Ex.refl H) _ fun H1 e1 => ⟨a, n, m, rfl, e1 _ _ hn, h0, fun t ht => k _ _ ⟨Int.emod_nonneg _ (by omega), Int.emod_lt_of_pos _ h0.1⟩ (fun b o nb hb => ?_) ⟨_, upd_same⟩⟩⟩
  rw [upd_ne nb, upd_ne (ne_of_none (e1 _ _ hb) ht)]
  exact e1 _ _ hb
theorem pick {ns : List Int} {r : Int} (h : 0 ≤ r ∧ r < ns.length) : ∃ w ∈ ns, atI (ns.map V.int) r = some (.int w) := by
  obtain ⟨k, rfl⟩ : ∃ k : Nat, r = (k : Int) := ⟨r.toNat, by omega⟩
  have hk : k < ns.length := by omega
  exact ⟨ns[k], List.getElem_mem hk, atI_nat (by rw [List.getElem?_map, List.getElem?_eq_getElem hk]; rfl)⟩
section
variable {P : Program} {w : World} {K : PySem.W.Frag} {mg : Str → Option Value} {base : Heap}
theorem dec_i {i j : Int} : decide (V.int i = V.int j) = decide (i = j) := by
  by_cases h : i = j
  · subst h
    simp
  · rw [decide_eq_false h, decide_eq_false fun q => h (V.int.inj q)]
theorem p_take {p : Addr} {σ : L2.St} {H : Hp} {te : TE} {i : Nat} {m : Int} {E : XK} (hv : σ[i]? = some (some (.ref p))) (hp : PoolAt H p) (h0 : 0 < m ∧ m ≤ 10 ^ 40) (he : EvP (GP p) K te σ H fun t => t = .int m) :
    EvP (GP p) K (tCall spTake [] E (tCons (tVar i) (tCons te tNil))) σ H (fun t => ∃ r, t = .int r ∧ 0 ≤ r ∧ r < m) := fun H1 g Q q => ⟨.ref p, hv, he H1 g _ fun v t H2 g2 hr ht => by
  subst ht
  cases rp_int hr
  have hp2 := ((way_pool p).trans g g2).p hp
  obtain ⟨n, hn⟩ := id hp2
  refine ⟨p, n, m, rfl, hn, h0, fun t ht => ?_⟩
  refine q _ _ _ ((way_pool p).trans g2 (gp_of (fun b o nb hb => ?_) hp2 ⟨_, upd_same⟩)) (.int _) ⟨_, rfl, Int.emod_nonneg _ (by omega), Int.emod_lt_of_pos _ h0.1⟩
  rw [upd_ne nb, upd_ne (ne_of_none hb ht)]
  exact hb⟩
theorem fr_pool {p : Addr} {H : Hp} (hp : PoolAt H p) : Fr (GP p) (fun l => l ≠ p) H := fun H1 l g hn z => by
  obtain ⟨n, h⟩ := g.p hp
  rw [z, h] at hn
  cases hn
theorem po_cut {G : Hp → Hp → Prop} {σ : L2.St} {H : Hp} {te : TE} {i : Int} (h : ∀ H, Ev te σ H (.int i)) : ∀ H1, G H H1 → ∀ Q : Option Int → Hp → Prop, (∀ H2, Ex H1 H2 → Q (some i) H2) → tPart te σ H1 Q := fun H1 _ Q q => h H1 H1 (Ex.refl H1) _ fun H2 e2 => ⟨i, rfl, q H2 e2⟩
theorem po_none' {G : Hp → Hp → Prop} {σ : L2.St} {H : Hp} : ∀ H1, G H H1 → ∀ Q : Option Int → Hp → Prop, (∀ H2, Ex H1 H2 → Q none H2) → tNoPart σ H1 Q := fun H1 _ Q q => q H1 (Ex.refl H1)
def anyT : Th → Prop := fun _ => True
def tupL (k : Nat) : Th → Prop := fun t => ∃ ts, t = .tup ts ∧ ts.length ≤ k
theorem cut_len (ts : List Th) (i j : Nat) : ((ts.drop i).take j).length ≤ ts.length := by
  rw [List.length_take, List.length_drop]
  omega
section
variable {G : Hp → Hp → Prop} {Ok : Addr → Prop} (W : Way G Ok) {σ : L2.St} {H : Hp} {ta : TE} {tr : TA} {Pt : Th → Prop}
include W
theorem addP (k : Nat) (h1 : EvP G K ta σ H Pt) (h2 : EvPA G K tr σ H (fun ts => ts.length = k ∧ ∀ t ∈ ts, Pt t)) : EvPA G K (tCons ta tr) σ H (fun ts => ts.length = k + 1 ∧ ∀ t ∈ ts, Pt t) :=
  pa_consP W h1 h2 fun t ts ht h => ⟨by rw [List.length_cons, h.1], fun u hu => (List.mem_cons.mp hu).elim (fun e => by rw [e]; exact ht) (h.2 u)⟩
theorem nilP : EvPA G K tNil σ H (fun ts => ts.length = 0 ∧ ∀ t ∈ ts, Pt t) := pa_nilP W ⟨rfl, fun t h => nomatch h⟩
end
/-- one of a list, drawn -/
theorem p_pick {p : Addr} {σ : L2.St} {H : Hp} {tl te : TE} {i k : Nat} {E : XK} {Pt : Th → Prop} (hv : σ[i]? = some (some (.ref p))) (hp : PoolAt H p) (hk : 1 ≤ k ∧ k ≤ 100) (hl : EvPL (GP p) (fun l => l ≠ p) K tl σ H (fun ts => ts.length = k ∧ ∀ t ∈ ts, Pt t)) (he : EvP (GP p) K te σ H fun t => t = .int (k : Int)) :
    EvP (GP p) K (tOp (rIxL K) tl (tCall spTake [] E (tCons (tVar i) (tCons te tNil)))) σ H Pt := p_ixL (way_pool p) hl (p_take hv hp ⟨by omega, by omega⟩ he) fun ts y h hy => by
  obtain ⟨z, rfl, z0, z1⟩ := hy
  have hz : z.toNat < ts.length := by rw [h.1]; omega
  exact ⟨z.toNat, ts[z.toNat], by rw [Int.toNat_of_nonneg z0], List.getElem?_eq_getElem hz, h.2 _ (List.getElem_mem hz)⟩
theorem rp_neI {Pt : Th → Prop} {i j : Int} (hp : Pt (.bool (!decide (i = j)))) : RP K rNe (.int i) (.int j) Pt := fun v u H hv hu Q q => by
  rw [rp_int hv, rp_int hu]
  exact ⟨rfl, by rw [dec_i]; exact q _ _ H (Ex.refl H) (.bl _) hp⟩
theorem rp_eqI {Pt : Th → Prop} {i j : Int} (hp : Pt (.bool (decide (i = j)))) : RP K rEq (.int i) (.int j) Pt := fun v u H hv hu Q q => by
  rw [rp_int hv, rp_int hu]
  exact ⟨rfl, by rw [dec_i]; exact q _ _ H (Ex.refl H) (.bl _) hp⟩
/-- int(a truth) -/
theorem p_intB {G : Hp → Hp → Prop} {σ : L2.St} {H : Hp} {te : TE} {Pt : Th → Prop} (h : EvP G K te σ H fun t => ∃ b, t = .bool b ∧ Pt (.int (if b then 1 else 0))) :
    EvP G K (tCB (fun xs H Q => (∃ i, xs = [.int i] ∧ Q (.int i) H) ∨ ∃ k, xs = [.bl k] ∧ Q (.int (if k then 1 else 0)) H) (tCons te tNil)) σ H Pt := fun H1 g Q q => h H1 g _ fun v t H2 g2 hr ht => by
  obtain ⟨b, rfl, hp⟩ := ht
  cases hr
  exact .inr ⟨b, rfl, q _ _ H2 g2 (.int _) hp⟩
theorem within_of {i lo hi : Int} (h1 : lo ≤ i) (h2 : i ≤ hi) : isWithin (.int i) lo hi = true := by
  show (true && (decide (lo ≤ i) && decide (i ≤ hi))) = true
  rw [decide_eq_true h1, decide_eq_true h2]
  rfl
theorem tupOf_of {ts : List Th} {lo hi : Int} (h1 : lo ≤ (ts.length : Int)) (h2 : (ts.length : Int) ≤ hi) : isTupleOf (.tup ts) lo hi = true := by
  show (true && (decide (lo ≤ (ts.length : Int)) && decide ((ts.length : Int) ≤ hi))) = true
  rw [decide_eq_true h1, decide_eq_true h2]
  rfl
/-- keys of a dict of tuples -/
def KeysOk (C : List Int → Prop) (kvs : List (List Key × V)) : Prop := ∀ p ∈ kvs, ∃ ns : List Int, p.1 = ns.map Sum.inl ∧ C ns
theorem keys_put {C : List Int → Prop} {kvs : List (List Key × V)} {ns : List Int} {v : V} (h : KeysOk C kvs) (hn : C ns) : KeysOk C (putK kvs (ns.map Sum.inl) v) ∧ (putK kvs (ns.map Sum.inl) v).length ≤ kvs.length + 1 := by
  unfold putK
  split
  · refine ⟨fun p hp => ?_, by simp⟩
    obtain ⟨q, hq, e⟩ := List.mem_map.mp hp
    obtain ⟨ms, e1, e2⟩ := h q hq
    refine ⟨ms, ?_, e2⟩
    rw [← e]
    split
    · exact e1
    · exact e1
  · refine ⟨fun p hp => ?_, by simp⟩
    rcases List.mem_append.mp hp with z | z
    · exact h p z
    · rw [List.mem_singleton.mp z]
      exact ⟨ns, rfl, hn⟩
theorem ra_ints {H : Hp} : ∀ (ns : List Int), RpAll K H (ns.map V.int) (ns.map Th.int)
  | [] => .nil
  | n :: ns => .cons (.int n) (ra_ints ns)
theorem ra_keys {H : Hp} : ∀ {L : List (Addr × List Int)}, (∀ q ∈ L, H q.1 = some (.tup (q.2.map V.int))) → RpAll K H (L.map fun q => V.ref q.1) ((L.map (·.2)).map tupI)
  | [], _ => .nil
  | q :: L, h => .cons (.tup (st_of (h q List.mem_cons_self)) (ra_ints q.2)) (ra_keys fun r hr => h r (List.mem_cons_of_mem _ hr))
/-- tuple(sorted(d)) -/
theorem p_sortDT {p d : Addr} {σ : L2.St} {H : Hp} {i n : Nat} {B : Int} {C : List Int → Prop} {kvs : List (List Key × V)} (hv : σ[i]? = some (some (.ref d))) (hne : d ≠ p) (hd : H d = some (.dT kvs)) (hl : kvs.length < 64) (hB : 0 < B) (hk : KeysOk (fun ns => (ns.length = n ∧ TS.Bd B ns) ∧ C ns) kvs) :
    EvP (GP p) K (tCB (rTupOf K) (tCons (tCB (rSortDT n B) (tCons (tVar i) tNil)) tNil)) σ H (fun t => ∃ L : List (List Int), t = .tup (L.map tupI) ∧ L.length = kvs.length ∧ (∀ ns ∈ L, C ns) ∧ rising (L.map tupI) = true) := fun H1 g Q q => by
  refine ⟨.ref d, hv, d, kvs, rfl, g.b d _ hne hd, hl, fun r hr => ?_, fun L pp perm nd ht hs hn => ?_⟩
  · obtain ⟨ns, e, ⟨e1, e2⟩, _⟩ := hk r hr
    exact ⟨ns, e, e1, e2⟩
  · refine ⟨pp, _, rfl, .inl ⟨sq_of upd_same, fun l hl => ?_⟩⟩
    have ex : Ex H1 (upd (upd H1 pp (.lst (L.map fun q => V.ref q.1))) l (.tup (L.map fun q => V.ref q.1))) := (Ex.new hn).trans (Ex.new hl)
    have mem : ∀ ns ∈ L.map (·.2), (ns.length = n ∧ TS.Bd B ns) ∧ C ns := fun ns hns => by
      have h1 : ns.map (Sum.inl : Int → Key) ∈ kvs.map (·.1) := perm.mem_iff.mp (by
        obtain ⟨q, hq, e⟩ := List.mem_map.mp hns
        exact List.mem_map.mpr ⟨q, hq, by rw [e]⟩)
      obtain ⟨r, hr, e⟩ := List.mem_map.mp h1
      obtain ⟨ms, e1, e2⟩ := hk r hr
      rw [e1] at e
      rw [← inl_inj e]
      exact e2
    refine q (.ref l) _ _ ((way_pool p).ex ex) (.tup (st_of upd_same) (ra_keys fun r hr => ex _ _ (ht r hr))) ⟨L.map (·.2), rfl, ?_, fun ns hns => (mem ns hns).2, rise_of hB (fun ns hns => (mem ns hns).1) nd (List.pairwise_map.mpr hs)⟩
    have := perm.length_eq
    simpa using this
end
end K42

set_option Elab.async false
set_option linter.all false
set_option maxRecDepth 100000
set_option maxHeartbeats 4000000
namespace K42
open PySem PySem.Spec PyProof.Rows L2 Evl DL GX YA EX TH TV YT DS LM EM
abbrev s_going_on : Stmt := topS 14
theorem sc_going_on : FnScope ["doffs", "beat", "number", "start", "end", "frame"] ["doffs", "beat"] (defScope s_going_on) := ⟨rfl, rfl, rfl, by decide +kernel, rfl, by decide +kernel, by decide +kernel⟩
abbrev s_plan_of : Stmt := topS 42
theorem sc_plan_of : FnScope ["doffs", "plan", "number", "start", "end", "frame", "busy", "free", "other", "doffer"] ["doffs"] (defScope s_plan_of) := ⟨rfl, rfl, rfl, by decide +kernel, rfl, by decide +kernel, by decide +kernel⟩
def dofD (d : Dof) : PyData := .tuple [.int d.1, .int d.2.1, .int d.2.2]
def doffsD (ds : List Dof) : PyData := .tuple (ds.map dofD)
def natD (k : Nat) : PyData := .int (k : Int)
theorem dAt_of {ds : List Dof} {k : Nat} {d : Dof} (h : ds[k]? = some d) : dAt ds k = d := by
  unfold dAt
  rw [List.getD_eq_getElem?_getD, h]
  rfl
theorem at_dAt {ds : List Dof} {k : Nat} (h : k < ds.length) : ds[k]? = some (dAt ds k) := by
  unfold dAt
  rw [List.getD_eq_getElem?_getD, List.getElem?_eq_getElem h]
  rfl
theorem da_two {K : PySem.W.Frag} {H : Hp} {vs : List V} {d : PyData} {b : Int} (h : DpAll K H vs [d, .int b]) : ∃ v, vs = [v, .int b] ∧ Dp K H v d := by
  cases h with
  | cons h1 h =>
    cases h with
    | cons h2 h =>
      cases h
      cases dp_int h2
      exact ⟨_, rfl, h1⟩
theorem da_one {K : PySem.W.Frag} {H : Hp} {vs : List V} {d : PyData} (h : DpAll K H vs [d]) : ∃ v, vs = [v] ∧ Dp K H v d := by
  cases h with
  | cons h1 h =>
    cases h
    exact ⟨_, rfl, h1⟩
def Rgoing : List PyData → PyData → Prop := fun as d => ∃ (ds : List Dof) (b : Int), as = [doffsD ds, .int b] ∧ ds.length ≤ 1000 ∧ d = .list ((going ds b).map natD)
def Rplan : List PyData → PyData → Prop := fun as d => ∃ (ds : List Dof), as = [doffsD ds] ∧ ds.length ≤ 1000 ∧ Ord ds ∧ d = .tuple ((planN ds ds.length).map natD)
section
variable {P : Program} {w : World} {K : PySem.W.Frag} {mg : Str → Option Value} {base : Heap}
theorem ok_going {f : Addr} {fd : FuncData} {k : Nat} (T : Bi mg) (D : Df K mg "going_on" s_going_on ["doffs", "beat"] f fd) : FnOk P w K mg base CX0 (k + 1) f fd ["doffs", "beat"] (spR K Rgoing) := by
  refine D.F.ok sc_going_on (fun vs H Q E h => ?_) (fun cdv A outer s H vs Q E hr h => ?_)
  · obtain ⟨_, _, hv, ⟨ds, b, rfl, _⟩, _⟩ := h
    obtain ⟨v, rfl, _⟩ := da_two hv
    rfl
  obtain ⟨_, _, hv, ⟨ds, b, rfl, hl, rfl⟩, q⟩ := h
  obtain ⟨v, rfl, d1⟩ := da_two hv
  refine ⟨_, (pss_one (ps_ret (pe_lc (own := [("number", 2), ("start", 3), ("end", 4), ("frame", 5)]) (g := (gTup K 2 (gCons (gName 2) (gCons (gTup K 3 (gCons (gName 3) (gCons (gName 4) (gCons (gName 5) gNil)))) gNil)))) rfl sc_going_on.nd (pi_enumT (by rfl) T.enumerate (pa_cons (pv 0) pa_nil)) (blkOk_by (N := ["doffs", "beat", "number", "start", "end", "frame"]) (sc := defScope s_going_on) (by decide +kernel)) (fun _ _ _ _ _ => (by exact (pg_tup rfl (pgs_cons (pg_name (i := 2) sc_going_on.nd rfl (.inl rfl)) (pgs_cons (by exact (pg_tup rfl (pgs_cons (pg_name (i := 3) sc_going_on.nd rfl (.inl rfl)) (pgs_cons (pg_name (i := 4) sc_going_on.nd rfl (.inl rfl)) (pgs_cons (pg_name (i := 5) sc_going_on.nd rfl (.inl rfl)) pgs_nil))))) pgs_nil))))) (fun _ _ _ _ _ => (pts_one (pt_chain op_le op_le (pv 3) (pv 1) (pv 4)))) (fun _ _ _ _ _ => (pv 2))))), ?_⟩
  refine sd_ret (v := .non) (ed_lcF (fun k => goesOn b (dAt ds k)) natD (ew_of0 (ew0_enum (ev_var rfl) d1)) (by rw [List.length_range]; omega) fun i k x H1 e1 hd hx => ?_) fun v H1 e1 hv => q v H1 e1 hv
  obtain ⟨d, hk, hx⟩ := hx
  rw [dAt_of hk]
  refine ⟨_, tg_num3 hx, rfl, et_D (K := K) (ed_chain (ed_var rfl (.int _)) (ed_var rfl (.int _)) (fun _ => ed_var rfl (.int _)) rd_B0 rd_B0), fun _ => ⟨rfl, ed_var rfl (.int _)⟩⟩
theorem nats_dp {H : Hp} {l : Addr} {ns : List Nat} (h : H l = some (.lst (ns.map fun (k : Nat) => V.int (k : Int)))) : Dp K H (.ref l) (.list (ns.map natD)) := by
  have e : ns.map (fun (k : Nat) => V.int (k : Int)) = (ns.map fun (k : Nat) => (k : Int)).map V.int := by rw [List.map_map]; rfl
  have e2 : ns.map natD = (ns.map fun (k : Nat) => (k : Int)).map PyData.int := by rw [List.map_map]; rfl
  rw [e] at h
  rw [e2]
  exact .lst (sq_of h) (da_ints _)
theorem nats_v {H : Hp} {xs : List V} {ns : List Nat} (h : DpAll K H xs (ns.map natD)) : xs = (ns.map fun (k : Nat) => (k : Int)).map V.int := by
  have e2 : ns.map natD = (ns.map fun (k : Nat) => (k : Int)).map PyData.int := by rw [List.map_map]; rfl
  rw [e2] at h
  exact da_ints_inv h
theorem inV_nats (ns : List Nat) (m : Nat) : inV (.int (m : Int)) ((ns.map fun (k : Nat) => (k : Int)).map V.int) = ns.contains m := by
  induction ns with
  | nil => rfl
  | cons n ns ih =>
    show (eqV (.int (n : Int)) (.int (m : Int)) || inV (.int (m : Int)) ((ns.map fun (k : Nat) => (k : Int)).map V.int)) = _
    rw [ih, List.contains_cons]
    congr 1
    show decide _ = _
    by_cases h : m = n
    · subst h
      simp
    · have h2 : ¬ ((n : Int) = (m : Int)) := by omega
      simp [h, h2]
theorem rd_notIn {ns : List Nat} {m : Nat} : RD K (rIn K true) (natD m) (.list (ns.map natD)) (.bool (!ns.contains m)) := fun v u H hv hu Q q => by
  obtain ⟨p, xs, rfl, hs, ha⟩ := dp_lst hu
  rw [nats_v ha] at hs
  cases dp_int hv
  refine ⟨p, _, rfl, .inl hs, rfl, ?_, ?_⟩
  · rw [List.map_map]
    exact List.all_eq_true.mpr fun y hy => by
      obtain ⟨k, _, rfl⟩ := List.mem_map.mp hy
      rfl
  · show Q (.bl (!inV _ _)) H
    rw [inV_nats]
    exact q _ H (Ex.refl H) (.bl _)
theorem ed_len {σ : L2.St} {H : Hp} {te : TE} {ds : List Dof} (h : EvD K te σ H (doffsD ds)) : Ev (tCB (rLenS K) (tCons te tNil)) σ H (.int (ds.length : Int)) := by
  have z := ev_int (ed_cbt (eda_cons h eda_nil) rdc_lenT)
  rw [List.length_map] at z
  exact z
theorem ok_plan_of {f f1 : Addr} {fd fd1 : FuncData} {k : Nat} (T : Bi mg) (D : Df K mg "plan_of" s_plan_of ["doffs"] f fd) (D_going_on : Df K mg "going_on" s_going_on ["doffs", "beat"] f1 fd1) : FnOk P w K mg base CX0 (k + 2) f fd ["doffs"] (spR K Rplan) := by
  have G_going_on : FnOk P w K mg base CX0 1 f1 fd1 ["doffs", "beat"] (spR K Rgoing) := ok_going T D_going_on
  refine D.F.ok sc_plan_of (fun vs H Q E h => ?_) (fun cdv A outer s H vs Q E hr h => ?_)
  · obtain ⟨_, _, hv, ⟨ds, rfl, _⟩, _⟩ := h
    obtain ⟨v, rfl, _⟩ := da_one hv
    rfl
  obtain ⟨_, _, hv, ⟨ds, rfl, hl, ho, rfl⟩, q⟩ := h
  obtain ⟨v, rfl, d1⟩ := da_one hv
  refine ⟨_, (pss_cons (ps_set (i := 1) sc_plan_of.nd rfl (.inr rfl) (pe_lst pa_nil))
      (pss_cons (ps_for PassesOwn.never rfl (pi_enumT (by rfl) T.enumerate (pa_cons (pv 0) pa_nil)) (pg_tup rfl (pgs_cons (pg_name (i := 2) sc_plan_of.nd rfl (.inr rfl)) (pgs_cons (pg_tup rfl (pgs_cons (pg_name (i := 3) sc_plan_of.nd rfl (.inl rfl)) (pgs_cons (pg_name (i := 4) sc_plan_of.nd rfl (.inl rfl)) (pgs_cons (pg_name (i := 5) sc_plan_of.nd rfl (.inl rfl)) pgs_nil)))) pgs_nil))) (pss_cons (ps_set (i := 6) sc_plan_of.nd rfl (.inr rfl) (pe_lc (own := [("other", 8)]) (g := (gName 8)) rfl sc_plan_of.nd (pi_list (pe_call G_going_on (hr.mono (by omega)) (by rfl) D_going_on.g D_going_on.F.kp D_going_on.b .nil pass0 (pa_cons (pv 0) (pa_cons (pv 3) pa_nil)))) (blkOk_by (N := ["doffs", "plan", "number", "start", "end", "frame", "busy", "free", "other", "doffer"]) (sc := defScope s_plan_of) (by decide +kernel)) (fun _ _ _ _ _ => (pg_name (i := 8) sc_plan_of.nd rfl (.inl rfl))) (fun _ _ _ _ _ => (pts_one (pt_cmpR op_lt (pv 8) (pv 2) (nomark _)))) (fun _ _ _ _ _ => (pe_ix (r := rIxL K) ix_list (pv 1) (pv 8) (fun _ _ => rfl)))))
      (pss_cons (ps_setLc (i := 7) (own := [("doffer", 9)]) (g := (gName 9)) rfl sc_plan_of.nd rfl rfl (sw_true rfl rfl rfl (by decide +kernel)) (pi_range1 rfl T.range (pa_cons (pe_callB (r := rLenS K) call_len_seq (by rfl) T.len PySem.boot_len (pa_cons (pv 0) pa_nil)) pa_nil)) (blkOk_by (N := ["doffs", "plan", "number", "start", "end", "frame", "busy", "free", "other", "doffer"]) (sc := defScope s_plan_of) (by decide +kernel)) (fun _ _ _ _ _ => (pg_name (i := 9) sc_plan_of.nd rfl (.inl rfl))) (fun _ _ _ _ _ => (pts_one (pt_cmpR (r := rIn K true) op_notIn_seq (pv 9) (pv 6) rfl))) (fun _ _ _ _ _ => (pv 9)))
      (pss_one (ps_expr (pe_bm PySem.F.plainAttrs_list PySem.F.slot_list_append PySem.F.type_list_append mt_append (pv 1) (pa_cons (pe_ix (r := rIxL K) ix_list (pv 7) pe_int (fun _ _ => rfl)) pa_nil)))))))
      (pss_one (ps_ret (pe_callTy (r := rTupOf K) call_tuple_of (by rfl) T.tuple boot_tuple (pa_cons (pv 1) pa_nil)))))), ?_⟩
  refine ⟨by show 0 ≤ sizeLine; decide, fun l hln => ?_⟩
  dsimp only [gName]
  refine q_for0 (ew0_enum (ev_var rfl) d1) (Ex.new hln) (fun i σ' H' => Ex H H' ∧ i ≤ ds.length ∧ H' l = some (.lst ((planN ds i).map fun (k : Nat) => V.int (k : Int))) ∧ ∃ y2 y3 y4 y5 y6 y7 y8 y9 : Option V, σ' = [some v, some (.ref l), y2, y3, y4, y5, y6, y7, y8, y9]) (fun H1 e1 => ?_) (fun _ _ _ p => p.1) (fun i k x σ' H' H2 hk p e2 hx => ?_) (fun σ' H' p => ?_)
  · exact ⟨(Ex.new hln).trans e1, Nat.zero_le _, e1 _ _ upd_same, _, _, _, _, _, _, _, _, rfl⟩
  · obtain ⟨ex, hi, hpl, y2, y3, y4, y5, y6, y7, y8, y9, rfl⟩ := p
    have hin : i < ds.length := by
      have := (List.getElem?_eq_some_iff.mp hk).1
      rw [List.length_range] at this
      exact this
    rw [List.getElem?_range hin] at hk
    cases hk
    obtain ⟨d, hd, hx⟩ := hx
    have ed : dAt ds i = d := dAt_of hd
    refine ⟨_, tg_num3 hx, ?_⟩
    have ex2 := ex.trans e2
    -- who is at work
    refine qd_asg (K := K) (d := .list ((busy ds (planN ds i) i).map natD)) (ed_is (ed_lcF (fun j => decide (j < i)) (fun j => natD ((planN ds i).getD j 0)) (ewm_lst (f := natD) (as := going ds d.1) (ed_call (R := Rgoing) (eda_cons (ed_var rfl (dp_mono ex2 d1)) (eda_cons (ed_var rfl (.int _)) eda_nil)) ⟨ds, d.1, rfl, hl, rfl⟩)) (Nat.le_trans (going_le ds d.1) (by omega)) fun i' j x' H3 e3 hj hx' => ?_) ?_) fun vb H3 e3 hvb => ?_
    · have hjn : j < ds.length := (mem_going.mp (List.mem_of_getElem? hj)).1
      refine ⟨_, tg_name, rfl, et_is (et_D (K := K) (ed_op (ed_var rfl hx') (ed_var rfl (.int (i : Int))) rd_B0)) (by simp), fun hlt => ⟨rfl, ?_⟩⟩
      have hji : j < i := of_decide_eq_true hlt
      have hpl3 := nats_dp (K := K) (e3 _ _ (e2 _ _ hpl))
      refine ed_op (ed_var rfl hpl3) (ed_var rfl hx') (rd_ixL (k := j) ?_ ?_)
      · rw [List.length_map, planN_len]
        exact ixN_nat hji
      · rw [List.getElem?_map, planN_get ds hji, planN_getD ds hji]
        rfl
    · rw [← ed]
      unfold busy
      rw [List.map_map]
      rfl
    -- who is free
    have ex3 := ex2.trans e3
    refine qd_asg (K := K) (d := .list ((free ds (planN ds i) i).map natD)) (ed_lcF (fun j => !(busy ds (planN ds i) i).contains j) natD (ewr_rng (ea_cons (ed_len (ed_var rfl (dp_mono ex3 d1))) ea_nil) ⟨by omega, by omega⟩) (by rw [List.length_range]; omega) fun i' j x' H4 e4 hj hx' => ?_) fun vf H4 e4 hvf => ?_
    · subst hx'
      exact ⟨_, tg_name, rfl, et_D (K := K) (ed_op (ed_var rfl (.int (j : Int))) (ed_var rfl (dp_mono e4 hvb)) rd_notIn), fun _ => ⟨rfl, ed_var rfl (.int (j : Int))⟩⟩
    have hpl4 : H4 l = some (.lst ((planN ds i).map fun (k : Nat) => V.int (k : Int))) := e4 _ _ (e3 _ _ (e2 _ _ hpl))
    have hfr : ∃ m rest, free ds (planN ds i) i = m :: rest := by
      cases e : free ds (planN ds i) i with
      | nil => exact absurd e (free_ne ho hin _)
      | cons m rest => exact ⟨m, rest, rfl⟩
    obtain ⟨m, rest, hfr⟩ := hfr
    rw [hfr] at hvf
    refine ⟨.ref l, rfl, .inl ⟨rfl, _, sq_of hpl4⟩, ed_op (ed_var rfl hvf) ed_ci (rd_ixL (K := K) (k := 0) (show ixN _ ((0 : Nat) : Int) = some 0 from ixN_nat (by rw [List.length_map]; exact Nat.succ_pos _)) rfl) H4 (Ex.refl H4) _ fun v5 H5 e5 hv5 => ?_⟩
    cases dp_int hv5
    have hpl5 := e5 _ _ hpl4
    refine ⟨l, _, _, rfl, rfl, hpl5, ?_, ?_⟩
    · rw [List.length_map, planN_len]
      exact sz_lt (by omega)
    · refine ⟨Ex.mut ((ex3.trans e4).trans e5) hln, hin, ?_, _, _, _, _, _, _, _, _, rfl⟩
      rw [upd_same]
      show some (HO.lst _) = some (HO.lst ((planN ds i ++ [(free ds (planN ds i) i).headD 0]).map _))
      rw [hfr, List.map_append]
      rfl
  · obtain ⟨ex, hi, hpl, y2, y3, y4, y5, y6, y7, y8, y9, rfl⟩ := p
    rw [List.length_range] at hpl
    exact sd_ret (v := .non) (ed_cbt (eda_cons (ed_var rfl (nats_dp (K := K) hpl)) eda_nil) rdc_tupL) fun v6 H6 e6 hv6 => q v6 H6 (ex.trans e6) hv6
end
end K42

set_option Elab.async false
set_option linter.all false
set_option maxRecDepth 100000
set_option maxHeartbeats 4000000
namespace K42
open PySem PySem.Spec PyProof.Rows L2 Evl DL GX YA EX TH TV YT DS LM EM
abbrev s_is_whole : Stmt := topS 2
theorem sc_is_whole : FnScope ["thing"] ["thing"] (defScope s_is_whole) := ⟨rfl, rfl, rfl, by decide +kernel, rfl, by decide +kernel, by decide +kernel⟩
abbrev s_is_within : Stmt := topS 3
theorem sc_is_within : FnScope ["thing", "low", "high"] ["thing", "low", "high"] (defScope s_is_within) := ⟨rfl, rfl, rfl, by decide +kernel, rfl, by decide +kernel, by decide +kernel⟩
abbrev s_is_beat : Stmt := topS 4
theorem sc_is_beat : FnScope ["thing"] ["thing"] (defScope s_is_beat) := ⟨rfl, rfl, rfl, by decide +kernel, rfl, by decide +kernel, by decide +kernel⟩
abbrev s_is_count : Stmt := topS 5
theorem sc_is_count : FnScope ["thing"] ["thing"] (defScope s_is_count) := ⟨rfl, rfl, rfl, by decide +kernel, rfl, by decide +kernel, by decide +kernel⟩
abbrev s_is_tuple_of : Stmt := topS 6
theorem sc_is_tuple_of : FnScope ["thing", "least", "most"] ["thing", "least", "most"] (defScope s_is_tuple_of) := ⟨rfl, rfl, rfl, by decide +kernel, rfl, by decide +kernel, by decide +kernel⟩
abbrev s_is_rising : Stmt := topS 7
theorem sc_is_rising : FnScope ["parts", "at"] ["parts"] (defScope s_is_rising) := ⟨rfl, rfl, rfl, by decide +kernel, rfl, by decide +kernel, by decide +kernel⟩
abbrev s_are_doffs : Stmt := topS 12
theorem sc_are_doffs : FnScope ["thing", "part"] ["thing"] (defScope s_are_doffs) := ⟨rfl, rfl, rfl, by decide +kernel, rfl, by decide +kernel, by decide +kernel⟩
abbrev s_is_doffing : Stmt := topS 13
theorem sc_is_doffing : FnScope ["thing", "start", "end", "frame"] ["thing"] (defScope s_is_doffing) := ⟨rfl, rfl, rfl, by decide +kernel, rfl, by decide +kernel, by decide +kernel⟩
abbrev s_need_doffs : Stmt := topS 41
theorem sc_need_doffs : FnScope ["thing"] ["thing"] (defScope s_need_doffs) := ⟨rfl, rfl, rfl, by decide +kernel, rfl, by decide +kernel, by decide +kernel⟩
abbrev s_need_many : Stmt := topS 37
theorem sc_need_many : FnScope ["thing"] ["thing"] (defScope s_need_many) := ⟨rfl, rfl, rfl, by decide +kernel, rfl, by decide +kernel, by decide +kernel⟩
theorem not_no {b : Bool} (h : (!b) = false) : b = true := by cases b <;> simp_all
structure DfC (K : PySem.W.Frag) (mg : Str → Option Value) (x : Str) (st : Stmt) (ps : List Str) (f : Addr) (fd : FuncData) (c : Addr) : Prop where
  C : FunC K x x st f fd c
  b : Binds K fd ps []
  g : mg x = some (.ref f)
section
variable {K : PySem.W.Frag} {mg : Str → Option Value} {x : Str} {st : Stmt} {ps : List Str} {f : Addr} {fd : FuncData} {c : Addr}
theorem DfC.F (D : DfC K mg x st ps f fd c) : Fun K x x st f fd := D.C.fn
theorem DfC.d (D : DfC K mg x st ps f fd c) : Df K mg x st ps f fd := ⟨D.F, D.b, D.g⟩
end
/-- a def that keeps its promise; a def; one with a table -/
def Pr (P : Program) (w : World) (K : PySem.W.Frag) (mg : Str → Option Value) (base : Heap) (k : Nat) (x : Str) (st : Stmt) (ps : List Str) (sp : Sp) : Prop := ∃ f fd, Df K mg x st ps f fd ∧ FnOk P w K mg base CX0 k f fd ps sp
def Dn (K : PySem.W.Frag) (mg : Str → Option Value) (x : Str) (st : Stmt) (ps : List Str) : Prop := ∃ f fd, Df K mg x st ps f fd
def Dt (K : PySem.W.Frag) (mg : Str → Option Value) (base : Heap) (Ps : List Addr) (x : Str) (st : Stmt) (ps : List Str) : Prop := ∃ f fd c PT, DfC K mg x st ps f fd c ∧ GxR.TabB base mg c PT ∧ PT ∈ Ps
section
variable {P : Program} {w : World} {K : PySem.W.Frag} {mg : Str → Option Value} {base : Heap} {Ps : List Addr}
theorem pr_whole (T : Bi mg) (D : Dn K mg "is_whole" s_is_whole ["thing"]) : Pr P w K mg base 1 "is_whole" s_is_whole ["thing"] (spF K Ps (fn1 isWhole)) := by
  obtain ⟨f, fd, D⟩ := D
  refine ⟨f, fd, D, D.F.ok sc_is_whole (len_spF fun ts b h => by obtain ⟨_, rfl, _⟩ := fn1_is h; rfl) (fun cdv A outer s H vs Q E hr h => ?_)⟩
  obtain ⟨ts, b, hv, hF, hT, q⟩ := h
  obtain ⟨t, rfl, rfl⟩ := fn1_is hF
  obtain ⟨v, rfl, hr1⟩ := ra1 hv
  refine ⟨_, (pss_one (ps_ret (pe_and (pe_callB (r := rIsi K) call_isi (by rfl) T.isinstance boot_isinstance (pa_cons (pv 0) (pa_cons (pe_bltn (by rfl) T.int boot_int (v := .ty "int") rfl) pa_nil))) (pe_one (pe_not (pe_callB (r := rIsi K) call_isi (by rfl) T.isinstance boot_isinstance (pa_cons (pv 0) (pa_cons (pe_bltn (by rfl) T.bool boot_bool (v := .ty "bool") rfl) pa_nil)))))))), ?_⟩
  refine sr_ret (ev_andV (ev_isi (ev_var rfl) hr1 (by decide)) fun _ => ev_notV (ev_isi (ev_var rfl) hr1 (by decide))) fun H1 e1 => ?_
  rw [whole_in]
  exact q H1 e1
theorem pr_within (T : Bi mg) (D : Dn K mg "is_within" s_is_within ["thing", "low", "high"]) (g1 : Pr P w K mg base 1 "is_whole" s_is_whole ["thing"] (spF K Ps (fn1 isWhole))) : Pr P w K mg base 2 "is_within" s_is_within ["thing", "low", "high"] (spF K Ps (fn3 isWithin)) := by
  obtain ⟨f, fd, D⟩ := D
  obtain ⟨f1, fd1, D_is_whole, G_is_whole⟩ := g1
  refine ⟨f, fd, D, D.F.ok sc_is_within (len_spF fun ts b h => by obtain ⟨_, _, _, rfl, _⟩ := fn3_is h; rfl) (fun cdv A outer s H vs Q E hr h => ?_)⟩
  obtain ⟨ts, b, hv, hF, hT, q⟩ := h
  obtain ⟨t, lo, hi, rfl, rfl⟩ := fn3_is hF
  obtain ⟨v, v2, v3, rfl, hr1, hr2, hr3⟩ := ra3 hv
  cases rp_int hr2
  cases rp_int hr3
  refine ⟨_, (pss_one (ps_ret (pe_and (pe_call G_is_whole (hr.mono (by omega)) (by rfl) D_is_whole.g D_is_whole.F.kp D_is_whole.b .nil pass0 (pa_cons (pv 0) pa_nil)) (pe_one (pe_chain op_le op_le (pv 1) (pv 0) (pv 2)))))), ?_⟩
  refine sr_ret (ev_andV (b := decide (lo ≤ asInt t) && decide (asInt t ≤ hi)) (ev_callF (F := fn1 isWhole) (ea_cons (ev_var rfl) ea_nil) (.cons hr1 .nil) rfl hT) fun hw => ?_) q
  obtain ⟨i, rfl⟩ := int_of hw
  cases rp_int hr1
  exact ev_chain (ev_var rfl) (ev_var rfl) (ev_var rfl) rv_I0 rv_I0
theorem pr_tuple_of (T : Bi mg) (D : Dn K mg "is_tuple_of" s_is_tuple_of ["thing", "least", "most"]) : Pr P w K mg base 1 "is_tuple_of" s_is_tuple_of ["thing", "least", "most"] (spF K Ps (fn3 isTupleOf)) := by
  obtain ⟨f, fd, D⟩ := D
  refine ⟨f, fd, D, D.F.ok sc_is_tuple_of (len_spF fun ts b h => by obtain ⟨_, _, _, rfl, _⟩ := fn3_is h; rfl) (fun cdv A outer s H vs Q E hr h => ?_)⟩
  obtain ⟨ts, b, hv, hF, hT, q⟩ := h
  obtain ⟨t, lo, hi, rfl, rfl⟩ := fn3_is hF
  obtain ⟨v, v2, v3, rfl, hr1, hr2, hr3⟩ := ra3 hv
  cases rp_int hr2
  cases rp_int hr3
  refine ⟨_, (pss_one (ps_ret (pe_and (pe_callB (r := rIsi K) call_isi (by rfl) T.isinstance boot_isinstance (pa_cons (pv 0) (pa_cons (pe_bltn (by rfl) T.tuple boot_tuple (v := .ty "tuple") rfl) pa_nil))) (pe_one (pe_chain op_le op_le (pv 1) (pe_callB (r := rLenS K) call_len_seq (by rfl) T.len PySem.boot_len (pa_cons (pv 0) pa_nil)) (pv 2)))))), ?_⟩
  refine sr_ret (ev_andV (b := decide (lo ≤ ((parts t).length : Int)) && decide (((parts t).length : Int) ≤ hi)) (ev_isi (ev_var rfl) hr1 (by decide)) fun hw => ?_) q
  obtain ⟨us, rfl⟩ := tup_of hw
  exact ev_chain (ev_var rfl) (ev_lenR (ev_var rfl) hr1) (ev_var rfl) rv_I0 rv_I0
theorem ev_tup {σ : L2.St} {H : Hp} {ta tb tc : TE} {E : XK} {v : V} {t : Th} {lo hi : Int} (h : Ev ta σ H v) (hr : Rp K H v t) (hl : Ev tb σ H (.int lo)) (hh : Ev tc σ H (.int hi)) (hT : Tb Ps H) : Ev (tCall (spF K Ps (fn3 isTupleOf)) [] E (tCons ta (tCons tb (tCons tc tNil)))) σ H (.bl (isTupleOf t lo hi)) :=
  ev_callF (F := fn3 isTupleOf) (ea_cons h (ea_cons hl (ea_cons hh ea_nil))) (.cons hr (.cons (.int lo) (.cons (.int hi) .nil))) rfl hT
theorem ev_win {σ : L2.St} {H : Hp} {ta tb tc : TE} {E : XK} {v : V} {t : Th} {lo hi : Int} (h : Ev ta σ H v) (hr : Rp K H v t) (hl : Ev tb σ H (.int lo)) (hh : Ev tc σ H (.int hi)) (hT : Tb Ps H) : Ev (tCall (spF K Ps (fn3 isWithin)) [] E (tCons ta (tCons tb (tCons tc tNil)))) σ H (.bl (isWithin t lo hi)) :=
  ev_callF (F := fn3 isWithin) (ea_cons h (ea_cons hl (ea_cons hh ea_nil))) (.cons hr (.cons (.int lo) (.cons (.int hi) .nil))) rfl hT
theorem pr_rising (T : Bi mg) (D : Dt K mg base Ps "is_rising" s_is_rising ["parts"]) : Pr P w K mg base 2 "is_rising" s_is_rising ["parts"] (spF K Ps fRising) := by
  obtain ⟨f, fd, c, PT, D, TB_is_rising, hPT⟩ := D
  refine ⟨f, fd, D.d, D.C.ok sc_is_rising (len_spF fun ts b h => by obtain ⟨_, rfl, _⟩ := fRising_is h; rfl) (fun A outer s H vs Q E hr h => ?_)⟩
  obtain ⟨ts, b, hv, hF, hT, q⟩ := h
  obtain ⟨us, rfl, hc, rfl⟩ := fRising_is hF
  obtain ⟨v, rfl, hr1⟩ := ra1 hv
  unfold cmpOk at hc
  rw [Bool.and_eq_true] at hc
  have hlen : us.length ≤ 1000 := of_decide_eq_true hc.2
  refine ⟨_, (pss_one (ps_ret (pe_allG (k := 0) (own := [("at", 1)]) (g := (gName 1)) (hr.mono (by omega)) (by rfl) T.all rfl sc_is_rising.nd TB_is_rising rfl ⟨blkOk_by (N := ["parts", "at"]) (sc := defScope s_is_rising) (by decide +kernel), rfl, by decide +kernel, rfl⟩ (pi_range1 rfl T.range (pa_cons (pe_op op_sub (pe_callB (r := rLenS K) call_len_seq (by rfl) T.len PySem.boot_len (pa_cons (pv 0) pa_nil)) pe_int) pa_nil)) (fun _ _ _ _ _ _ _ => (pg_name (i := 1) sc_is_rising.nd rfl (.inl rfl))) (fun _ _ _ _ _ _ _ hr => (pe_cmpR (r := rLtB K) (op_ltB (Nat.lt_of_le_of_lt (Nat.le_add_right _ 64) hr.units)) (pe_ix (r := rIxT K) ix_tup (pv 0) (pv 1) (fun _ _ => rfl)) (pe_ix (r := rIxT K) ix_tup (pv 0) (pe_op op_add (pv 1) pe_int) (fun _ _ => rfl)) (nomark _)))))), ?_⟩
  refine sr_ret (ev_all (fun (i : Nat) => thLt (us.getD i .none) (us.getD (i + 1) .none)) (ewr_rng (n := (us.length : Int) - 1) (ea_cons (ev_op (ev_lenR (ev_var rfl) hr1) ev_c rv_I0) ea_nil) ⟨by omega, by omega⟩) (hT PT hPT) fun i d x H1 e1 hd hx => ?_) q
  subst hx
  have hd2 : d < ((us.length : Int) - 1).toNat := by
    have := List.mem_of_getElem? hd
    simpa using this
  have h1 : d < us.length := by omega
  have h2 : d + 1 < us.length := by omega
  have g1 : us[d]? = some us[d] := List.getElem?_eq_getElem h1
  have g2 : us[d + 1]? = some us[d + 1] := List.getElem?_eq_getElem h2
  have e1' : us.getD d .none = us[d] := by rw [List.getD_eq_getElem?_getD, g1]; rfl
  have e2' : us.getD (d + 1) .none = us[d + 1] := by rw [List.getD_eq_getElem?_getD, g2]; rfl
  obtain ⟨u1, r1, k1⟩ := ix_of (i := (d : Int)) (rp_mono e1 hr1) g1 rfl
  obtain ⟨u2, r2, k2⟩ := ix_of (i := (d : Int) + 1) (rp_mono e1 hr1) g2 (by omega)
  refine ⟨_, tg_name, rfl, ?_⟩
  rw [e1', e2']
  refine ev_op (ev_op (ev_var rfl) (ev_var rfl) k1) (ev_op (ev_var rfl) (ev_op (ev_var rfl) ev_c rv_I0) k2) (rv_ltB r1 r2 ?_)
  rw [Bool.or_eq_true, List.all_eq_true, List.all_eq_true] at hc
  rcases hc.1 with hz | hz
  · exact .inl ⟨hz _ (List.getElem_mem h1), hz _ (List.getElem_mem h2)⟩
  · exact .inr ⟨hz _ (List.getElem_mem h1), hz _ (List.getElem_mem h2)⟩

def isBeat (t : Th) : Bool := isWithin t 1 (10 ^ 30)
def isCount (t : Th) : Bool := isWhole t && decide (0 ≤ asInt t)
def isDoffing (t : Th) : Bool := isTupleOf t 3 3 && match parts t with
  | [s, e, f] => isBeat s && (isWithin e (asInt s) (10 ^ 30 + 9) && isWithin f 0 3)
  | _ => false
def isDoffs (t : Th) : Bool := isTupleOf t 0 30 && ((parts t).all isDoffing && rising (parts t))
theorem three_of {us : List Th} (l1 : (3 : Int) ≤ (us.length : Int)) (l2 : (us.length : Int) ≤ 3) : ∃ x y z, us = [x, y, z] := by
  match us, l1, l2 with
  | [x, y, z], _, _ => exact ⟨x, y, z, rfl⟩
  | [], h, _ => simp at h
  | [_], h, _ => simp at h
  | [_, _], h, _ => simp at h
  | _ :: _ :: _ :: _ :: _, _, h => simp at h; omega
theorem doffing_tup {t : Th} (h : isDoffing t = true) : intTup t = true := by
  unfold isDoffing at h
  rw [Bool.and_eq_true] at h
  obtain ⟨us, rfl, l1, l2⟩ := tup_len h.1
  obtain ⟨x, y, z, rfl⟩ := three_of l1 l2
  have h2 : (isBeat x && (isWithin y (asInt x) (10 ^ 30 + 9) && isWithin z 0 3)) = true := h.2
  rw [Bool.and_eq_true, Bool.and_eq_true] at h2
  obtain ⟨i, rfl, _⟩ := int_within h2.1
  obtain ⟨j, rfl, _⟩ := int_within h2.2.1
  obtain ⟨k, rfl, _⟩ := int_within h2.2.2
  rfl
theorem pr_beat (T : Bi mg) (hB : ∃ t, mg "BIG" = some (.int (10 ^ 30) t)) (D : Dn K mg "is_beat" s_is_beat ["thing"]) (g2 : Pr P w K mg base 2 "is_within" s_is_within ["thing", "low", "high"] (spF K Ps (fn3 isWithin))) : Pr P w K mg base 3 "is_beat" s_is_beat ["thing"] (spF K Ps (fn1 isBeat)) := by
  obtain ⟨f, fd, D⟩ := D
  obtain ⟨f2, fd2, D_is_within, G_is_within⟩ := g2
  obtain ⟨tb, hbig⟩ := hB
  refine ⟨f, fd, D, D.F.ok sc_is_beat (len_spF fun ts b h => by obtain ⟨_, rfl, _⟩ := fn1_is h; rfl) (fun cdv A outer s H vs Q E hr h => ?_)⟩
  obtain ⟨ts, b, hv, hF, hT, q⟩ := h
  obtain ⟨t, rfl, rfl⟩ := fn1_is hF
  obtain ⟨v, rfl, hr1⟩ := ra1 hv
  refine ⟨_, (pss_one (ps_ret (pe_call G_is_within (hr.mono (by omega)) (by rfl) D_is_within.g D_is_within.F.kp D_is_within.b .nil pass0 (pa_cons (pv 0) (pa_cons pe_int (pa_cons (pe_glob rfl hbig (v := .int (10 ^ 30)) ⟨_, rfl⟩) pa_nil)))))), ?_⟩
  exact sr_ret (ev_win (ev_var rfl) hr1 ev_c ev_c hT) q
theorem pr_count (T : Bi mg) (D : Dn K mg "is_count" s_is_count ["thing"]) (g1 : Pr P w K mg base 1 "is_whole" s_is_whole ["thing"] (spF K Ps (fn1 isWhole))) : Pr P w K mg base 2 "is_count" s_is_count ["thing"] (spF K Ps (fn1 isCount)) := by
  obtain ⟨f, fd, D⟩ := D
  obtain ⟨f1, fd1, D_is_whole, G_is_whole⟩ := g1
  refine ⟨f, fd, D, D.F.ok sc_is_count (len_spF fun ts b h => by obtain ⟨_, rfl, _⟩ := fn1_is h; rfl) (fun cdv A outer s H vs Q E hr h => ?_)⟩
  obtain ⟨ts, b, hv, hF, hT, q⟩ := h
  obtain ⟨t, rfl, rfl⟩ := fn1_is hF
  obtain ⟨v, rfl, hr1⟩ := ra1 hv
  refine ⟨_, (pss_one (ps_ret (pe_and (pe_call G_is_whole (hr.mono (by omega)) (by rfl) D_is_whole.g D_is_whole.F.kp D_is_whole.b .nil pass0 (pa_cons (pv 0) pa_nil)) (pe_one (pe_cmpR op_ge (pv 0) pe_int (nomark _)))))), ?_⟩
  refine sr_ret (ev_andV (b := decide (0 ≤ asInt t)) (ev_callF (F := fn1 isWhole) (ea_cons (ev_var rfl) ea_nil) (.cons hr1 .nil) rfl hT) fun hw => ?_) q
  obtain ⟨i, rfl⟩ := int_of hw
  cases rp_int hr1
  exact ev_op (ev_var rfl) ev_c rv_I0
theorem pr_doffing (T : Bi mg) (hB : ∃ t, mg "BIG" = some (.int (10 ^ 30) t)) (hM : ∃ t, mg "MOST_DOFF" = some (.int 9 t)) (hF : ∃ t, mg "MOST_FRAMES" = some (.int 4 t)) (D : Dn K mg "is_doffing" s_is_doffing ["thing"]) (g1 : Pr P w K mg base 1 "is_tuple_of" s_is_tuple_of ["thing", "least", "most"] (spF K Ps (fn3 isTupleOf)))
    (g2 : Pr P w K mg base 2 "is_within" s_is_within ["thing", "low", "high"] (spF K Ps (fn3 isWithin))) (g3 : Pr P w K mg base 3 "is_beat" s_is_beat ["thing"] (spF K Ps (fn1 isBeat))) : Pr P w K mg base 4 "is_doffing" s_is_doffing ["thing"] (spF K Ps (fn1 isDoffing)) := by
  obtain ⟨f, fd, D⟩ := D
  obtain ⟨f1, fd1, D_is_tuple_of, G_is_tuple_of⟩ := g1
  obtain ⟨f2, fd2, D_is_within, G_is_within⟩ := g2
  obtain ⟨f3, fd3, D_is_beat, G_is_beat⟩ := g3
  obtain ⟨tb, hbig⟩ := hB
  obtain ⟨tm, hmd⟩ := hM
  obtain ⟨tf, hmf⟩ := hF
  refine ⟨f, fd, D, D.F.ok sc_is_doffing (len_spF fun ts b h => by obtain ⟨_, rfl, _⟩ := fn1_is h; rfl) (fun cdv A outer s H vs Q E hr h => ?_)⟩
  obtain ⟨ts, b, hv, hF, hT, q⟩ := h
  obtain ⟨t, rfl, rfl⟩ := fn1_is hF
  obtain ⟨v, rfl, hr1⟩ := ra1 hv
  refine ⟨_, (pss_cons (ps_if (pt_not (pt_val (pe_call G_is_tuple_of (hr.mono (by omega)) (by rfl) D_is_tuple_of.g D_is_tuple_of.F.kp D_is_tuple_of.b .nil pass0 (pa_cons (pv 0) (pa_cons pe_int (pa_cons pe_int pa_nil)))))) (pss_one (ps_ret pe_bl)) pss_nil)
      (pss_cons (ps_asg (pv 0) (pg_tup rfl (pgs_cons (pg_name (i := 1) sc_is_doffing.nd rfl (.inl rfl)) (pgs_cons (pg_name (i := 2) sc_is_doffing.nd rfl (.inl rfl)) (pgs_cons (pg_name (i := 3) sc_is_doffing.nd rfl (.inl rfl)) pgs_nil)))))
      (pss_one (ps_ret (pe_and (pe_call G_is_beat (hr.mono (by omega)) (by rfl) D_is_beat.g D_is_beat.F.kp D_is_beat.b .nil pass0 (pa_cons (pv 1) pa_nil)) (pe_and (pe_call G_is_within (hr.mono (by omega)) (by rfl) D_is_within.g D_is_within.F.kp D_is_within.b .nil pass0 (pa_cons (pv 2) (pa_cons (pv 1) (pa_cons (pe_op op_add (pe_glob rfl hbig (v := .int (10 ^ 30)) ⟨_, rfl⟩) (pe_glob rfl hmd (v := .int 9) ⟨_, rfl⟩)) pa_nil)))) (pe_one (pe_call G_is_within (hr.mono (by omega)) (by rfl) D_is_within.g D_is_within.F.kp D_is_within.b .nil pass0 (pa_cons (pv 3) (pa_cons pe_int (pa_cons (pe_op op_sub (pe_glob rfl hmf (v := .int 4) ⟨_, rfl⟩) pe_int) pa_nil))))))))))), ?_⟩
  refine q_when (et_not (et_B (ev_tup (ev_var rfl) hr1 ev_c ev_c hT))) (fun hb H1 e1 => ?_) (fun hb H1 e1 => ?_)
  · have hz : isDoffing t = false := by
      unfold isDoffing
      have : isTupleOf t 3 3 = false := by simpa using hb
      rw [this]
      rfl
    rw [hz] at q
    exact q H1 e1
  · have hw : isTupleOf t 3 3 = true := by simpa using hb
    obtain ⟨us, rfl, l1, l2⟩ := tup_len hw
    obtain ⟨k1, k2, k3, rfl⟩ := three_of l1 l2
    obtain ⟨a, xs, rfl, hs, ha⟩ := rp_tup (rp_mono e1 hr1)
    obtain ⟨v1, v2, v3, rfl, r1, r2, r3⟩ := ra3 ha
    have hT1 := hT.ex e1
    refine ⟨.ref a, rfl, a, [v1, v2, v3], rfl, hs, rfl, _, _, rfl, _, _, rfl, _, _, rfl, rfl, ?_⟩
    dsimp only
    have hq : ∀ H', Ex H1 H' → Q (.bl (isBeat k1 && (isWithin k2 (asInt k1) (10 ^ 30 + 9) && isWithin k3 0 3))) H' := fun H' e' => by
      have z := q H' (e1.trans e')
      unfold isDoffing at z
      rw [hw, Bool.true_and] at z
      exact z
    refine sr_ret (ev_andV (ev_callF (F := fn1 isBeat) (ea_cons (ev_var rfl) ea_nil) (.cons r1 .nil) rfl hT1) fun h1 => ?_) hq
    obtain ⟨i, rfl, _, _⟩ := int_within h1
    cases rp_int r1
    exact ev_andV (ev_win (ev_var rfl) r2 (ev_var rfl) (ev_op ev_c ev_c rv_I0) hT1) fun _ => ev_win (ev_var rfl) r3 ev_c (ev_op ev_c ev_c rv_I0) hT1
theorem pr_doffs (T : Bi mg) (hM : ∃ t, mg "MOST_DOFFS" = some (.int 30 t)) (D : Dt K mg base Ps "are_doffs" s_are_doffs ["thing"]) (g1 : Pr P w K mg base 1 "is_tuple_of" s_is_tuple_of ["thing", "least", "most"] (spF K Ps (fn3 isTupleOf))) (g2 : Pr P w K mg base 4 "is_doffing" s_is_doffing ["thing"] (spF K Ps (fn1 isDoffing)))
    (g3 : Pr P w K mg base 2 "is_rising" s_is_rising ["parts"] (spF K Ps fRising)) : Pr P w K mg base 6 "are_doffs" s_are_doffs ["thing"] (spF K Ps (fn1 isDoffs)) := by
  obtain ⟨tm, hmo⟩ := hM
  obtain ⟨f, fd, c, PT, D, TB_are_doffs, hPT⟩ := D
  obtain ⟨f1, fd1, D_is_tuple_of, G_is_tuple_of⟩ := g1
  obtain ⟨f2, fd2, D_is_doffing, G_is_doffing⟩ := g2
  obtain ⟨f3, fd3, D_is_rising, G_is_rising⟩ := g3
  refine ⟨f, fd, D.d, D.C.ok sc_are_doffs (len_spF fun ts b h => by obtain ⟨_, rfl, _⟩ := fn1_is h; rfl) (fun A outer s H vs Q E hr h => ?_)⟩
  obtain ⟨ts, b, hv, hF, hT, q⟩ := h
  obtain ⟨t, rfl, rfl⟩ := fn1_is hF
  obtain ⟨v, rfl, hr1⟩ := ra1 hv
  refine ⟨_, (pss_one (ps_ret (pe_and (pe_call G_is_tuple_of (hr.mono (by omega)) (by rfl) D_is_tuple_of.g D_is_tuple_of.F.kp D_is_tuple_of.b .nil pass0 (pa_cons (pv 0) (pa_cons pe_int (pa_cons (pe_glob rfl hmo (v := .int 30) ⟨_, rfl⟩) pa_nil)))) (pe_and (pe_allG (k := 4) (own := [("part", 1)]) (g := (gName 1)) (hr.mono (by omega)) (by rfl) T.all rfl sc_are_doffs.nd TB_are_doffs rfl ⟨blkOk_by (N := ["thing", "part"]) (sc := defScope s_are_doffs) (by decide +kernel), rfl, by decide +kernel, rfl⟩ (pi_tup (pv 0)) (fun _ _ _ _ _ _ _ => (pg_name (i := 1) sc_are_doffs.nd rfl (.inl rfl))) (fun _ _ _ _ _ _ _ hr => (pe_call G_is_doffing (hr.mono (by omega)) (by rfl) D_is_doffing.g D_is_doffing.F.kp D_is_doffing.b .nil pass0 (pa_cons (pv 1) pa_nil)))) (pe_one (pe_call G_is_rising (hr.mono (by omega)) (by rfl) D_is_rising.g D_is_rising.F.kp D_is_rising.b .nil pass0 (pa_cons (pv 0) pa_nil))))))), ?_⟩
  refine sr_ret (ev_andV (b := (parts t).all isDoffing && rising (parts t)) (ev_tup (ev_var rfl) hr1 ev_c ev_c hT) fun hw => ?_) q
  obtain ⟨us, rfl, _, l2⟩ := tup_len hw
  refine ev_andV (ev_all isDoffing (ewr_tup (ev_var rfl) hr1) (hT PT hPT) fun i d x H1 e1 hd hx => ⟨_, tg_name, rfl, ev_callF (F := fn1 isDoffing) (ea_cons (ev_var rfl) ea_nil) (.cons hx .nil) rfl (hT.ex e1)⟩) fun hall => ?_
  refine ev_callF (F := fRising) (ea_cons (ev_var rfl) ea_nil) (.cons hr1 .nil) ?_ hT
  show (if cmpOk us = true then some (rising us) else none) = _
  rw [if_pos]
  · rfl
  · unfold cmpOk
    have h1 : us.all intTup = true := List.all_eq_true.mpr fun t ht => doffing_tup (List.all_eq_true.mp hall t ht)
    have h2 : us.length ≤ 1000 := by omega
    rw [h1, decide_eq_true h2, Bool.or_true]
    rfl
/-- what is never come to -/
theorem pss_never {X : Cx} {st : List Stmt} : PSs X st (fun _ _ _ => False) := ⟨fun _ _ _ _ _ _ h => h.elim⟩
end
/-- a class of errors that may be raised -/
structure Rz (K : PySem.W.Frag) (mg : Str → Option Value) (nm : Str) (C : Addr) : Prop where
  g : mg nm = some (.ref C)
  x : PySem.W.excIn K C [.type "ValueError", .type "Exception", .type "BaseException", .type "object"] "ValueError.__new__" = true
  k : PySem.W.keepIn K (.ref C) = true
  b : PySem.W.subIn K (.ref C) (.type "BaseException") = some true
  t : PySem.W.typeIn K (.ref C) = some (.type "type")
/-- a def that refuses with the class at C what isn't such, and else does nothing -/
def spNeed (K : PySem.W.Frag) (Ps : List Addr) (C : Addr) (F : Th → Bool) : Sp := fun vs H Q E => ∃ t, RpAll K H vs [t] ∧ Tb Ps H ∧ (F t = true → ∀ H', Ex H H' → Q .non H') ∧ (F t = false → ∀ H', Ex H H' → E (.ref C) none H')
section
variable {P : Program} {w : World} {K : PySem.W.Frag} {mg : Str → Option Value} {base : Heap} {Ps : List Addr}
theorem ok_needD {f f1 C : Addr} {fd fd1 : FuncData} {k : Nat} {st1 : Stmt} (T : Bi mg) (R : Rz K mg "NoDoffs" C) (D : Df K mg "need_doffs" s_need_doffs ["thing"] f fd) (D_are_doffs : Df K mg "are_doffs" st1 ["thing"] f1 fd1) (G_are_doffs : FnOk P w K mg base CX0 k f1 fd1 ["thing"] (spF K Ps (fn1 isDoffs))) :
    FnOk P w K mg base (L2.CX P w) (k + 1) f fd ["thing"] (spNeed K Ps C isDoffs) := by
  refine D.F.okX sc_need_doffs (fun vs H Q E h => by obtain ⟨t, hr, _⟩ := h; rw [ra_len hr]; rfl) (fun cdv A outer s H vs Q E hr h => ?_)
  obtain ⟨t, hv, hT, hyes, hno⟩ := h
  obtain ⟨v, rfl, hr1⟩ := ra1 hv
  refine ⟨_, (pss_one (ps_if (pt_not (pt_val (pe_call G_are_doffs (hr.mono (by omega)) (by rfl) D_are_doffs.g D_are_doffs.F.kp D_are_doffs.b .nil pass0 (pa_cons (pv 0) pa_nil)))) (pss_one (ps_raise rfl (takes_of rfl rfl rfl rfl) (pmk_own PySem.F.excBase_ValueError R.x R.g R.k (raises_own R.b R.t) rfl))) pss_nil)), ?_⟩
  refine s_if (et_not (et_B (ev_callF (F := fn1 isDoffs) (ea_cons (ev_var rfl) ea_nil) (.cons hr1 .nil) rfl hT))) (fun hb H1 e1 => ?_) (fun hb H1 e1 => ?_)
  · exact hno (by simpa using hb) H1 e1
  · exact hyes (not_no hb) H1 e1
theorem ok_needM {f f1 C : Addr} {fd fd1 : FuncData} {k : Nat} {st1 : Stmt} (T : Bi mg) (R : Rz K mg "NoMany" C) (D : Df K mg "need_many" s_need_many ["thing"] f fd) (D_is_count : Df K mg "is_count" st1 ["thing"] f1 fd1) (G_is_count : FnOk P w K mg base CX0 k f1 fd1 ["thing"] (spF K Ps (fn1 isCount))) :
    FnOk P w K mg base (L2.CX P w) (k + 1) f fd ["thing"] (spNeed K Ps C isCount) := by
  refine D.F.okX sc_need_many (fun vs H Q E h => by obtain ⟨t, hr, _⟩ := h; rw [ra_len hr]; rfl) (fun cdv A outer s H vs Q E hr h => ?_)
  obtain ⟨t, hv, hT, hyes, hno⟩ := h
  obtain ⟨v, rfl, hr1⟩ := ra1 hv
  refine ⟨_, (pss_one (ps_if (pt_not (pt_val (pe_call G_is_count (hr.mono (by omega)) (by rfl) D_is_count.g D_is_count.F.kp D_is_count.b .nil pass0 (pa_cons (pv 0) pa_nil)))) (pss_one (ps_raise rfl (takes_of rfl rfl rfl rfl) (pmk_own PySem.F.excBase_ValueError R.x R.g R.k (raises_own R.b R.t) rfl))) pss_nil)), ?_⟩
  refine s_if (et_not (et_B (ev_callF (F := fn1 isCount) (ea_cons (ev_var rfl) ea_nil) (.cons hr1 .nil) rfl hT))) (fun hb H1 e1 => ?_) (fun hb H1 e1 => ?_)
  · exact hno (by simpa using hb) H1 e1
  · exact hyes (not_no hb) H1 e1
end
end K42

set_option Elab.async false
set_option linter.all false
set_option maxRecDepth 100000
set_option maxHeartbeats 4000000
namespace K42
open PySem PySem.Spec PyProof.Rows L2 Evl DL GX YA EX TH TV YT DS LM LamX EM
abbrev s_least_doffers : Stmt := topS 39
theorem sc_least_doffers : FnScope ["doffs", "beat", "doffing", "start"] ["doffs"] (defScope s_least_doffers) := ⟨rfl, rfl, rfl, by decide +kernel, rfl, by decide +kernel, by decide +kernel⟩
abbrev s_with_doffers : Stmt := topS 40
theorem sc_with_doffers : FnScope ["doffs", "many", "start", "end", "frame", "numbers"] ["doffs", "many"] (defScope s_with_doffers) := ⟨rfl, rfl, rfl, by decide +kernel, rfl, by decide +kernel, by decide +kernel⟩
/-! ### data under lambdas -/
mutual
theorem dp_extN {K : PySem.W.Frag} {H H' : Hp} (e : ExtN H H') : ∀ {d : PyData} {v : V}, Dp K H v d → Dp K H' v d
  | .none, _, h => by cases h; exact .non
  | .bool b, _, h => by cases h; exact .bl b
  | .int i, _, h => by cases h; exact .int i
  | .str x, _, h => by cases h; exact .str x
  | .list ds, _, h => by
    cases h with
    | lst hs ha => exact .lst (sql_extN e hs) (da_extN e ha)
  | .tuple ds, _, h => by
    cases h with
    | tup hs ha => exact .tup (sqt_extN e hs) (da_extN e ha)
  | .dict _, _, h => by cases h
theorem da_extN {K : PySem.W.Frag} {H H' : Hp} (e : ExtN H H') : ∀ {ds : List PyData} {vs : List V}, DpAll K H vs ds → DpAll K H' vs ds
  | [], _, h => by cases h; exact .nil
  | d :: ds, _, h => by
    cases h with
    | cons h1 h2 => exact .cons (dp_extN e h1) (da_extN e h2)
end
theorem tb_extN {Ps : List Addr} {H H' : Hp} (e : ExtN H H') (h : Tb Ps H) : Tb Ps H' := fun p hp => e _ _ (h p hp) fun ps z => by
  unfold TabE at z
  cases z
/-! ### doffings as things -/
def dofT (d : Dof) : Th := tupI [d.1, d.2.1, d.2.2]
def doffsT (ds : List Dof) : Th := .tup (ds.map dofT)
structure Good (ds : List Dof) : Prop where
  len : ds.length ≤ 30
  bnd : ∀ d ∈ ds, (1 ≤ d.1 ∧ d.1 ≤ 10 ^ 30) ∧ (d.1 ≤ d.2.1 ∧ d.2.1 ≤ 10 ^ 30 + 9) ∧ (0 ≤ d.2.2 ∧ d.2.2 ≤ 3)
  ris : rising (ds.map dofT) = true
theorem dp_rpD {K : PySem.W.Frag} {H : Hp} {v : V} {ds : List Dof} (h : Dp K H v (doffsD ds)) : Rp K H v (doffsT ds) := by
  obtain ⟨a, xs, rfl, hs, ha⟩ := dp_tup h
  refine .tup hs ?_
  clear hs h
  induction ds generalizing xs with
  | nil => cases ha; exact .nil
  | cons d ds ih =>
    cases ha with
    | cons h1 h2 =>
      refine .cons ?_ (ih _ h2)
      obtain ⟨b, ys, rfl, hs, hb⟩ := dp_tup h1
      have e : ys = [d.1, d.2.1, d.2.2].map V.int := da_ints_inv (ns := [d.1, d.2.1, d.2.2]) hb
      subst e
      exact .tup hs (ra_ints _)
theorem rp_dpD {K : PySem.W.Frag} {H : Hp} {v : V} {ds : List Dof} (h : Rp K H v (doffsT ds)) : Dp K H v (doffsD ds) := by
  obtain ⟨a, xs, rfl, hs, ha⟩ := rp_tup h
  refine .tup hs ?_
  clear hs h
  induction ds generalizing xs with
  | nil => cases ha; exact .nil
  | cons d ds ih =>
    cases ha with
    | cons h1 h2 =>
      refine .cons ?_ (ih _ h2)
      obtain ⟨b, ys, rfl, hs, hb⟩ := rp_tup h1
      obtain ⟨v1, v2, v3, rfl, r1, r2, r3⟩ := ra3 hb
      cases rp_int r1
      cases rp_int r2
      cases rp_int r3
      exact .tup hs (.cons (.int _) (.cons (.int _) (.cons (.int _) .nil)))
theorem good_is {ds : List Dof} (g : Good ds) : isDoffs (doffsT ds) = true := by
  unfold isDoffs doffsT
  rw [tupOf_of (by rw [List.length_map]; omega) (by have := g.len; rw [List.length_map]; omega), Bool.true_and]
  show ((ds.map dofT).all isDoffing && rising (ds.map dofT)) = true
  rw [g.ris, Bool.and_true]
  refine List.all_eq_true.mpr fun t ht => ?_
  obtain ⟨d, hd, rfl⟩ := List.mem_map.mp ht
  obtain ⟨h1, h2, h3⟩ := g.bnd d hd
  show (isTupleOf (.tup [.int d.1, .int d.2.1, .int d.2.2]) 3 3 && (isWithin (.int d.1) 1 (10 ^ 30) && (isWithin (.int d.2.1) d.1 (10 ^ 30 + 9) && isWithin (.int d.2.2) 0 3))) = true
  rw [tupOf_of (by show (3 : Int) ≤ 3; decide) (by show (3 : Int) ≤ 3; decide), within_of h1.1 h1.2, within_of h2.1 h2.2, within_of h3.1 h3.2]
  rfl
theorem good_ord {ds : List Dof} (g : Good ds) : EM.Ord ds := by
  have step : ∀ i, i + 1 < ds.length → (dAt ds i).1 ≤ (dAt ds (i + 1)).1 := fun i hi => by
    have h := g.ris
    unfold rising at h
    have h1 := List.all_eq_true.mp h i (List.mem_range.mpr (by rw [List.length_map]; omega))
    have e1 : (ds.map dofT).getD i .none = dofT (dAt ds i) := by rw [List.getD_eq_getElem?_getD, List.getElem?_map, at_dAt (by omega)]; rfl
    have e2 : (ds.map dofT).getD (i + 1) .none = dofT (dAt ds (i + 1)) := by rw [List.getD_eq_getElem?_getD, List.getElem?_map, at_dAt hi]; rfl
    rw [e1, e2] at h1
    generalize dAt ds i = a at h1 ⊢
    generalize dAt ds (i + 1) = b at h1 ⊢
    have h2 : HT.lexLt [a.1, a.2.1, a.2.2] [b.1, b.2.1, b.2.2] = true := h1
    rw [HT.lexLt_cons] at h2
    by_cases e : a.1 = b.1
    · omega
    · rw [if_neg e] at h2
      have := of_decide_eq_true h2
      omega
  refine ⟨fun i j hij hj => ?_, fun k hk => ?_⟩
  · induction j with
    | zero =>
      have : i = 0 := by omega
      subst this
      exact Int.le_refl _
    | succ j ih =>
      by_cases e : i = j + 1
      · subst e
        exact Int.le_refl _
      · exact Int.le_trans (ih (by omega) (by omega)) (step j hj)
  · exact (g.bnd _ (List.mem_of_getElem? (at_dAt hk))).2.1.1
def lamQ : Str := "least_doffers.<locals>.<lambda>"
def lamPos : Pos := ⟨81, 54, 81, 95⟩
/-- what least_doffers tells -/
def keyF (ds : List Dof) : Int → Int := fun b => ((going ds b).length : Int)
def starts (ds : List Dof) : List Int := ds.map (·.1)
def leastD (ds : List Dof) : PyData := match bestK (keyF ds) (starts ds) with
  | none => .tuple [.int 0, .tuple [], .none]
  | some (b, _) => .tuple [.int (keyF ds b), .tuple ((planN ds ds.length).map natD), .int b]
def spLeast (K : PySem.W.Frag) (Ps : List Addr) (TL : List (Addr × Pos × Str)) (C : Addr) : Sp := fun vs H Q E => Tb Ps H ∧ ((∃ t, RpAll K H vs [t] ∧ isDoffs t = false ∧ ∀ H', Ex H H' → E (.ref C) none H') ∨
  ∃ v ds, vs = [v] ∧ Dp K H v (doffsD ds) ∧ Good ds ∧ Tbs TL H ∧ ∀ v' H', ExtN H H' → Tbs TL H' → Dp K H' v' (leastD ds) → Q v' H')
section
variable {P : Program} {w : World} {K : PySem.W.Frag} {mg : Str → Option Value} {base : Heap} {Ps : List Addr} {TL : List (Addr × Pos × Str)}
theorem ed_going {σ : L2.St} {H : Hp} {ta tb : TE} {E : XK} {ds : List Dof} {b : Int} (h1 : EvD K ta σ H (doffsD ds)) (h2 : EvD K tb σ H (.int b)) (hl : ds.length ≤ 1000) : EvD K (tCall (spR K Rgoing) [] E (tCons ta (tCons tb tNil))) σ H (.list ((going ds b).map natD)) :=
  ed_call (R := Rgoing) (eda_cons h1 (eda_cons h2 eda_nil)) ⟨ds, b, rfl, hl, rfl⟩
theorem ed_many {σ : L2.St} {H : Hp} {ta : TE} {ns : List Nat} (h : EvD K ta σ H (.list (ns.map natD))) : EvD K (tCB (rLenS K) (tCons ta tNil)) σ H (.int (ns.length : Int)) := by
  have z := ed_cbt (eda_cons h eda_nil) rdc_lenL
  rw [List.length_map] at z
  exact z
theorem FunC_okX {x qual : Str} {st : Stmt} {f c : Addr} {fd : FuncData} {N ps : List Str} {k : Nat} {sp : Sp} (F : FunC K x qual st f fd c) (S : FnScope N ps (defScope st)) (len : ∀ vs H Q E, sp vs H Q E → vs.length = ps.length)
    (hbody : ∀ (A : Around) (outer : List Env) (s : Shared) (H : Hp) (vs : List V) (Q : VK) (E : XK), Room k (A.deeper (envOfC qual (defScope st) s.heap.objs.size f (.ref c))) → sp vs H Q E →
      ∃ t, PSs (cxOf (L2.CX P w) P w K mg base N qual (defScope st) f (.ref c) A outer s H E) (defBody st) t ∧ t { nx := fun _ H' => Q .non H', rt := Q } (start N vs) H) : FnOk P w K mg base (L2.CX P w) (k + 1) f fd ps sp := by
  obtain ⟨oc, od, kV, doc, pm, an, ct, osl, rfl, lk, hcd⟩ := F.ex
  exact fn_of lk hcd S len fun A outer s H vs Q E hr hsp => hbody A outer s H vs Q E hr hsp
theorem q_maxL {T : List (Addr × Pos × Str)} {te tb : TE} {i j : Nat} {tz : TS} {D : Ends} {σ : L2.St} {H : Hp} {d : PyData} (h : EvD K te σ H d) (k : ∀ lv H1, Ex H H1 → Dp K H1 lv d → rMaxL K T tb j σ (fun v H' => tz D (σ.set i (some v)) H') [lv] H1) : tSeq (tAsg (tMaxL K T te tb j) (gName i)) tz D σ H := h H (Ex.refl H) _ fun lv H1 e hv => k lv H1 e hv
theorem wipe_set {σ : L2.St} {j : Nat} {x : Option V} (h : wipe σ [j] = σ) : wipe (σ.set j x) [j] = σ := by
  show (σ.set j x).set j none = σ
  rw [List.set_set]
  exact h
theorem et_truT {σ : L2.St} {H : Hp} {te : TE} {ds : List PyData} (h : EvD K te σ H (.tuple ds)) : EvT (fun σ H Q => te σ H fun x H' => ∃ k, TruV K x H' k ∧ Q k H') σ H (!ds.isEmpty) := fun H1 e Q q => h H1 e _ fun v H2 e2 hv => by
  obtain ⟨a, xs, rfl, hs, ha⟩ := dp_tup hv
  refine ⟨_, .inr (.inl ⟨xs, hs, rfl⟩), ?_⟩
  have e : xs.isEmpty = ds.isEmpty := by
    have := da_len ha
    cases xs <;> cases ds <;> simp_all
  rw [e]
  exact q H2 e2
theorem ok_least {f f1 f2 f3 C c PT : Addr} {fd fd1 fd2 fd3 : FuncData} {k : Nat} {st1 : Stmt} (T : Bi mg) (D : DfC K mg "least_doffers" s_least_doffers ["doffs"] f fd c) (TB_least_doffers : TabB base mg c PT) (hmT : (PT, lamPos, lamQ) ∈ TL) (huT : ∀ t ∈ TL, t.1 = PT → t = (PT, lamPos, lamQ))
    (D_need_doffs : Df K mg "need_doffs" st1 ["thing"] f1 fd1) (G_need_doffs : FnOk P w K mg base (L2.CX P w) (k + 3) f1 fd1 ["thing"] (spNeed K Ps C isDoffs)) (D_going_on : Df K mg "going_on" s_going_on ["doffs", "beat"] f2 fd2) (D_plan_of : Df K mg "plan_of" s_plan_of ["doffs"] f3 fd3) :
    FnOk P w K mg base (L2.CX P w) (k + 4) f fd ["doffs"] (spLeast K Ps TL C) := by
  have G_going_on : FnOk P w K mg base CX0 1 f2 fd2 ["doffs", "beat"] (spR K Rgoing) := ok_going T D_going_on
  have G_plan_of : FnOk P w K mg base CX0 2 f3 fd3 ["doffs"] (spR K Rplan) := ok_plan_of T D_plan_of D_going_on
  refine FunC_okX D.C sc_least_doffers (fun vs H Q E h => ?_) (fun A outer s H vs Q E hr h => ?_)
  · obtain ⟨_, ⟨t, hr, _⟩ | ⟨v, ds, rfl, _⟩⟩ := h
    · rw [ra_len hr]
      rfl
    · rfl
  obtain ⟨hT, hcase⟩ := h
  refine ⟨_, (pss_cons (ps_expr (pe_callS G_need_doffs (hr.mono (by omega)) (by rfl) D_need_doffs.g D_need_doffs.F.kp D_need_doffs.b (fun σ => passAt (takes_of rfl rfl rfl rfl) σ) (pa_cons (pv 0) pa_nil)))
      (pss_cons (ps_if (pt_not (pt_truth (pv 0) (fun _ => rfl))) (pss_one (ps_ret (pe_tup (pa_cons pe_int (pa_cons (pe_tup pa_nil) (pa_cons pe_non pa_nil)))))) pss_nil)
      (pss_cons (ps_set (i := 1) sc_least_doffers.nd rfl (.inl rfl) (pe_maxL (T := TL) (q := lamQ) (k := 1) (j := 3) (hr.mono (by omega)) (by rfl) T.max rfl sc_least_doffers.nd TB_least_doffers rfl (by rfl) hmT huT ⟨blkOk_by (N := ["doffs", "beat", "doffing", "start"]) (sc := defScope s_least_doffers) (by decide +kernel), rfl, rfl, by decide +kernel, rfl⟩ rfl (fun _ _ _ _ _ => rfl) (pe_lc (own := [("doffing", 2)]) (g := (gName 2)) rfl sc_least_doffers.nd (pi_tup (pv 0)) (blkOk_by (N := ["doffs", "beat", "doffing", "start"]) (sc := defScope s_least_doffers) (by decide +kernel)) (fun _ _ _ _ _ => (pg_name (i := 2) sc_least_doffers.nd rfl (.inl rfl))) (fun _ _ _ _ _ => pts_nil) (fun _ _ _ _ _ => (pe_ix (r := rIxT K) ix_tup (pv 2) pe_int (fun _ _ => rfl)))) (fun _ _ _ _ _ hr => (pe_callB (r := rLenS K) call_len_seq (by rfl) T.len PySem.boot_len (pa_cons (pe_call G_going_on (hr.mono (by omega)) (by rfl) D_going_on.g D_going_on.F.kp D_going_on.b .nil pass0 (pa_cons (pv 0) (pa_cons (pv 3) pa_nil))) pa_nil)))))
      (pss_one (ps_ret (pe_tup (pa_cons (pe_callB (r := rLenS K) call_len_seq (by rfl) T.len PySem.boot_len (pa_cons (pe_call G_going_on (hr.mono (by omega)) (by rfl) D_going_on.g D_going_on.F.kp D_going_on.b .nil pass0 (pa_cons (pv 0) (pa_cons (pv 1) pa_nil))) pa_nil)) (pa_cons (pe_call G_plan_of (hr.mono (by omega)) (by rfl) D_plan_of.g D_plan_of.F.kp D_plan_of.b .nil pass0 (pa_cons (pv 0) pa_nil)) (pa_cons (pv 1) pa_nil))))))))), ?_⟩
  rcases hcase with ⟨t, hv, hz, hno⟩ | ⟨v, ds, rfl, hd, hg, hTL, q⟩
  · obtain ⟨v1, rfl, r1⟩ := ra1 hv
    exact ⟨v1, rfl, t, .cons r1 .nil, hT, fun h => by (rw [hz] at h; cases h), fun _ H1 e1 => hno H1 e1⟩
  refine ⟨v, rfl, doffsT ds, .cons (dp_rpD hd) .nil, hT, fun _ H1 e1 => ?_, fun h => by (rw [good_is hg] at h; cases h)⟩
  have hl : ds.length ≤ 1000 := by have := hg.len; omega
  refine q_when (et_not (et_truT (ed_var (K := K) rfl (dp_mono e1 hd)))) (fun hb H2 e2 => ?_) (fun hb H2 e2 => ?_)
  · have e0 : ds = [] := by
      cases ds with
      | nil => rfl
      | cons d ds => simp at hb
    subst e0
    exact sd_ret (v := .non) (ed_tup (K := K) (eda_cons ed_ci (eda_cons (ed_tup eda_nil (by decide)) (eda_cons ed_cn eda_nil))) (by decide)) fun v' H3 e3 hv' => q v' H3 (ExtN.of ((e1.trans e2).trans e3)) (tbs_ex hTL ((e1.trans e2).trans e3)) hv'
  · have hne : starts ds ≠ [] := fun z => by
      have : ds = [] := List.map_eq_nil_iff.mp z
      subst this
      simp at hb
    have e12 := e1.trans e2
    have hst : ∀ {σ : L2.St}, σ[0]? = some (some v) → wipe σ [2] = σ → 2 < σ.length → EvD K (tLc (iTup K (tVar 0)) (gName 2) tYes (tOp (rIxT K) (tVar 2) (tC (.int 0))) [2]) σ H2 (.list ((starts ds).map PyData.int)) := fun {σ} h0 hw2 hlen => ed_is (ed_lcR (K := K) (g := gName 2) (vs := [2]) (fun d : Dof => PyData.int d.1) (ewm_tup (f := dofD) (as := ds) (ed_var h0 (dp_mono e12 hd))) (by omega) fun i d x H3 e3 hd' hx => ⟨_, tg_name, by rw [hw2]; exact wipe_set hw2, rfl, ed_op (ed_var (by rw [hw2, List.getElem?_set_self hlen]) hx) ed_ci (rd_ixT (i := 0) (k := 0) rfl rfl)⟩) (by unfold starts; rw [List.map_map]; rfl)
    refine q_maxL (K := K) (hst (σ := L2.start ["doffs", "beat", "doffing", "start"] [v]) rfl rfl (by show 2 < 4; decide)) fun lv H3 e3 hlv => ?_
    obtain ⟨l, xs, rfl, hs, ha⟩ := dp_lst hlv
    have exs := da_ints_inv ha
    subst exs
    have e13 := e12.trans e3
    refine ⟨l, _, rfl, hs, tbs_ex hTL e13, fun H4 eN T4 => ⟨fun i b k H' => ExtN H4 H' ∧ Tbs TL H' ∧ ∃ beat : Int, b = .int beat ∧ bestK (keyF ds) ((starts ds).take i) = some (beat, k), fun _ _ _ _ w => w.1, ?_, ?_, ?_⟩⟩
    · -- the first
      obtain ⟨s0, hs0⟩ : ∃ s0, (starts ds)[0]? = some s0 := by
        cases e : starts ds with
        | nil => exact absurd e hne
        | cons a b => exact ⟨a, rfl⟩
      refine ⟨.int s0, by rw [List.getElem?_map, hs0]; rfl, ?_⟩
      refine ev_int (ed_many (ed_going (K := K) (ed_var rfl (dp_extN eN (dp_mono e13 hd))) (ed_var rfl (.int s0)) hl)) H4 (Ex.refl H4) _ fun H5 e5 => ⟨_, rfl, ExtN.of e5, tbs_ex T4 e5, s0, rfl, ?_⟩
      rw [List.take_add_one, List.take_zero, hs0]
      rfl
    · intro i x b k H' hw hx
      obtain ⟨eN', T', beat, rfl, hbk⟩ := hw
      rw [List.getElem?_map] at hx
      obtain ⟨si, hsi, rfl⟩ := Option.map_eq_some_iff.mp hx
      refine ev_int (ed_many (ed_going (K := K) (ed_var rfl (dp_extN (eN.trans eN') (dp_mono e13 hd))) (ed_var rfl (.int si)) hl)) H' (Ex.refl H') _ fun H5 e5 => ⟨_, rfl, fun hlt => ⟨eN'.trans (ExtN.of e5), tbs_ex T' e5, si, rfl, ?_⟩, fun hge => ⟨eN'.trans (ExtN.of e5), tbs_ex T' e5, beat, rfl, ?_⟩⟩
      · rw [List.take_add_one, hsi]
        show bestK _ (_ ++ [si]) = _
        rw [best_snoc, hbk]
        exact if_pos hlt
      · rw [List.take_add_one, hsi]
        show bestK _ (_ ++ [si]) = _
        rw [best_snoc, hbk]
        exact if_neg hge
    · intro b k H' hw
      obtain ⟨eN', T', beat, rfl, hbk⟩ := hw
      rw [List.length_map, List.take_of_length_le (Nat.le_refl _)] at hbk
      have hd' := dp_extN (eN.trans eN') (dp_mono e13 hd)
      refine sd_ret (v := .non) (ed_tup (K := K) (eda_cons (ed_many (ed_going (ed_var rfl hd') (ed_var rfl (.int beat)) hl)) (eda_cons (ed_call (R := Rplan) (eda_cons (ed_var rfl hd') eda_nil) ⟨ds, rfl, hl, good_ord hg, rfl⟩) (eda_cons (ed_var rfl (.int beat)) eda_nil))) (by show 3 ≤ 100000; decide)) fun v' H5 e5 hv' => q v' H5 (((ExtN.of e13).trans (eN.trans eN')).trans (ExtN.of e5)) (tbs_ex T' e5) ?_
      unfold leastD
      rw [hbk]
      exact hv'
end
end K42

set_option Elab.async false
set_option linter.all false
set_option maxRecDepth 100000
set_option maxHeartbeats 4000000
namespace K42
open PySem PySem.Spec PyProof.Rows L2 Evl DL GX YA EX TH TV YT DS LM LamX EM
/-- the first beat in which more than m go on -/
def clash (ds : List Dof) (m : Int) : Option Int := (starts ds).find? fun s => decide (m < keyF ds s)
def withD (ds : List Dof) (m : Int) : PyData := match clash ds m with
  | some s => .tuple [.str "clash", .int s, .tuple ((going ds s).map natD)]
  | none => .tuple [.str "plan", .tuple ((planN ds ds.length).map natD)]
def spWith (K : PySem.W.Frag) (Ps : List Addr) (C1 C2 : Addr) : Sp := fun vs H Q E => Tb Ps H ∧ ((∃ t u, RpAll K H vs [t, u] ∧ isDoffs t = false ∧ ∀ H', Ex H H' → E (.ref C1) none H') ∨
  (∃ v ds v2 u, vs = [v, v2] ∧ Dp K H v (doffsD ds) ∧ Good ds ∧ Rp K H v2 u ∧ isCount u = false ∧ ∀ H', Ex H H' → E (.ref C2) none H') ∨
  ∃ v ds m, vs = [v, .int m] ∧ Dp K H v (doffsD ds) ∧ Good ds ∧ 0 ≤ m ∧ ∀ v' H', Ex H H' → Dp K H' v' (withD ds m) → Q v' H')
theorem find_take {p : Int → Bool} {xs : List Int} {i : Nat} {x : Int} (hx : xs[i]? = some x) (h : (xs.take i).find? p = none) : (p x = true → xs.find? p = some x) ∧ (p x = false → (xs.take (i + 1)).find? p = none) := by
  have hi : i < xs.length := (List.getElem?_eq_some_iff.mp hx).1
  refine ⟨fun hp => ?_, fun hp => ?_⟩
  · have e : xs = xs.take i ++ (x :: xs.drop (i + 1)) := by
      have e1 : xs.drop i = x :: xs.drop (i + 1) := by
        rw [List.drop_eq_getElem_cons hi]
        rw [List.getElem?_eq_getElem hi] at hx
        rw [Option.some.inj hx]
      rw [← e1, List.take_append_drop]
    rw [e, List.find?_append, h]
    simp [hp]
  · rw [List.take_add_one, hx, List.find?_append, h]
    simp [hp]
section
variable {P : Program} {w : World} {K : PySem.W.Frag} {mg : Str → Option Value} {base : Heap} {Ps : List Addr}
theorem ok_with {f f1 f2 f3 f4 C1 C2 : Addr} {fd fd1 fd2 fd3 fd4 : FuncData} {k : Nat} {st1 st2 : Stmt} (T : Bi mg) (D : Df K mg "with_doffers" s_with_doffers ["doffs", "many"] f fd)
    (D_need_doffs : Df K mg "need_doffs" st1 ["thing"] f1 fd1) (G_need_doffs : FnOk P w K mg base (L2.CX P w) (k + 3) f1 fd1 ["thing"] (spNeed K Ps C1 isDoffs)) (D_need_many : Df K mg "need_many" st2 ["thing"] f4 fd4) (G_need_many : FnOk P w K mg base (L2.CX P w) 3 f4 fd4 ["thing"] (spNeed K Ps C2 isCount))
    (D_going_on : Df K mg "going_on" s_going_on ["doffs", "beat"] f2 fd2) (D_plan_of : Df K mg "plan_of" s_plan_of ["doffs"] f3 fd3) : FnOk P w K mg base (L2.CX P w) (k + 4) f fd ["doffs", "many"] (spWith K Ps C1 C2) := by
  have G_going_on : FnOk P w K mg base CX0 1 f2 fd2 ["doffs", "beat"] (spR K Rgoing) := ok_going T D_going_on
  have G_plan_of : FnOk P w K mg base CX0 2 f3 fd3 ["doffs"] (spR K Rplan) := ok_plan_of T D_plan_of D_going_on
  refine D.F.okX sc_with_doffers (fun vs H Q E h => ?_) (fun cdv A outer s H vs Q E hr h => ?_)
  · obtain ⟨_, ⟨t, u, hr, _⟩ | ⟨v, ds, v2, u, rfl, _⟩ | ⟨v, ds, m, rfl, _⟩⟩ := h
    · rw [ra_len hr]
      rfl
    · rfl
    · rfl
  obtain ⟨hT, hcase⟩ := h
  refine ⟨_, (pss_cons (ps_expr (pe_callS G_need_doffs (hr.mono (by omega)) (by rfl) D_need_doffs.g D_need_doffs.F.kp D_need_doffs.b (fun σ => passAt (takes_of rfl rfl rfl rfl) σ) (pa_cons (pv 0) pa_nil)))
      (pss_cons (ps_expr (pe_callS G_need_many (hr.mono (by omega)) (by rfl) D_need_many.g D_need_many.F.kp D_need_many.b (fun σ => passAt (takes_of rfl rfl rfl rfl) σ) (pa_cons (pv 1) pa_nil)))
      (PSs.nox (pss_cons (ps_for PassesOwn.never rfl (pi_tup (pv 0)) (pg_tup rfl (pgs_cons (pg_name (i := 2) sc_with_doffers.nd rfl (.inl rfl)) (pgs_cons (pg_name (i := 3) sc_with_doffers.nd rfl (.inl rfl)) (pgs_cons (pg_name (i := 4) sc_with_doffers.nd rfl (.inl rfl)) pgs_nil)))) (pss_cons (ps_set (i := 5) sc_with_doffers.nd rfl (.inl rfl) (pe_call G_going_on (hr.mono (by omega)) (by rfl) D_going_on.g D_going_on.F.kp D_going_on.b .nil pass0 (pa_cons (pv 0) (pa_cons (pv 2) pa_nil))))
      (pss_one (ps_if (pt_cmpR op_gt (pe_callB (r := rLenS K) call_len_seq (by rfl) T.len PySem.boot_len (pa_cons (pv 5) pa_nil)) (pv 1) (nomark _)) (pss_one (ps_ret (pe_tup (pa_cons pe_str (pa_cons (pv 2) (pa_cons (pe_callTy (r := rTupOf K) call_tuple_of (by rfl) T.tuple boot_tuple (pa_cons (pv 5) pa_nil)) pa_nil)))))) pss_nil))))
      (pss_one (ps_ret (pe_tup (pa_cons pe_str (pa_cons (pe_call G_plan_of (hr.mono (by omega)) (by rfl) D_plan_of.g D_plan_of.F.kp D_plan_of.b .nil pass0 (pa_cons (pv 0) pa_nil)) pa_nil))))))))), ?_⟩
  rcases hcase with ⟨t, u, hv, hz, hno⟩ | ⟨v, ds, v2, u, rfl, hd, hg, hr2, hz, hno⟩ | ⟨v, ds, m, rfl, hd, hg, hm, q⟩
  · obtain ⟨v1, v2, rfl, r1, r2⟩ := ra2 hv
    exact ⟨v1, rfl, t, .cons r1 .nil, hT, fun h => by (rw [hz] at h; cases h), fun _ H1 e1 => hno H1 e1⟩
  · refine ⟨v, rfl, doffsT ds, .cons (dp_rpD hd) .nil, hT, fun _ H1 e1 => ?_, fun h => by (rw [good_is hg] at h; cases h)⟩
    exact ⟨v2, rfl, u, .cons (rp_mono e1 hr2) .nil, hT.ex e1, fun h => by (rw [hz] at h; cases h), fun _ H2 e2 => hno H2 (e1.trans e2)⟩
  · refine ⟨v, rfl, doffsT ds, .cons (dp_rpD hd) .nil, hT, fun _ H1 e1 => ?_, fun h => by (rw [good_is hg] at h; cases h)⟩
    have hc : isCount (.int m) = true := by
      show (true && decide (0 ≤ m)) = true
      rw [decide_eq_true hm]
      rfl
    refine ⟨.int m, rfl, .int m, .cons (.int m) .nil, hT.ex e1, fun _ H2 e2 => ?_, fun h => by (rw [hc] at h; cases h)⟩
    have hl : ds.length ≤ 1000 := by have := hg.len; omega
    have e12 := e1.trans e2
    refine q_for0 (H := H) (Hc := H2) (as := ds) (ew0_tup (K := K) (f := dofD) (ev_var rfl) hd) e12 (fun i σ' H' => Ex H H' ∧ (∃ y2 y3 y4 y5 : Option V, σ' = [some v, some (.int m), y2, y3, y4, y5]) ∧ ((starts ds).take i).find? (fun s => decide (m < keyF ds s)) = none) (fun H3 e3 => ?_) (fun _ _ _ p => p.1) (fun i d x σ' H' H3 hd' p e3 hx => ?_) (fun σ' H' p => ?_)
    · exact ⟨e12.trans e3, ⟨_, _, _, _, rfl⟩, rfl⟩
    · obtain ⟨ex, ⟨y2, y3, y4, y5, rfl⟩, hf⟩ := p
      have ex3 := ex.trans e3
      have hsi : (starts ds)[i]? = some d.1 := by
        unfold starts
        rw [List.getElem?_map, hd']
        rfl
      obtain ⟨fyes, fno⟩ := find_take (p := fun s => decide (m < keyF ds s)) hsi hf
      refine ⟨_, tg_3 hx, ?_⟩
      refine qd_asg (K := K) (ed_going (ed_var rfl (dp_mono ex3 hd)) (ed_var rfl (.int d.1)) hl) fun vn H4 e4 hvn => ?_
      refine s_if (et_D (K := K) (ed_op (ed_many (ed_var rfl hvn)) (ed_var rfl (.int m)) rd_B0)) (fun hb H5 e5 => ?_) (fun hb H5 e5 => ?_)
      · refine sd_ret (v := .non) (ed_tup (K := K) (eda_cons ed_cs (eda_cons (ed_var rfl (.int d.1)) (eda_cons (ed_cbt (eda_cons (ed_var rfl (dp_mono e5 hvn)) eda_nil) rdc_tupL) eda_nil))) (by show 3 ≤ 100000; decide)) fun v' H6 e6 hv' => q v' H6 (((ex3.trans e4).trans e5).trans e6) ?_
        have hc2 : clash ds m = some d.1 := fyes hb
        unfold withD
        rw [hc2]
        exact hv'
      · exact ⟨(ex3.trans e4).trans e5, ⟨_, _, _, _, rfl⟩, fno hb⟩
    · obtain ⟨ex, ⟨y2, y3, y4, y5, rfl⟩, hf⟩ := p
      have hl2 : (starts ds).take ds.length = starts ds := List.take_of_length_le (by unfold starts; rw [List.length_map]; exact Nat.le_refl _)
      rw [hl2] at hf
      have hc2 : clash ds m = none := hf
      refine sd_ret (v := .non) (ed_tup (K := K) (eda_cons ed_cs (eda_cons (ed_call (R := Rplan) (eda_cons (ed_var rfl (dp_mono ex hd)) eda_nil) ⟨ds, rfl, hl, good_ord hg, rfl⟩) eda_nil)) (by show 2 ≤ 100000; decide)) fun v' H6 e6 hv' => q v' H6 (ex.trans e6) ?_
      unfold withD
      rw [hc2]
      exact hv'
end
end K42

set_option Elab.async false
set_option linter.all false
set_option maxRecDepth 100000
set_option maxHeartbeats 4000000
namespace K42
open PySem PySem.Spec PyProof.Rows L2 Evl DL GX YA EX TH TV YT DS LM LamX EM
abbrev s_law_doffs : Stmt := topS 47
theorem sc_law_doffs : FnScope ["_law_pool_here", "_law_way", "_law_found", "_law_turn", "_law_begin", "_law_end"] ["_law_pool_here"] (defScope s_law_doffs) := ⟨rfl, rfl, rfl, by decide +kernel, rfl, by decide +kernel, by decide +kernel⟩
def dofK (ns : List Int) : Prop := ∃ a b c : Int, ns = [a, b, c] ∧ (1 ≤ a ∧ a ≤ 10 ^ 30) ∧ (a ≤ b ∧ b ≤ 10 ^ 30 + 9) ∧ (0 ≤ c ∧ c ≤ 3)
theorem keys_good {L : List (List Int)} (hl : L.length ≤ 30) (h : ∀ ns ∈ L, dofK ns) (hr : rising (L.map tupI) = true) : ∃ ds : List Dof, L.map tupI = ds.map dofT ∧ Good ds := by
  refine ⟨L.map fun ns => (ns.getD 0 0, ns.getD 1 0, ns.getD 2 0), ?_, ?_⟩
  · rw [List.map_map]
    refine List.map_congr_left fun ns hns => ?_
    obtain ⟨a, b, c, rfl, _⟩ := h ns hns
    rfl
  · have e : L.map tupI = (L.map fun ns => (ns.getD 0 0, ns.getD 1 0, ns.getD 2 0)).map dofT := by
      rw [List.map_map]
      refine List.map_congr_left fun ns hns => ?_
      obtain ⟨a, b, c, rfl, _⟩ := h ns hns
      rfl
    refine ⟨by rw [List.length_map]; exact hl, fun d hd => ?_, by rw [← e]; exact hr⟩
    obtain ⟨ns, hns, rfl⟩ := List.mem_map.mp hd
    obtain ⟨a, b, c, rfl, ha, hb, hc⟩ := h ns hns
    exact ⟨ha, hb, hc⟩
section
variable {P : Program} {w : World} {K : PySem.W.Frag} {mg : Str → Option Value} {base : Heap}
theorem p_takeB {p : Addr} {σ : L2.St} {H : Hp} {te : TE} {i : Nat} {B : Int} {E : XK} (hv : σ[i]? = some (some (.ref p))) (hp : PoolAt H p) (hB : B ≤ 10 ^ 40) (he : EvP (GP p) K te σ H fun t => ∃ m : Int, t = .int m ∧ 0 < m ∧ m ≤ B) :
    EvP (GP p) K (tCall spTake [] E (tCons (tVar i) (tCons te tNil))) σ H (fun t => ∃ r, t = .int r ∧ 0 ≤ r ∧ r < B) := fun H1 g Q q => ⟨.ref p, hv, he H1 g _ fun v t H2 g2 hr ht => by
  obtain ⟨m, rfl, m0, mB⟩ := ht
  cases rp_int hr
  have hp2 := ((way_pool p).trans g g2).p hp
  obtain ⟨n, hn⟩ := id hp2
  refine ⟨p, n, m, rfl, hn, ⟨m0, by omega⟩, fun t ht => ?_⟩
  refine q _ _ _ ((way_pool p).trans g2 (gp_of (fun b o nb hb => ?_) hp2 ⟨_, upd_same⟩)) (.int _) ⟨_, rfl, Int.emod_nonneg _ (by omega), by have := Int.emod_lt_of_pos n m0; omega⟩
  rw [upd_ne nb, upd_ne (ne_of_none hb ht)]
  exact hb⟩
theorem p_minV {G : Hp → Hp → Prop} {Ok : Addr → Prop} (W : Way G Ok) {σ : L2.St} {H : Hp} {ta tb : TE} {Pa Pb Pt : Th → Prop} (ha : EvP G K ta σ H Pa) (hb : EvP G K tb σ H Pb) (hp : ∀ x y, Pa x → Pb y → ∃ i j : Int, x = .int i ∧ y = .int j ∧ Pt (.int (if j < i then j else i))) :
    EvP G K (tCB (fun xs H Q => ∃ i j, xs = [.int i, .int j] ∧ Q (.int (if j < i then j else i)) H) (tCons ta (tCons tb tNil))) σ H Pt := fun H1 g Q q => ha H1 g _ fun v t H2 g2 hr ht => hb H2 (W.trans g g2) _ fun u t' H3 g3 hr' ht' => by
  obtain ⟨i, j, rfl, rfl, h⟩ := hp t t' ht ht'
  cases rp_int hr
  cases rp_int hr'
  exact ⟨i, j, rfl, q _ _ H3 (W.trans g2 g3) (.int _) h⟩
def spDoffs (K : PySem.W.Frag) : Sp := fun vs H Q _ => ∃ (p : Addr), vs = [.ref p] ∧ PoolAt H p ∧ ∀ v ds H', GP p H H' → Dp K H' v (doffsD ds) → Good ds → Q v H'
theorem ok_doffs {f f1 : Addr} {fd fd1 : FuncData} {k : Nat} (T : Bi mg) (D : Df K mg "_law_doffs" s_law_doffs ["_law_pool_here"] f fd) (D_law_take : Df K mg "_law_take" s_law_take ["_law_pool_here", "_law_many"] f1 fd1) : FnOk P w K mg base CX0 (k + 2) f fd ["_law_pool_here"] (spDoffs K) := by
  have G_law_take : FnOk P w K mg base CX0 1 f1 fd1 ["_law_pool_here", "_law_many"] spTake := ok_take T D_law_take
  refine D.F.ok sc_law_doffs (fun vs H Q E h => by obtain ⟨_, rfl, _⟩ := h; rfl) (fun cdv A outer s H vs Q E hr h => ?_)
  obtain ⟨p, rfl, hp, q⟩ := h
  have W := way_pool p
  have big : ∀ {σ : L2.St} {H' : Hp}, EvP (GP p) K (tOp (rI (fun i j => CPow i j) fun i j => .int (i ^ j.toNat)) (tC (.int 10)) (tC (.int 30))) σ H' (fun t => t = .int (10 ^ 30)) := p_op W (P := fun x => x = .int 10) (P' := fun y => y = .int 30) (p_ci W rfl) (p_ci W rfl) (fun x y hx hy => by rw [hx, hy]; exact rp_I ⟨by decide, by decide, by decide⟩ rfl)
  refine ⟨_, (pss_cons (ps_set (i := 1) sc_law_doffs.nd rfl (.inl rfl) (pe_call G_law_take (hr.mono (by omega)) (by rfl) D_law_take.g D_law_take.F.kp D_law_take.b .nil pass0 (pa_cons (pv 0) (pa_cons pe_int pa_nil))))
      (pss_cons (ps_set (i := 2) sc_law_doffs.nd rfl (.inl rfl) pe_dnewT)
      (pss_cons (ps_for PassesOwn.never rfl (pi_range1 rfl T.range (pa_cons (pe_ix (r := rIxL K) ix_list (pe_lst (pa_cons (pe_call G_law_take (hr.mono (by omega)) (by rfl) D_law_take.g D_law_take.F.kp D_law_take.b .nil pass0 (pa_cons (pv 0) (pa_cons pe_int pa_nil))) (pa_cons pe_int pa_nil))) (pe_callTy call_int1 (by rfl) T.int boot_int (pa_cons (pe_cmpR op_eq (pe_call G_law_take (hr.mono (by omega)) (by rfl) D_law_take.g D_law_take.F.kp D_law_take.b .nil pass0 (pa_cons (pv 0) (pa_cons pe_int pa_nil))) pe_int (nomark _)) pa_nil)) (fun _ _ => rfl)) pa_nil)) (pg_name (i := 3) sc_law_doffs.nd rfl (.inl rfl)) (pss_cons (ps_set (i := 4) sc_law_doffs.nd rfl (.inl rfl) (pe_op op_add pe_int (pe_call G_law_take (hr.mono (by omega)) (by rfl) D_law_take.g D_law_take.F.kp D_law_take.b .nil pass0 (pa_cons (pv 0) (pa_cons pe_int pa_nil)))))
      (pss_cons (ps_set (i := 5) sc_law_doffs.nd rfl (.inl rfl) (pe_op op_add (pv 4) (pe_call G_law_take (hr.mono (by omega)) (by rfl) D_law_take.g D_law_take.F.kp D_law_take.b .nil pass0 (pa_cons (pv 0) (pa_cons (pe_ix (r := rIxL K) ix_list (pe_lst (pa_cons pe_int (pa_cons pe_int pa_nil))) (pe_call G_law_take (hr.mono (by omega)) (by rfl) D_law_take.g D_law_take.F.kp D_law_take.b .nil pass0 (pa_cons (pv 0) (pa_cons pe_int pa_nil))) (fun _ _ => rfl)) pa_nil)))))
      (pss_cut (ps_if (pt_cmpR op_eq (pv 1) pe_int (nomark _)) (pss_cons (ps_set (i := 4) sc_law_doffs.nd rfl (.inl rfl) (pe_op op_add pe_int (pe_call G_law_take (hr.mono (by omega)) (by rfl) D_law_take.g D_law_take.F.kp D_law_take.b .nil pass0 (pa_cons (pv 0) (pa_cons (pe_op op_pow pe_int pe_int) pa_nil)))))
      (pss_one (ps_set (i := 5) sc_law_doffs.nd rfl (.inl rfl) (pe_op op_add (pv 4) (pe_call G_law_take (hr.mono (by omega)) (by rfl) D_law_take.g D_law_take.F.kp D_law_take.b .nil pass0 (pa_cons (pv 0) (pa_cons (pe_op op_sub (pe_op op_add (pe_op op_pow pe_int pe_int) pe_int) (pv 4)) pa_nil))))))) pss_nil)
      (pss_cut (ps_if (pt_cmpR op_eq (pv 1) pe_int (nomark _)) (pss_one (ps_par (i := 4) (j := 5) (by rfl) sc_law_doffs.nd rfl rfl (by decide) rfl rfl (pa_cons (pe_op op_sub (pe_op op_add (pv 4) (pe_op op_pow pe_int pe_int)) pe_int) (pa_cons (pe_callB (call_min2 rfl) (by rfl) T.min boot_min (pa_cons (pe_op op_sub (pe_op op_add (pv 5) (pe_op op_pow pe_int pe_int)) pe_int) (pa_cons (pe_op op_add (pe_op op_pow pe_int pe_int) pe_int) pa_nil))) pa_nil)) (by rfl))) pss_nil)
      (pss_one (ps_asg pe_bl (pg_sub (pv 2) (pe_tup (pa_cons (pv 4) (pa_cons (pv 5) (pa_cons (pe_call G_law_take (hr.mono (by omega)) (by rfl) D_law_take.g D_law_take.F.kp D_law_take.b .nil pass0 (pa_cons (pv 0) (pa_cons pe_int pa_nil))) pa_nil)))) (set_dict (Nat.lt_of_le_of_lt (Nat.add_le_add_left (show 1 ≤ 64 by decide) _) hr.units))))))))))
      (pss_one (ps_ret (pe_callTy (r := rTupOf K) call_tuple_of (by rfl) T.tuple boot_tuple (pa_cons (pe_callB (r := rSortDT 3 (10 ^ 31)) (cr_sortDT (by decide) rfl) (by rfl) T.sorted boot_sorted (pa_cons (pv 2) pa_nil)) pa_nil))))))), ?_⟩
  refine q_asgP (K := K) W (P := fun t => ∃ i : Int, t = .int i ∧ 0 ≤ i ∧ i < 3) (p_take (m := 3) rfl hp ⟨by decide, by decide⟩ (p_ci W rfl)) fun v1 t1 H1 g1 hr1 ht1 => ?_
  obtain ⟨way, rfl, w0, w3⟩ := ht1
  cases rp_int hr1
  have hp1 := g1.p hp
  refine fun d hd => ?_
  have hdp : d ≠ p := fun z => by
    obtain ⟨m, hm⟩ := hp1
    rw [z, hm] at hd
    cases hd
  have gd : GP p H1 (upd H1 d (.dT [])) := W.ex (Ex.new hd)
  have hp2 := gd.p hp1
  refine p_ixL (K := K) W (Ps := fun ts => ts.length = 2 ∧ ∀ t ∈ ts, ∃ r : Int, t = .int r ∧ 0 ≤ r ∧ r ≤ 30) (P' := fun y => ∃ z : Int, y = .int z ∧ 0 ≤ z ∧ z ≤ 1) (P := fun t => ∃ r : Int, t = .int r ∧ 0 ≤ r ∧ r ≤ 30)
    (pl_lst W (fr_pool hp2) (addP W 1 (p_imp W (p_take (m := 31) rfl hp2 ⟨by decide, by decide⟩ (p_ci W rfl)) fun t ht => by obtain ⟨i, rfl, _⟩ := ht; exact ⟨i, rfl, by omega, by omega⟩) (addP W 0 (p_ci W ⟨30, rfl, by decide, by decide⟩) (nilP W))) (fun ts h => by rw [h.1]; decide))
    (p_intB (p_op W (P := fun x => ∃ r : Int, x = .int r ∧ 0 ≤ r ∧ r < 6) (P' := fun y => y = .int 0) (p_take (m := 6) rfl hp2 ⟨by decide, by decide⟩ (p_ci W rfl)) (p_ci W rfl) (fun x y hx hy => by obtain ⟨r, rfl, _⟩ := hx; rw [hy]; exact rp_eqI ⟨_, rfl, _, rfl, by split <;> decide, by split <;> decide⟩)))
    (fun ts y h hy => by
      obtain ⟨z, rfl, z0, z1⟩ := hy
      have hz : z.toNat < ts.length := by rw [h.1]; omega
      exact ⟨z.toNat, ts[z.toNat], by rw [Int.toNat_of_nonneg z0], List.getElem?_eq_getElem hz, h.2 _ (List.getElem_mem hz)⟩) _ (W.refl _) _ fun v3 t3 H3 g3 hr3 ht3 => ?_
  obtain ⟨r, rfl, r0, r5⟩ := ht3
  cases rp_int hr3
  refine q_forR1 (ta := tCons (tC (.int r)) tNil) (ea_cons ev_c ea_nil) ⟨by omega, by omega⟩ (fun i σ' H' => ExB p H1 H' ∧ PoolAt H' p ∧ ∃ kvs y3 y4 y5, σ' = [some (.ref p), some (.int way), some (.ref d), y3, y4, y5] ∧ H' d = some (.dT kvs) ∧ kvs.length ≤ i ∧ KeysOk (fun ns => (ns.length = 3 ∧ TS.Bd (10 ^ 31) ns) ∧ dofK ns) kvs) (fun H4 e4 => ?_) (fun i σ' H' hi pv => ?_) (fun σ' H' pv => ?_)
  · have g4 := W.trans (W.trans gd g3) (W.ex e4)
    exact ⟨g4.b, g4.p hp1, [], _, _, _, rfl, (W.trans g3 (W.ex e4)).b d _ hdp upd_same, Nat.le_refl _, fun q hq => nomatch hq⟩
  · obtain ⟨exb, hpp, kvs, y3, y4, y5, rfl, hkd, hkl, hko⟩ := pv
    -- begin
    refine q_asgP (K := K) W (P := fun t => ∃ i : Int, t = .int i ∧ 1 ≤ i ∧ i ≤ 40) (p_op W (P := fun x => x = .int 1) (p_ci W rfl) (p_take (m := 40) rfl hpp ⟨by decide, by decide⟩ (p_ci W rfl)) (fun x y hx hy => by obtain ⟨r, rfl, _⟩ := hy; rw [hx]; exact rp_I0 ⟨_, rfl, by omega, by omega⟩)) fun v4 t4 H4 g4 hr4 ht4 => ?_
    obtain ⟨be, rfl, be1, be2⟩ := ht4
    cases rp_int hr4
    have hp4 := g4.p hpp
    -- end
    refine q_asgP (K := K) W (P := fun t => ∃ i : Int, t = .int i ∧ be ≤ i ∧ i ≤ 100) (p_op W (P := fun x => x = .int be) (p_var W rfl (.int _) rfl) (p_takeB (B := 60) rfl hp4 (by decide) (p_pick (k := 2) rfl hp4 (by decide) (pl_lst W (fr_pool hp4) (addP W 1 (p_ci W ⟨9, rfl, by decide, by decide⟩) (addP W 0 (p_ci W ⟨60, rfl, by decide, by decide⟩) (nilP W))) (fun ts h => by rw [h.1]; decide)) (p_ci W rfl))) (fun x y hx hy => by obtain ⟨r, rfl, _⟩ := hy; rw [hx]; exact rp_I0 ⟨_, rfl, by omega, by omega⟩)) fun v5 t5 H5 g5 hr5 ht5 => ?_
    obtain ⟨en, rfl, en1, en2⟩ := ht5
    cases rp_int hr5
    have hp5 := g5.p hp4
    have g45 := W.trans g4 g5
    -- far ones
    refine q_cut (M := fun σ' H6 => GP p H' H6 ∧ ∃ a b y3, σ' = [some (.ref p), some (.int way), some (.ref d), y3, some (.int a), some (.int b)] ∧ (1 ≤ a ∧ a ≤ 10 ^ 30) ∧ (a ≤ b ∧ b ≤ 10 ^ 30 + 9) ∧ (way = 2 → a ≤ 40)) (s_if (et_test (ev_op (ev_var rfl) ev_c (rv_eq rfl))) (fun hb H6 e6 => ?_) (fun hb H6 e6 => ?_)) (fun σ6 H6 hM => ?_)
    · have hw1 : way = 1 := by simpa using hb
      have g46 := W.trans g45 (W.ex e6)
      have hp6 := g46.p hpp
      refine q_asgP (K := K) W (P := fun t => ∃ i : Int, t = .int i ∧ 1 ≤ i ∧ i ≤ 10 ^ 30) (p_op W (P := fun x => x = .int 1) (p_ci W rfl) (p_take (m := 10 ^ 30) rfl hp6 ⟨by decide, by decide⟩ big) (fun x y hx hy => by obtain ⟨r, rfl, _⟩ := hy; rw [hx]; exact rp_I0 ⟨_, rfl, by omega, by omega⟩)) fun v7 t7 H7 g7 hr7 ht7 => ?_
      obtain ⟨b7, rfl, b71, b72⟩ := ht7
      cases rp_int hr7
      refine p_op (K := K) W (P := fun x => x = .int b7) (P'' := fun t => ∃ i : Int, t = .int i ∧ b7 ≤ i ∧ i ≤ 10 ^ 30 + 9) (p_var W rfl (.int _) rfl) (p_take (m := 10 ^ 30 + 10 - b7) rfl (g7.p hp6) ⟨by omega, by omega⟩ (p_op W (P := fun x => x = .int (10 ^ 30 + 10)) (P' := fun y => y = .int b7) (p_op W (P' := fun y => y = .int 10) big (p_ci W rfl) (fun x y hx hy => by rw [hx, hy]; exact rp_I0 rfl)) (p_var W rfl (.int _) rfl) (fun x y hx hy => by rw [hx, hy]; exact rp_I0 rfl))) (fun x y hx hy => by obtain ⟨r, rfl, _⟩ := hy; rw [hx]; exact rp_I0 ⟨_, rfl, by omega, by omega⟩) H7 (W.refl H7) _ fun v8 t8 H8 g8 hr8 ht8 => ?_
      obtain ⟨e8, rfl, e81, e82⟩ := ht8
      cases rp_int hr8
      exact ⟨W.trans g46 (W.trans g7 g8), b7, e8, _, rfl, ⟨b71, b72⟩, ⟨e81, e82⟩, by omega⟩
    · exact ⟨W.trans g45 (W.ex e6), be, en, _, rfl, ⟨be1, by omega⟩, ⟨en1, by omega⟩, fun _ => be2⟩
    obtain ⟨g6, a6, b6, y6, rfl, ha6, hb6, hw6⟩ := hM
    -- at the end of time
    refine q_cut (M := fun σ' H7 => GP p H' H7 ∧ ∃ a b y3, σ' = [some (.ref p), some (.int way), some (.ref d), y3, some (.int a), some (.int b)] ∧ (1 ≤ a ∧ a ≤ 10 ^ 30) ∧ (a ≤ b ∧ b ≤ 10 ^ 30 + 9)) (s_if (et_test (ev_op (ev_var rfl) ev_c (rv_eq rfl))) (fun hb H7 e7 => ?_) (fun hb H7 e7 => ?_)) (fun σ7 H7 hM => ?_)
    · have hw2 : way = 2 := by simpa using hb
      have ha40 := hw6 hw2
      have g67 := W.trans g6 (W.ex e7)
      refine pa_consP (K := K) W (P := fun t => t = .int (a6 + 10 ^ 30 - 40)) (Ps' := fun ts => ∃ b : Int, ts = [.int (a6 + 10 ^ 30 - 40), .int b] ∧ a6 + 10 ^ 30 - 40 ≤ b ∧ b ≤ 10 ^ 30 + 9) (p_op W (P := fun x => x = .int (a6 + 10 ^ 30)) (P' := fun y => y = .int 40) (p_op W (P := fun x => x = .int a6) (p_var W rfl (.int _) rfl) big (fun x y hx hy => by rw [hx, hy]; exact rp_I0 rfl)) (p_ci W rfl) (fun x y hx hy => by rw [hx, hy]; exact rp_I0 rfl))
        (pa_consP W (P := fun t => ∃ b : Int, t = .int b ∧ a6 + 10 ^ 30 - 40 ≤ b ∧ b ≤ 10 ^ 30 + 9) (p_minV W (Pa := fun t => t = .int (b6 + 10 ^ 30 - 40)) (Pb := fun t => t = .int (10 ^ 30 + 9)) (p_op W (P := fun x => x = .int (b6 + 10 ^ 30)) (P' := fun y => y = .int 40) (p_op W (P := fun x => x = .int b6) (p_var W rfl (.int _) rfl) big (fun x y hx hy => by rw [hx, hy]; exact rp_I0 rfl)) (p_ci W rfl) (fun x y hx hy => by rw [hx, hy]; exact rp_I0 rfl)) (p_op W (P' := fun y => y = .int 9) big (p_ci W rfl) (fun x y hx hy => by rw [hx, hy]; exact rp_I0 rfl))
          (fun x y hx hy => ⟨_, _, hx, hy, _, rfl, by split <;> omega, by split <;> omega⟩)) (pa_nilP W (Ps := fun ts => ts = []) rfl) (Ps' := fun ts => ∃ b : Int, ts = [.int b] ∧ a6 + 10 ^ 30 - 40 ≤ b ∧ b ≤ 10 ^ 30 + 9) fun t ts h1 h2 => by obtain ⟨b, rfl, hb⟩ := h1; exact ⟨b, by rw [h2], hb⟩)
        (fun t ts h1 h2 => by obtain ⟨b, rfl, hb⟩ := h2; exact ⟨b, by rw [h1], hb⟩) H7 (W.refl H7) _ fun vs8 ts8 H8 g8 hr8 ht8 => ?_
      obtain ⟨b8, rfl, b81, b82⟩ := ht8
      obtain ⟨x1, x2, rfl, r1, r2⟩ := ra2 hr8
      cases rp_int r1
      cases rp_int r2
      exact ⟨_, _, rfl, W.trans g67 g8, _, b8, _, rfl, ⟨by omega, by omega⟩, b81, b82⟩
    · exact ⟨W.trans g6 (W.ex e7), a6, b6, _, rfl, ha6, hb6⟩
    obtain ⟨g7, a, b, y7, rfl, hA, hB⟩ := hM
    have hp7 := g7.p hpp
    refine ⟨.ref d, rfl, .int a, rfl, .int b, rfl, ?_⟩
    refine p_take (K := K) (m := 4) rfl hp7 ⟨by decide, by decide⟩ (p_ci W rfl) _ (W.refl _) _ fun v8 t8 H8 g8 hr8 ht8 => ?_
    obtain ⟨c, rfl, c0, c1⟩ := ht8
    cases rp_int hr8
    have g78 := W.trans g7 g8
    refine ⟨by show 3 ≤ sizeLine; decide, fun t ht => ?_⟩
    have hkd8 : H8 d = some (.dT kvs) := g78.b d _ hdp hkd
    have hdt : d ≠ t := ne_of_none hkd8 ht
    obtain ⟨m8, hm8⟩ := g78.p hpp
    have hpt : p ≠ t := ne_of_none hm8 ht
    have ko := keys_put (v := .bl true) hko (ns := [a, b, c]) ⟨⟨rfl, fun x hx => by
      simp only [List.mem_cons, List.not_mem_nil, or_false] at hx
      rcases hx with rfl | rfl | rfl <;> omega⟩, _, _, _, rfl, hA, hB, c0, by omega⟩
    refine ⟨d, _, rfl, DPut.t (k := [a, b, c].map Sum.inl) (by rw [upd_ne hdt]; exact hkd8) upd_same (by rw [sizeLine_eq]; omega), fun x o hx ho => ?_, ⟨m8, ?_⟩, _, _, _, _, rfl, upd_same, by have := ko.2; omega, ko.1⟩
    · rw [upd_ne (ne_of_none ho hd), upd_ne (ne_of_none (g78.b x o hx (exb x o hx ho)) ht)]
      exact g78.b x o hx (exb x o hx ho)
    · rw [upd_ne (Ne.symm hdp), upd_ne hpt]
      exact hm8
  · obtain ⟨exb, hpp, kvs, y3, y4, y5, rfl, hkd, hkl, hko⟩ := pv
    have g4 : GP p H H' := W.trans g1 (gp_of exb hp1 hpp)
    refine s_retP W (P := fun t => ∃ ds, t = doffsT ds ∧ Good ds) (p_imp W (p_sortDT rfl hdp hkd (by omega) (by decide) hko) fun t ht => ?_) fun v8 t8 H8 g8 hr8 ht8 => ?_
    · obtain ⟨L, rfl, l1, l2, l3⟩ := ht
      obtain ⟨ds, e, hg⟩ := keys_good (by omega) l2 l3
      exact ⟨ds, by unfold doffsT; rw [e], hg⟩
    · obtain ⟨ds, rfl, hg⟩ := ht8
      exact q v8 ds H8 (W.trans g4 g8) (rp_dpD hr8) hg
end
end K42

set_option Elab.async false
set_option linter.all false
set_option maxRecDepth 100000
set_option maxHeartbeats 4000000
namespace K42
open PySem PySem.Spec PyProof.Rows L2 Evl DL GX YA EX TH TV YT DS LM LamX EM
abbrev s_law_going : Stmt := topS 48
theorem sc_law_going : FnScope ["_law_doffs_here", "_law_beat", "_law_k"] ["_law_doffs_here", "_law_beat"] (defScope s_law_going) := ⟨rfl, rfl, rfl, by decide +kernel, rfl, by decide +kernel, by decide +kernel⟩
abbrev s_law_is_plan : Stmt := topS 49
theorem sc_law_is_plan : FnScope ["_law_doffs_here", "_law_plan", "_law_many", "_law_k", "_law_same", "_law_one", "_law_j"] ["_law_doffs_here", "_law_plan", "_law_many"] (defScope s_law_is_plan) := ⟨rfl, rfl, rfl, by decide +kernel, rfl, by decide +kernel, by decide +kernel⟩
theorem ty_tup {K : PySem.W.Frag} {H : Hp} {a : Addr} {xs : List V} (h : SqT K H a xs) : TyX K H (.ref a) (.type "tuple") := by
  rcases h with (h | ⟨o, h⟩) | ⟨o, its, n, hk, hc, _⟩
  · exact .base (.tup h)
  · exact .fTuple h
  · exact .kTuple hk hc
section
variable {P : Program} {w : World} {K : PySem.W.Frag} {mg : Str → Option Value} {base : Heap}
/-- isinstance(x, tuple) of a tuple -/
theorem ed_isTup {σ : L2.St} {H : Hp} {te : TE} {ds : List PyData} (h : EvD K te σ H (.tuple ds)) : EvD K (tCB (rIsi K) (tCons te (tCons (tC (.ty "tuple")) tNil))) σ H (.bool true) := fun H1 e Q q =>
  h H1 e _ fun v H2 e2 hv => by
    obtain ⟨a, xs, rfl, hs, ha⟩ := dp_tup hv
    exact ⟨.ref a, .ty "tuple", .type "tuple", .type "tuple", true, rfl, .ty _, ty_tup hs, kit_ty (by decide +kernel), q _ H2 e2 (.bl true)⟩
theorem ed_whole {σ : L2.St} {H : Hp} {te : TE} {i : Int} {E : XK} (h : EvD K te σ H (.int i)) : EvD K (tCall spWhole [] E (tCons te tNil)) σ H (.bool true) := fun H1 e Q q =>
  h H1 e _ fun v H2 e2 hv => ⟨i, by rw [dp_int hv]; rfl, q _ H2 e2 (.bl true)⟩
theorem ed_all {σ : L2.St} {H : Hp} {te : TE} {ds : List PyData} {bs : List Bool} (h : EvD K te σ H (.list ds)) (e : ds = bs.map .bool) : EvD K (tCB (rAll K) (tCons te tNil)) σ H (.bool (bs.all id)) := by
  subst e
  exact ed_cbt (eda_cons h eda_nil) rdc_all
theorem trues (n : Nat) : (List.replicate n true).all id = true := by simp
theorem map_trues {α : Type} (l : List α) : l.map (fun _ => PyData.bool true) = (List.replicate l.length true).map .bool := by rw [List.map_replicate, List.map_const']
def RgoingT : List PyData → PyData → Prop := fun as d => ∃ (ds : List Dof) (b : Int), as = [doffsD ds, .int b] ∧ ds.length ≤ 1000 ∧ d = .tuple ((going ds b).map natD)
theorem dof_at {ds : List Dof} {k : Nat} (h : k < ds.length) : (ds.map dofD)[k]? = some (dofD (dAt ds k)) := by
  rw [List.getElem?_map, at_dAt h]
  rfl
theorem ed_dof {σ : L2.St} {H : Hp} {ta tb : TE} {ds : List Dof} {k : Nat} (h : k < ds.length) (ha : EvD K ta σ H (doffsD ds)) (hb : EvD K tb σ H (.int (k : Int))) : EvD K (tOp (rIxT K) ta tb) σ H (dofD (dAt ds k)) :=
  ed_op ha hb (rd_ixT (k := k) (ixN_nat (by rw [List.length_map]; exact h)) (dof_at h))
theorem ok_goingT {f : Addr} {fd : FuncData} {k : Nat} (T : Bi mg) (D : Df K mg "_law_going" s_law_going ["_law_doffs_here", "_law_beat"] f fd) : FnOk P w K mg base CX0 (k + 1) f fd ["_law_doffs_here", "_law_beat"] (spR K RgoingT) := by
  refine D.F.ok sc_law_going (fun vs H Q E h => ?_) (fun cdv A outer s H vs Q E hr h => ?_)
  · obtain ⟨_, _, hv, ⟨ds, b, rfl, _⟩, _⟩ := h
    obtain ⟨v, rfl, _⟩ := da_two hv
    rfl
  obtain ⟨_, _, hv, ⟨ds, b, rfl, hl, rfl⟩, q⟩ := h
  obtain ⟨v, rfl, d1⟩ := da_two hv
  refine ⟨_, (pss_one (ps_ret (pe_callTy (r := rTupOf K) call_tuple_of (by rfl) T.tuple boot_tuple (pa_cons (pe_lc (own := [("_law_k", 2)]) (g := (gName 2)) rfl sc_law_going.nd (pi_range1 rfl T.range (pa_cons (pe_callB (r := rLenS K) call_len_seq (by rfl) T.len PySem.boot_len (pa_cons (pv 0) pa_nil)) pa_nil)) (blkOk_by (N := ["_law_doffs_here", "_law_beat", "_law_k"]) (sc := defScope s_law_going) (by decide +kernel)) (fun _ _ _ _ _ => (pg_name (i := 2) sc_law_going.nd rfl (.inl rfl))) (fun _ _ _ _ _ => (pts_one (pt_chain op_le op_le (pe_ix (r := rIxT K) ix_tup (pe_ix (r := rIxT K) ix_tup (pv 0) (pv 2) (fun _ _ => rfl)) pe_int (fun _ _ => rfl)) (pv 1) (pe_ix (r := rIxT K) ix_tup (pe_ix (r := rIxT K) ix_tup (pv 0) (pv 2) (fun _ _ => rfl)) pe_int (fun _ _ => rfl))))) (fun _ _ _ _ _ => (pv 2))) pa_nil)))), ?_⟩
  refine sd_ret (v := .non) (ed_cbt (eda_cons (ed_lcF (K := K) (fun k => goesOn b (dAt ds k)) natD (ewr_rng (ea_cons (ed_len (ed_var rfl d1)) ea_nil) ⟨by omega, by omega⟩) (by rw [List.length_range]; omega) fun i k x H1 e1 hd hx => ?_) eda_nil) rdc_tupL) fun v H1 e1 hv => q v H1 e1 hv
  subst hx
  have hk : k < ds.length := by
    have := List.mem_of_getElem? hd
    rw [Int.toNat_natCast] at this
    exact List.mem_range.mp this
  have x1 : ∀ {σ : L2.St}, σ[0]? = some (some v) → EvD K (tVar 0) σ H1 (doffsD ds) := fun h => ed_var h (dp_mono e1 d1)
  refine ⟨_, tg_name, rfl, et_D (K := K) (ed_chain (x := .int (dAt ds k).1) (y := .int b) (w := .int (dAt ds k).2.1) (ed_op (ed_dof hk (x1 rfl) (ed_var rfl (.int _))) ed_ci (rd_ixT (i := 0) (k := 0) rfl rfl)) (ed_var rfl (.int b)) (fun _ => ed_op (ed_dof hk (x1 rfl) (ed_var rfl (.int _))) ed_ci (rd_ixT (i := 1) (k := 1) rfl rfl)) rd_B0 rd_B0), fun _ => ⟨rfl, ed_var rfl (.int _)⟩⟩
theorem count_cast (l : List Nat) (m : Nat) : (l.map fun (n : Nat) => (n : Int)).count (m : Int) = l.count m := by
  induction l with
  | nil => rfl
  | cons n l ih =>
    rw [List.map_cons, List.count_cons, List.count_cons, ih]
    congr 1
    by_cases h : n = m
    · subst h
      simp
    · have h2 : ¬ ((n : Int) = (m : Int)) := by omega
      simp [h, h2]
def spIsPlan (K : PySem.W.Frag) : Sp := fun vs H Q _ => ∃ (ds : List Dof) (m : Int) (v1 v2 : V), vs = [v1, v2, .int m] ∧ Dp K H v1 (doffsD ds) ∧ Dp K H v2 (.tuple ((planN ds ds.length).map natD)) ∧ ds.length ≤ 1000 ∧ EM.Ord ds ∧ (∀ k, k < ds.length → ((pk ds k : Nat) : Int) < m) ∧ ∀ H', Ex H H' → Q (.bl true) H'
theorem ok_isPlan {f f1 f2 : Addr} {fd fd1 fd2 : FuncData} {k : Nat} (T : Bi mg) (D : Df K mg "_law_is_plan" s_law_is_plan ["_law_doffs_here", "_law_plan", "_law_many"] f fd) (D_law_whole : Df K mg "_law_whole" s_law_whole ["_law_thing"] f1 fd1) (D_law_going : Df K mg "_law_going" s_law_going ["_law_doffs_here", "_law_beat"] f2 fd2) :
    FnOk P w K mg base CX0 (k + 2) f fd ["_law_doffs_here", "_law_plan", "_law_many"] (spIsPlan K) := by
  have G_law_whole : FnOk P w K mg base CX0 1 f1 fd1 ["_law_thing"] spWhole := ok_whole T D_law_whole
  have G_law_going : FnOk P w K mg base CX0 1 f2 fd2 ["_law_doffs_here", "_law_beat"] (spR K RgoingT) := ok_goingT T D_law_going
  refine D.F.ok sc_law_is_plan (fun vs H Q E h => ?_) (fun cdv A outer s H vs Q E hr h => ?_)
  · obtain ⟨_, _, _, _, rfl, _⟩ := h
    rfl
  obtain ⟨ds, m, v1, v2, rfl, d1, d2, hl, ho, hm, q⟩ := h
  refine ⟨_, (pss_cons (ps_if (PW.pt (pw_or (pt_not (pt_val (pe_callB (r := rIsi K) call_isi (by rfl) T.isinstance boot_isinstance (pa_cons (pv 1) (pa_cons (pe_bltn (by rfl) T.tuple boot_tuple (v := .ty "tuple") rfl) pa_nil))))) (pw_or1 (pt_cmpR op_ne (pe_callB (r := rLenS K) call_len_seq (by rfl) T.len PySem.boot_len (pa_cons (pv 1) pa_nil)) (pe_callB (r := rLenS K) call_len_seq (by rfl) T.len PySem.boot_len (pa_cons (pv 0) pa_nil)) (nomark _))))) (pss_one (ps_ret pe_bl)) pss_nil)
      (pss_cons (ps_if (pt_not (pt_val (pe_callB (r := rAll K) (cr_all rfl) (by rfl) T.all boot_all (pa_cons (pe_lc (own := [("_law_one", 5)]) (g := (gName 5)) rfl sc_law_is_plan.nd (pi_tup (pv 1)) (blkOk_by (N := ["_law_doffs_here", "_law_plan", "_law_many", "_law_k", "_law_same", "_law_one", "_law_j"]) (sc := defScope s_law_is_plan) (by decide +kernel)) (fun _ _ _ _ _ => (pg_name (i := 5) sc_law_is_plan.nd rfl (.inl rfl))) (fun _ _ _ _ _ => pts_nil) (fun _ _ _ _ _ => (pe_and (pe_call G_law_whole (hr.mono (by omega)) (by rfl) D_law_whole.g D_law_whole.F.kp D_law_whole.b .nil pass0 (pa_cons (pv 5) pa_nil)) (pe_one (pe_chain op_le op_lt pe_int (pv 5) (pv 2)))))) pa_nil)))) (pss_one (ps_ret pe_bl)) pss_nil)
      (pss_cons (ps_for PassesOwn.never rfl (pi_range1 rfl T.range (pa_cons (pe_callB (r := rLenS K) call_len_seq (by rfl) T.len PySem.boot_len (pa_cons (pv 0) pa_nil)) pa_nil)) (pg_name (i := 3) sc_law_is_plan.nd rfl (.inl rfl)) (pss_cons (ps_setLc (i := 4) (own := [("_law_j", 6)]) (g := (gName 6)) rfl sc_law_is_plan.nd rfl rfl (sw_true rfl rfl rfl (by decide +kernel)) (pi_tup (pe_call G_law_going (hr.mono (by omega)) (by rfl) D_law_going.g D_law_going.F.kp D_law_going.b .nil pass0 (pa_cons (pv 0) (pa_cons (pe_ix (r := rIxT K) ix_tup (pe_ix (r := rIxT K) ix_tup (pv 0) (pv 3) (fun _ _ => rfl)) pe_int (fun _ _ => rfl)) pa_nil)))) (blkOk_by (N := ["_law_doffs_here", "_law_plan", "_law_many", "_law_k", "_law_same", "_law_one", "_law_j"]) (sc := defScope s_law_is_plan) (by decide +kernel)) (fun _ _ _ _ _ => (pg_name (i := 6) sc_law_is_plan.nd rfl (.inl rfl))) (fun _ _ _ _ _ => pts_nil) (fun _ _ _ _ _ => (pe_ix (r := rIxT K) ix_tup (pv 1) (pv 6) (fun _ _ => rfl))))
      (pss_one (ps_if (pt_cmpR op_ne (pe_bm PySem.F.plainAttrs_list PySem.F.slot_list_count PySem.F.type_list_count (by exact mt_lcount) (pv 4) (pa_cons (pe_ix (r := rIxT K) ix_tup (pv 1) (pv 3) (fun _ _ => rfl)) pa_nil)) pe_int (nomark _)) (pss_one (ps_ret pe_bl)) pss_nil))))
      (pss_one (ps_ret pe_bl))))), ?_⟩
  have x1 : ∀ {σ : L2.St} {H1 : Hp}, Ex H H1 → σ[0]? = some (some v1) → EvD K (tVar 0) σ H1 (doffsD ds) := fun e h => ed_var h (dp_mono e d1)
  have x2 : ∀ {σ : L2.St} {H1 : Hp}, Ex H H1 → σ[1]? = some (some v2) → EvD K (tVar 1) σ H1 (.tuple ((planN ds ds.length).map natD)) := fun e h => ed_var h (dp_mono e d2)
  refine q_when (b := false) (et_is (et_or (et_not (et_DB (ed_isTup (x2 (Ex.refl H) rfl)))) fun _ => et_D (ed_op (ed_cbt (eda_cons (x2 (Ex.refl H) rfl) eda_nil) rdc_lenT) (ed_cbt (eda_cons (x1 (Ex.refl H) rfl) eda_nil) rdc_lenT) rd_neI)) ?_) (fun h => nomatch h) (fun _ H1 e1 => ?_)
  · rw [List.length_map, List.length_map, planN_len]
    simp
  refine q_when (b := false) (et_is (et_not (et_DB (ed_all (bs := List.replicate (planN ds ds.length).length true) (ed_lcR (K := K) (fun _ => .bool true) (ewm_tup (f := natD) (as := planN ds ds.length) (x2 e1 rfl)) (by rw [planN_len]; omega) fun i n x H2 e2 hn hx => ⟨_, tg_name, rfl, rfl, ?_⟩) (map_trues _)))) (by rw [trues]; rfl)) (fun h => nomatch h) (fun _ H2 e2 => ?_)
  · have hil : i < ds.length := by
      have := (List.getElem?_eq_some_iff.mp hn).1
      rw [planN_len] at this
      exact this
    rw [planN_get ds hil] at hn
    cases hn
    have hmi := hm i hil
    refine ed_is (ed_and (K := K) (ed_whole (ed_var rfl hx)) fun _ => ed_chain (x := .int 0) (y := .int ((pk ds i : Nat) : Int)) (w := .int m) ed_ci (ed_var rfl hx) (fun _ => ed_var rfl (.int m)) rd_B0 rd_B0) ?_
    have h0 : (0 : Int) ≤ ((pk ds i : Nat) : Int) := by omega
    simp [h0, hmi]
  have e12 := e1.trans e2
  refine q_forR1 (ea_cons (ed_len (x1 e12 rfl)) ea_nil) ⟨by omega, by omega⟩ (fun i σ' H' => Ex H H' ∧ ∃ y3 y4 y5 y6 : Option V, σ' = [some v1, some v2, some (.int m), y3, y4, y5, y6]) (fun H3 e3 => ⟨e12.trans e3, _, _, _, _, rfl⟩) (fun i σ' H' hi p => ?_) (fun σ' H' p => ?_)
  · obtain ⟨ex, y3, y4, y5, y6, rfl⟩ := p
    have hil : i < ds.length := by omega
    have hsame : (going ds (dAt ds i).1).map (fun j => natD (pk ds j)) = (((going ds (dAt ds i).1).map (pk ds)).map fun (n : Nat) => (n : Int)).map PyData.int := by
      rw [List.map_map, List.map_map]
      rfl
    refine qd_asg (K := K) (d := .list ((((going ds (dAt ds i).1).map (pk ds)).map fun (n : Nat) => (n : Int)).map PyData.int)) (ed_is (ed_lcR (K := K) (fun j => natD (pk ds j)) (ewm_tup (f := natD) (as := going ds (dAt ds i).1) (ed_call (R := RgoingT) (eda_cons (x1 ex rfl) (eda_cons (ed_op (ed_dof hil (x1 ex rfl) (ed_var rfl (.int _))) ed_ci (rd_ixT (i := 0) (k := 0) rfl rfl)) eda_nil)) ⟨ds, (dAt ds i).1, rfl, hl, rfl⟩)) (Nat.le_trans (going_le ds _) (by omega)) fun i' j x H3 e3 hj hx => ⟨_, tg_name, rfl, rfl, ?_⟩) (by rw [hsame])) fun vs H3 e3 hvs => ?_
    · have hjn : j < ds.length := (mem_going.mp (List.mem_of_getElem? hj)).1
      exact ed_op (x2 (ex.trans e3) rfl) (ed_var rfl hx) (rd_ixT (k := j) (ixN_nat (by rw [List.length_map, planN_len]; exact hjn)) (by rw [List.getElem?_map, planN_get ds hjn]; rfl))
    refine s_if (b := false) (et_is (et_D (ed_op (ed_lcount (K := K) (b := ((pk ds i : Nat) : Int)) rfl hvs (ev_int (ed_op (x2 (ex.trans e3) rfl) (ed_var rfl (.int (i : Int))) (rd_ixT (k := i) (ixN_nat (by rw [List.length_map, planN_len]; exact hil)) (by rw [List.getElem?_map, planN_get ds hil]; rfl))))) ed_ci rd_neI)) ?_) (fun h => nomatch h) (fun _ H4 e4 => ?_)
    · rw [count_cast, once ho hil]
      rfl
    · exact ⟨(ex.trans e3).trans e4, _, _, _, _, rfl⟩
  · obtain ⟨ex, y3, y4, y5, y6, rfl⟩ := p
    exact sr_ret (ev_c (v := .bl true)) fun H3 e3 => q H3 (ex.trans e3)
end
end K42

set_option Elab.async false
set_option linter.all false
set_option maxRecDepth 100000
set_option maxHeartbeats 4000000
namespace K42
open PySem PySem.Spec PyProof.Rows L2 Evl DL GX YA EX TH TV YT DS LM LamX EM
abbrev s_law_with_right : Stmt := topS 51
theorem sc_law_with_right : FnScope ["_law_doffs_here", "_law_many", "_law_found", "_law_begin", "_law_end", "_law_frame", "_law_there", "_law_k"] ["_law_doffs_here", "_law_many"] (defScope s_law_with_right) := ⟨rfl, rfl, rfl, by decide +kernel, rfl, by decide +kernel, by decide +kernel⟩
abbrev s_law_least_right : Stmt := topS 50
theorem sc_law_least_right : FnScope ["_law_doffs_here", "_law_most", "_law_found"] ["_law_doffs_here", "_law_most"] (defScope s_law_least_right) := ⟨rfl, rfl, rfl, by decide +kernel, rfl, by decide +kernel, by decide +kernel⟩
theorem canLay_nats : ∀ ns : List Nat, PyData.canLayAll0 (ns.map natD) = true
  | [] => rfl
  | n :: ns => by
    show (PyData.canLay0 (natD n) && PyData.canLayAll0 (ns.map natD)) = true
    rw [canLay_nats ns]
    rfl
theorem depth_nats : ∀ ns : List Nat, PyData.depthAll (ns.map natD) ≤ 1
  | [] => by decide
  | n :: ns => by
    have h := depth_nats ns
    show max (PyData.depth (natD n)) (PyData.depthAll (ns.map natD)) ≤ 1
    have : PyData.depth (natD n) ≤ 1 := by
      show _ ≤ 1
      first | decide | exact Nat.le_refl _ | exact Nat.zero_le _ | simp [natD, PyData.depth]
    exact Nat.max_le.mpr ⟨this, h⟩
theorem canLay_dofs : ∀ ds : List Dof, PyData.canLayAll0 (ds.map dofD) = true
  | [] => rfl
  | d :: ds => by
    show (PyData.canLay0 (dofD d) && PyData.canLayAll0 (ds.map dofD)) = true
    rw [canLay_dofs ds]
    rfl
theorem depth_dofs : ∀ ds : List Dof, PyData.depthAll (ds.map dofD) ≤ 2
  | [] => by decide
  | d :: ds => by
    have h := depth_dofs ds
    show max (PyData.depth (dofD d)) (PyData.depthAll (ds.map dofD)) ≤ 2
    have : PyData.depth (dofD d) ≤ 2 := by
      show _ ≤ 2
      first | decide | exact Nat.le_refl _ | exact Nat.le_succ _ | simp [dofD, PyData.depth, PyData.depthAll]
    exact Nat.max_le.mpr ⟨this, h⟩
theorem shaped_doffs (ds : List Dof) : SeqAt.shaped (doffsD ds) = true := by
  have h1 : PyData.canLay0 (doffsD ds) = true := canLay_dofs ds
  have h2 : PyData.depth (doffsD ds) ≤ 64 := by
    have := depth_dofs ds
    show _ ≤ 64
    simp only [doffsD, PyData.depth]
    omega
  unfold SeqAt.shaped
  rw [h1, decide_eq_true h2]
  rfl
/-- a tuple with a tuple of numbers in it -/
theorem shaped_3 {x z : PyData} {ns : List Nat} (hx : PyData.canLay0 x = true ∧ PyData.depth x ≤ 1) (hz : PyData.canLay0 z = true ∧ PyData.depth z ≤ 1) : SeqAt.shaped (.tuple [x, .tuple (ns.map natD), z]) = true ∧ SeqAt.shaped (.tuple [x, z, .tuple (ns.map natD)]) = true := by
  have h1 := canLay_nats ns
  have h2 := depth_nats ns
  refine ⟨?_, ?_⟩
  · have c : PyData.canLay0 (.tuple [x, .tuple (ns.map natD), z]) = true := by
      show (PyData.canLay0 x && (PyData.canLayAll0 (ns.map natD) && (PyData.canLay0 z && true))) = true
      rw [hx.1, h1, hz.1]
      rfl
    have d : PyData.depth (.tuple [x, .tuple (ns.map natD), z]) ≤ 64 := by
      simp only [PyData.depth, PyData.depthAll]
      omega
    unfold SeqAt.shaped
    rw [c, decide_eq_true d]
    rfl
  · have c : PyData.canLay0 (.tuple [x, z, .tuple (ns.map natD)]) = true := by
      show (PyData.canLay0 x && (PyData.canLay0 z && (PyData.canLayAll0 (ns.map natD) && true))) = true
      rw [hx.1, h1, hz.1]
      rfl
    have d : PyData.depth (.tuple [x, z, .tuple (ns.map natD)]) ≤ 64 := by
      simp only [PyData.depth, PyData.depthAll]
      omega
    unfold SeqAt.shaped
    rw [c, decide_eq_true d]
    rfl
theorem eqv_self {d : PyData} (h : SeqAt.shaped d = true) : PyData.eqv d d = true := SeqAt.eqv_refl d (SeqAt.canLay_of_shaped h)
theorem flat_int {i : Int} : PyData.canLay0 (.int i) = true ∧ PyData.depth (.int i) ≤ 1 := ⟨rfl, by first | exact Nat.zero_le _ | exact Nat.le_refl _ | (show _ ≤ 1; simp [PyData.depth])⟩
theorem flat_clash : PyData.canLay0 (.str "clash") = true ∧ PyData.depth (.str "clash") ≤ 1 := ⟨by decide +kernel, by decide +kernel⟩
section
variable {P : Program} {w : World} {K : PySem.W.Frag} {mg : Str → Option Value} {base : Heap} {Ps : List Addr} {TL : List (Addr × Pos × Str)}
theorem rd_neSS {s : Str} : RD K rNe (.str s) (.str s) (.bool false) := fun v u H hv hu Q q => by
  cases dp_str hv
  cases dp_str hu
  refine ⟨rfl, ?_⟩
  have e : (!decide (V.str s = V.str s)) = false := by simp
  rw [e]
  exact q _ H (Ex.refl H) (.bl false)
theorem all_whole {σ : L2.St} {H : Hp} {tl : TE} {E : XK} {j : Nat} {ns : List Nat} (hl : ns.length ≤ 40000) (hjl : j < σ.length) (h : EvD K tl σ H (.tuple (ns.map natD))) : EvD K (tCB (rAll K) (tCons (tLc (iTup K tl) (gName j) tYes (tCall spWhole [] E (tCons (tVar j) tNil)) [j]) tNil)) σ H (.bool true) := by
  have z := ed_all (bs := List.replicate ns.length true) (ed_lcR (K := K) (g := gName j) (te := tCall spWhole [] E (tCons (tVar j) tNil)) (vs := [j]) (fun _ => .bool true) (ewm_tup (f := natD) (as := ns) h) hl fun i n x H2 e2 hn hx => ⟨_, tg_name, by
    show ((σ.set j none).set j (some x)).set j none = σ.set j none
    rw [List.set_set, List.set_set], rfl, ed_whole (ed_var (by
    show ((σ.set j none).set j (some x))[j]? = _
    rw [List.getElem?_set_self (by rw [List.length_set]; exact hjl)]) hx)⟩) (map_trues _)
  rw [trues] at z
  exact z
def spWithRight (K : PySem.W.Frag) (Ps : List Addr) : Sp := fun vs H Q _ => ∃ (ds : List Dof) (m : Int) (v1 : V), vs = [v1, .int m] ∧ Dp K H v1 (doffsD ds) ∧ Good ds ∧ 0 ≤ m ∧ Tb Ps H ∧ ∀ H', Ex H H' → Q (.bl true) H'
theorem ok_withRight {f f1 f2 f3 f4 C1 C2 : Addr} {fd fd1 fd2 fd3 fd4 : FuncData} {k j : Nat} (hj : 2 ≤ j) (T : Bi mg) (D : Df K mg "_law_with_right" s_law_with_right ["_law_doffs_here", "_law_many"] f fd) (D_law_whole : Df K mg "_law_whole" s_law_whole ["_law_thing"] f1 fd1) (D_law_going : Df K mg "_law_going" s_law_going ["_law_doffs_here", "_law_beat"] f2 fd2)
    (D_law_is_plan : Df K mg "_law_is_plan" s_law_is_plan ["_law_doffs_here", "_law_plan", "_law_many"] f3 fd3) (D_with_doffers : Df K mg "with_doffers" s_with_doffers ["doffs", "many"] f4 fd4) (G_with_doffers : FnOk P w K mg base (L2.CX P w) j f4 fd4 ["doffs", "many"] (spWith K Ps C1 C2)) :
    FnOk P w K mg base CX0 (j + 1) f fd ["_law_doffs_here", "_law_many"] (spWithRight K Ps) := by
  have G_law_whole : FnOk P w K mg base CX0 1 f1 fd1 ["_law_thing"] spWhole := ok_whole T D_law_whole
  have G_law_going : FnOk P w K mg base CX0 1 f2 fd2 ["_law_doffs_here", "_law_beat"] (spR K RgoingT) := ok_goingT T D_law_going
  have G_law_is_plan : FnOk P w K mg base CX0 2 f3 fd3 ["_law_doffs_here", "_law_plan", "_law_many"] (spIsPlan K) := ok_isPlan T D_law_is_plan D_law_whole D_law_going
  refine D.F.ok sc_law_with_right (fun vs H Q E h => ?_) (fun cdv A outer s H vs Q E hr h => ?_)
  · obtain ⟨_, _, _, rfl, _⟩ := h
    rfl
  obtain ⟨ds, m, v1, rfl, d1, hg, hm, hT, q⟩ := h
  have hl : ds.length ≤ 1000 := by have := hg.len; omega
  refine ⟨_, (pss_cons (ps_set (i := 2) sc_law_with_right.nd rfl (.inl rfl) (pe_callS G_with_doffers (hr.mono (by omega)) (by rfl) D_with_doffers.g D_with_doffers.F.kp D_with_doffers.b (fun σ => passAt L2.takes0 σ) (pa_cons (pv 0) (pa_cons (pv 1) pa_nil))))
      (pss_cons (ps_for PassesOwn.never rfl (pi_tup (pv 0)) (pg_tup rfl (pgs_cons (pg_name (i := 3) sc_law_with_right.nd rfl (.inl rfl)) (pgs_cons (pg_name (i := 4) sc_law_with_right.nd rfl (.inl rfl)) (pgs_cons (pg_name (i := 5) sc_law_with_right.nd rfl (.inl rfl)) pgs_nil)))) (pss_cons (ps_set (i := 6) sc_law_with_right.nd rfl (.inl rfl) (pe_call G_law_going (hr.mono (by omega)) (by rfl) D_law_going.g D_law_going.F.kp D_law_going.b .nil pass0 (pa_cons (pv 0) (pa_cons (pv 3) pa_nil))))
      (pss_one (ps_if (pt_cmpR op_gt (pe_callB (r := rLenS K) call_len_seq (by rfl) T.len PySem.boot_len (pa_cons (pv 6) pa_nil)) (pv 1) (nomark _)) (pss_cons (ps_if (pt_cmpR (r := rNeD K) (op_neD hr.units) (pv 2) (pe_tup (pa_cons pe_str (pa_cons (pv 3) (pa_cons (pv 6) pa_nil)))) (nomark _)) (pss_one (ps_ret pe_bl)) pss_nil)
      (pss_one (ps_ret (pe_callB (r := rAll K) (cr_all rfl) (by rfl) T.all boot_all (pa_cons (pe_lc (own := [("_law_k", 7)]) (g := (gName 7)) rfl sc_law_with_right.nd (pi_tup (pe_ix (r := rIxT K) ix_tup (pv 2) pe_int (fun _ _ => rfl))) (blkOk_by (N := ["_law_doffs_here", "_law_many", "_law_found", "_law_begin", "_law_end", "_law_frame", "_law_there", "_law_k"]) (sc := defScope s_law_with_right) (by decide +kernel)) (fun _ _ _ _ _ => (pg_name (i := 7) sc_law_with_right.nd rfl (.inl rfl))) (fun _ _ _ _ _ => pts_nil) (fun _ _ _ _ _ => (pe_call G_law_whole (hr.mono (by omega)) (by rfl) D_law_whole.g D_law_whole.F.kp D_law_whole.b .nil pass0 (pa_cons (pv 7) pa_nil)))) pa_nil))))) pss_nil))))
      (pss_cons (ps_if (PW.pt (pw_or (pt_not (pt_val (pe_callB (r := rIsi K) call_isi (by rfl) T.isinstance boot_isinstance (pa_cons (pv 2) (pa_cons (pe_bltn (by rfl) T.tuple boot_tuple (v := .ty "tuple") rfl) pa_nil))))) (pw_or (pt_cmpR op_ne (pe_callB (r := rLenS K) call_len_seq (by rfl) T.len PySem.boot_len (pa_cons (pv 2) pa_nil)) pe_int (nomark _)) (pw_or1 (pt_cmpR op_ne (pe_ix (r := rIxT K) ix_tup (pv 2) pe_int (fun _ _ => rfl)) pe_str (nomark _)))))) (pss_one (ps_ret pe_bl)) pss_nil)
      (pss_one (ps_ret (pe_call G_law_is_plan (hr.mono (by omega)) (by rfl) D_law_is_plan.g D_law_is_plan.F.kp D_law_is_plan.b .nil pass0 (pa_cons (pv 0) (pa_cons (pe_ix (r := rIxT K) ix_tup (pv 2) pe_int (fun _ _ => rfl)) (pa_cons (pv 1) pa_nil))))))))), ?_⟩
  refine ⟨v1, rfl, .int m, rfl, hT, .inr (.inr ⟨v1, ds, m, rfl, d1, hg, hm, fun vf H1 e1 hvf => ?_⟩)⟩
  dsimp only [gName]
  have x1 : ∀ {σ : L2.St} {H1 : Hp}, Ex H H1 → σ[0]? = some (some v1) → EvD K (tVar 0) σ H1 (doffsD ds) := fun e h => ed_var h (dp_mono e d1)
  refine q_for0 (H := H1) (Hc := H1) (as := ds) (ew0_tup (K := K) (f := dofD) (ev_var rfl) (dp_mono e1 d1)) (Ex.refl H1) (fun i σ' H' => Ex H1 H' ∧ (∃ y3 y4 y5 y6 y7 : Option V, σ' = [some v1, some (.int m), some vf, y3, y4, y5, y6, y7]) ∧ ((starts ds).take i).find? (fun s => decide (m < keyF ds s)) = none) (fun H3 e3 => ?_) (fun _ _ _ p => p.1) (fun i d x σ' H' H3 hd' p e3 hx => ?_) (fun σ' H' p => ?_)
  · exact ⟨e3, ⟨_, _, _, _, _, rfl⟩, rfl⟩
  · obtain ⟨ex, ⟨y3, y4, y5, y6, y7, rfl⟩, hf⟩ := p
    have ex3 := ex.trans e3
    have hsi : (starts ds)[i]? = some d.1 := by
      unfold starts
      rw [List.getElem?_map, hd']
      rfl
    obtain ⟨fyes, fno⟩ := find_take (p := fun s => decide (m < keyF ds s)) hsi hf
    refine ⟨_, tg_3 hx, ?_⟩
    refine qd_asg (K := K) (ed_call (R := RgoingT) (eda_cons (x1 (e1.trans ex3) rfl) (eda_cons (ed_var rfl (.int d.1)) eda_nil)) ⟨ds, d.1, rfl, hl, rfl⟩) fun vt H4 e4 hvt => ?_
    have hlen : EvD K (tCB (rLenS K) (tCons (tVar 6) tNil)) [some v1, some (.int m), some vf, some (.int d.1), some (.int d.2.1), some (.int d.2.2), some vt, y7] H4 (.int (keyF ds d.1)) := by
      have z := ed_cbt (eda_cons (ed_var (K := K) (σ := [some v1, some (.int m), some vf, some (.int d.1), some (.int d.2.1), some (.int d.2.2), some vt, y7]) (i := 6) rfl hvt) eda_nil) rdc_lenT
      rw [List.length_map] at z
      exact z
    refine s_if (et_D (K := K) (ed_op hlen (ed_var rfl (.int m)) rd_B0)) (fun hb H5 e5 => ?_) (fun hb H5 e5 => ?_)
    · have hc2 : clash ds m = some d.1 := fyes hb
      have hvf5 : Dp K H5 vf (.tuple [.str "clash", .int d.1, .tuple ((going ds d.1).map natD)]) := by
        unfold withD at hvf
        rw [hc2] at hvf
        exact dp_mono ((ex3.trans e4).trans e5) hvf
      have sh := (shaped_3 (ns := going ds d.1) flat_clash (flat_int (i := d.1))).2
      refine q_when (b := false) (et_is (et_D (K := K) (ed_op (ed_var rfl hvf5) (ed_tup (eda_cons ed_cs (eda_cons (ed_var rfl (.int d.1)) (eda_cons (ed_var rfl (dp_mono e5 hvt)) eda_nil))) (by show 3 ≤ 100000; decide)) (rd_neD sh sh))) (by rw [eqv_self sh]; rfl)) (fun h => nomatch h) (fun _ H6 e6 => ?_)
      refine sd_ret (v := .non) (all_whole (K := K) (Nat.le_trans (going_le ds d.1) (by omega)) (by show 7 < 8; decide) (ed_op (ed_var rfl (dp_mono e6 hvf5)) ed_ci (rd_ixT (i := 2) (k := 2) rfl rfl))) fun v' H7 e7 hv' => ?_
      rw [dp_bool hv']
      exact q H7 ((((e1.trans ex3).trans e4).trans e5).trans (e6.trans e7))
    · exact ⟨(ex3.trans e4).trans e5, ⟨_, _, _, _, _, rfl⟩, fno hb⟩
  · obtain ⟨ex, ⟨y3, y4, y5, y6, y7, rfl⟩, hf⟩ := p
    have hl2 : (starts ds).take ds.length = starts ds := List.take_of_length_le (by unfold starts; rw [List.length_map]; exact Nat.le_refl _)
    rw [hl2] at hf
    have hc2 : clash ds m = none := hf
    have hvf5 : Dp K H' vf (.tuple [.str "plan", .tuple ((planN ds ds.length).map natD)]) := by
      unfold withD at hvf
      rw [hc2] at hvf
      exact dp_mono ex hvf
    refine q_when (b := false) (et_is (et_or (et_not (et_DB (ed_isTup (K := K) (ed_var rfl hvf5)))) fun _ => et_or (et_D (K := K) (ed_op (ed_cbt (eda_cons (ed_var rfl hvf5) eda_nil) rdc_lenT) ed_ci rd_neI)) fun _ => et_D (K := K) (ed_op (ed_op (ed_var rfl hvf5) ed_ci (rd_ixT (i := 0) (k := 0) rfl rfl)) ed_cs rd_neSS)) rfl) (fun h => nomatch h) (fun _ H6 e6 => ?_)
    obtain ⟨pa, xs, rfl, hs, ha⟩ := dp_tup (dp_mono e6 hvf5)
    cases ha with
    | cons h1 ha =>
      cases ha with
      | cons h2 ha =>
        cases ha
        refine ⟨v1, rfl, .ref pa, rfl, pa, _, 1, _, rfl, rfl, hs, rfl, .int m, rfl, ds, m, v1, _, rfl, dp_mono ((e1.trans ex).trans e6) d1, h2, hl, good_ord hg, fun kk hk => ?_, fun H7 e7 => q H7 (((e1.trans ex).trans e6).trans e7)⟩
        have h3 := pk_lt (good_ord hg) hk
        have h4 := List.find?_eq_none.mp hf (dAt ds kk).1 (by
          unfold starts
          exact List.mem_map.mpr ⟨_, List.mem_of_getElem? (at_dAt hk), rfl⟩)
        have h5 : ¬ m < keyF ds (dAt ds kk).1 := by simpa using h4
        have h6 : keyF ds (dAt ds kk).1 = ((going ds (dAt ds kk).1).length : Int) := rfl
        omega
end
end K42

set_option Elab.async false
set_option linter.all false
set_option maxRecDepth 100000
set_option maxHeartbeats 4000000
namespace K42
open PySem PySem.Spec PyProof.Rows L2 Evl DL GX YA EX TH TV YT DS LM LamX EM
structure IsMost (ds : List Dof) (m : Int) : Prop where
  ub : ∀ s ∈ starts ds, keyF ds s ≤ m
  at' : ds ≠ [] → ∃ s ∈ starts ds, keyF ds s = m
section
variable {P : Program} {w : World} {K : PySem.W.Frag} {mg : Str → Option Value} {base : Heap} {Ps : List Addr} {TL : List (Addr × Pos × Str)}
theorem s_retAnd {ta tb : TE} {D : Ends} {σ : L2.St} {H : Hp} (h1 : Ev ta σ H (.bl true)) (k : ∀ H1, Ex H H1 → tb σ H1 D.rt) : tRet (tAndV ta tb) D σ H := h1 H (Ex.refl H) _ fun H1 e => ⟨true, rfl, by rw [if_pos rfl]; exact k H1 e⟩
theorem ev_isPlan {σ : L2.St} {H : Hp} {ta tb tc : TE} {E : XK} {ds : List Dof} {m : Int} (ha : EvD K ta σ H (doffsD ds)) (hb : EvD K tb σ H (.tuple ((planN ds ds.length).map natD))) (hc : Ev tc σ H (.int m)) (hl : ds.length ≤ 1000) (ho : EM.Ord ds) (hm : ∀ k, k < ds.length → ((pk ds k : Nat) : Int) < m) :
    Ev (tCall (spIsPlan K) [] E (tCons ta (tCons tb (tCons tc tNil)))) σ H (.bl true) := fun H1 e Q q => ha H1 e _ fun v1 H2 e2 hv1 => hb H2 (e.trans e2) _ fun v2 H3 e3 hv2 => hc H3 ((e.trans e2).trans e3) _ fun H4 e4 =>
  ⟨ds, m, v1, v2, rfl, dp_mono (e3.trans e4) hv1, dp_mono e4 hv2, hl, ho, hm, fun H5 e5 => q H5 (((e2.trans e3).trans e4).trans e5)⟩
def spLeastRight (K : PySem.W.Frag) (Ps : List Addr) (TL : List (Addr × Pos × Str)) : Sp := fun vs H Q _ => ∃ (ds : List Dof) (m : Int) (v1 : V), vs = [v1, .int m] ∧ Dp K H v1 (doffsD ds) ∧ Good ds ∧ IsMost ds m ∧ Tb Ps H ∧ Tbs TL H ∧ ∀ H', ExtN H H' → Tbs TL H' → Q (.bl true) H'
theorem ok_leastRight {f f1 f2 f3 f4 C1 : Addr} {fd fd1 fd2 fd3 fd4 : FuncData} {j : Nat} {st4 : Stmt} (hj : 2 ≤ j) (T : Bi mg) (D : Df K mg "_law_least_right" s_law_least_right ["_law_doffs_here", "_law_most"] f fd) (D_law_whole : Df K mg "_law_whole" s_law_whole ["_law_thing"] f1 fd1) (D_law_going : Df K mg "_law_going" s_law_going ["_law_doffs_here", "_law_beat"] f2 fd2)
    (D_law_is_plan : Df K mg "_law_is_plan" s_law_is_plan ["_law_doffs_here", "_law_plan", "_law_many"] f3 fd3) (D_least_doffers : Df K mg "least_doffers" st4 ["doffs"] f4 fd4) (G_least_doffers : FnOk P w K mg base (L2.CX P w) j f4 fd4 ["doffs"] (spLeast K Ps TL C1)) :
    FnOk P w K mg base CX0 (j + 1) f fd ["_law_doffs_here", "_law_most"] (spLeastRight K Ps TL) := by
  have G_law_whole : FnOk P w K mg base CX0 1 f1 fd1 ["_law_thing"] spWhole := ok_whole T D_law_whole
  have G_law_going : FnOk P w K mg base CX0 1 f2 fd2 ["_law_doffs_here", "_law_beat"] (spR K RgoingT) := ok_goingT T D_law_going
  have G_law_is_plan : FnOk P w K mg base CX0 2 f3 fd3 ["_law_doffs_here", "_law_plan", "_law_many"] (spIsPlan K) := ok_isPlan T D_law_is_plan D_law_whole D_law_going
  refine D.F.ok sc_law_least_right (fun vs H Q E h => ?_) (fun cdv A outer s H vs Q E hr h => ?_)
  · obtain ⟨_, _, _, rfl, _⟩ := h
    rfl
  obtain ⟨ds, m, v1, rfl, d0, hg, hmost, hT0, hTL0, q⟩ := h
  have hl : ds.length ≤ 1000 := by have := hg.len; omega
  refine ⟨_, (pss_cons (ps_set (i := 2) sc_law_least_right.nd rfl (.inl rfl) (pe_callS G_least_doffers (hr.mono (by omega)) (by rfl) D_least_doffers.g D_least_doffers.F.kp D_least_doffers.b (fun σ => passAt L2.takes0 σ) (pa_cons (pv 0) pa_nil)))
      (pss_cons (ps_if (pt_cmpR (r := rEqD K) (op_eqD hr.units) (pv 0) (pe_tup pa_nil) (nomark _)) (pss_one (ps_ret (pe_and (pe_cmpR (r := rEqD K) (op_eqD hr.units) (pv 2) (pe_tup (pa_cons pe_int (pa_cons (pe_tup pa_nil) (pa_cons pe_non pa_nil)))) (nomark _)) (pe_one (pe_call G_law_whole (hr.mono (by omega)) (by rfl) D_law_whole.g D_law_whole.F.kp D_law_whole.b .nil pass0 (pa_cons (pe_ix (r := rIxT K) ix_tup (pv 2) pe_int (fun _ _ => rfl)) pa_nil)))))) pss_nil)
      (pss_cons (ps_if (PW.pt (pw_or (pt_not (pt_val (pe_callB (r := rIsi K) call_isi (by rfl) T.isinstance boot_isinstance (pa_cons (pv 2) (pa_cons (pe_bltn (by rfl) T.tuple boot_tuple (v := .ty "tuple") rfl) pa_nil))))) (pw_or1 (pt_cmpR op_ne (pe_callB (r := rLenS K) call_len_seq (by rfl) T.len PySem.boot_len (pa_cons (pv 2) pa_nil)) pe_int (nomark _))))) (pss_one (ps_ret pe_bl)) pss_nil)
      (pss_cons (ps_if (PW.pt (pw_or (pt_not (pt_val (pe_call G_law_whole (hr.mono (by omega)) (by rfl) D_law_whole.g D_law_whole.F.kp D_law_whole.b .nil pass0 (pa_cons (pe_ix (r := rIxT K) ix_tup (pv 2) pe_int (fun _ _ => rfl)) pa_nil)))) (pw_or1 (pt_cmpR op_ne (pe_ix (r := rIxT K) ix_tup (pv 2) pe_int (fun _ _ => rfl)) (pv 1) (nomark _))))) (pss_one (ps_ret pe_bl)) pss_nil)
      (pss_cons (ps_if (PW.pt (pw_or (pt_not (pt_val (pe_call G_law_is_plan (hr.mono (by omega)) (by rfl) D_law_is_plan.g D_law_is_plan.F.kp D_law_is_plan.b .nil pass0 (pa_cons (pv 0) (pa_cons (pe_ix (r := rIxT K) ix_tup (pv 2) pe_int (fun _ _ => rfl)) (pa_cons (pv 1) pa_nil)))))) (pw_or1 (pt_not (pt_val (pe_call G_law_whole (hr.mono (by omega)) (by rfl) D_law_whole.g D_law_whole.F.kp D_law_whole.b .nil pass0 (pa_cons (pe_ix (r := rIxT K) ix_tup (pv 2) pe_int (fun _ _ => rfl)) pa_nil))))))) (pss_one (ps_ret pe_bl)) pss_nil)
      (pss_one (ps_ret (pe_and (pe_cmpR op_eq (pe_callB (r := rLenS K) call_len_seq (by rfl) T.len PySem.boot_len (pa_cons (pe_call G_law_going (hr.mono (by omega)) (by rfl) D_law_going.g D_law_going.F.kp D_law_going.b .nil pass0 (pa_cons (pv 0) (pa_cons (pe_ix (r := rIxT K) ix_tup (pv 2) pe_int (fun _ _ => rfl)) pa_nil))) pa_nil)) (pv 1) (nomark _)) (pe_one (pe_cmpR (r := rEqD K) (op_eqD hr.units) (pe_callS G_least_doffers (hr.mono (by omega)) (by rfl) D_least_doffers.g D_least_doffers.F.kp D_least_doffers.b (fun σ => passAt L2.takes0 σ) (pa_cons (pv 0) pa_nil)) (pv 2) (nomark _))))))))))), ?_⟩
  refine ⟨v1, rfl, hT0, .inr ⟨v1, ds, rfl, d0, hg, hTL0, fun vf H1 eN hTL hvf => ?_⟩⟩
  dsimp only [gName]
  have d1 := dp_extN eN d0
  have hT := tb_extN eN hT0
  have x1 : ∀ {σ : L2.St} {H2 : Hp}, Ex H1 H2 → σ[0]? = some (some v1) → EvD K (tVar 0) σ H2 (doffsD ds) := fun e h => ed_var h (dp_mono e d1)
  refine q_when (et_D (K := K) (ed_op (x1 (Ex.refl H1) rfl) (ed_tup eda_nil (by decide)) (rd_eqD (shaped_doffs ds) (by decide +kernel)))) (fun hb H2 e2 => ?_) (fun hb H2 e2 => ?_)
  · have e0 : ds = [] := by
      cases ds with
      | nil => rfl
      | cons d ds => simp [doffsD, PyData.eqv, PyData.eqvAll] at hb
    subst e0
    have hvf2 : Dp K H2 vf (.tuple [.int 0, .tuple [], .none]) := dp_mono e2 hvf
    refine sd_ret (v := .non) (ed_and (K := K) (ed_op (ed_var rfl hvf2) (ed_tup (eda_cons ed_ci (eda_cons (ed_tup eda_nil (by decide)) (eda_cons ed_cn eda_nil))) (by decide)) (rd_eqD (by decide +kernel) (by decide +kernel))) fun _ => ed_whole (i := 0) (ed_op (ed_var rfl hvf2) ed_ci (rd_ixT (i := 0) (k := 0) rfl rfl))) fun u H3 e3 hu => ?_
    rw [dp_bool hu]
    exact q H3 (eN.trans (ExtN.of (e2.trans e3))) (tbs_ex hTL (e2.trans e3))
  · have hne : ds ≠ [] := fun z => by
      subst z
      simp [doffsD, PyData.eqv, PyData.eqvAll] at hb
    have hsne : starts ds ≠ [] := fun z => hne (List.map_eq_nil_iff.mp z)
    obtain ⟨b, hbk, hbm, hbu⟩ := best_is (keyF ds) (starts ds) hsne
    have hkm : keyF ds b = m := by
      obtain ⟨s0, hs0, es0⟩ := hmost.at' hne
      have h1 := hmost.ub b hbm
      have h2 := hbu s0 hs0
      omega
    have hleast : leastD ds = .tuple [.int m, .tuple ((planN ds ds.length).map natD), .int b] := by
      unfold leastD
      rw [hbk]
      show PyData.tuple [.int (keyF ds b), _, _] = _
      rw [hkm]
    rw [hleast] at hvf
    have x2 : ∀ {σ : L2.St} {H2 : Hp}, Ex H1 H2 → σ[2]? = some (some vf) → EvD K (tVar 2) σ H2 (.tuple [.int m, .tuple ((planN ds ds.length).map natD), .int b]) := fun e h => ed_var h (dp_mono e hvf)
    have x20 : ∀ {σ : L2.St} {H2 : Hp}, Ex H1 H2 → σ[2]? = some (some vf) → EvD K (tOp (rIxT K) (tVar 2) (tC (.int 0))) σ H2 (.int m) := fun e h => ed_op (x2 e h) ed_ci (rd_ixT (i := 0) (k := 0) rfl rfl)
    have x21 : ∀ {σ : L2.St} {H2 : Hp}, Ex H1 H2 → σ[2]? = some (some vf) → EvD K (tOp (rIxT K) (tVar 2) (tC (.int 1))) σ H2 (.tuple ((planN ds ds.length).map natD)) := fun e h => ed_op (x2 e h) ed_ci (rd_ixT (i := 1) (k := 1) rfl rfl)
    have x22 : ∀ {σ : L2.St} {H2 : Hp}, Ex H1 H2 → σ[2]? = some (some vf) → EvD K (tOp (rIxT K) (tVar 2) (tC (.int 2))) σ H2 (.int b) := fun e h => ed_op (x2 e h) ed_ci (rd_ixT (i := 2) (k := 2) rfl rfl)
    refine q_when (b := false) (et_is (et_or (et_not (et_DB (ed_isTup (x2 e2 rfl)))) fun _ => et_D (K := K) (ed_op (ed_cbt (eda_cons (x2 e2 rfl) eda_nil) rdc_lenT) ed_ci rd_neI)) rfl) (fun h => nomatch h) (fun _ H3 e3 => ?_)
    have e23 := e2.trans e3
    refine q_when (b := false) (et_is (et_or (et_not (et_DB (ed_whole (i := m) (x20 e23 rfl)))) fun _ => et_D (K := K) (ed_op (x20 e23 rfl) (ed_var rfl (.int m)) rd_neI)) (by simp)) (fun h => nomatch h) (fun _ H4 e4 => ?_)
    have e24 := e23.trans e4
    have hpk : ∀ k, k < ds.length → ((pk ds k : Nat) : Int) < m := fun k hk => by
      have h3 := pk_lt (good_ord hg) hk
      have h4 := hmost.ub (dAt ds k).1 (by
        unfold starts
        exact List.mem_map.mpr ⟨_, List.mem_of_getElem? (at_dAt hk), rfl⟩)
      have h6 : keyF ds (dAt ds k).1 = ((going ds (dAt ds k).1).length : Int) := rfl
      omega
    refine q_when (b := false) (et_is (et_or (et_not (et_B (ev_isPlan (K := K) (x1 e24 rfl) (x21 e24 rfl) (ev_var rfl) hl (good_ord hg) hpk))) fun _ => et_not (et_DB (ed_whole (i := b) (x22 e24 rfl)))) rfl) (fun h => nomatch h) (fun _ H5 e5 => ?_)
    have e25 := e24.trans e5
    have hglen : EvD K (tCB (rLenS K) (tCons (tCall (spR K RgoingT) [] E0 (tCons (tVar 0) (tCons (tOp (rIxT K) (tVar 2) (tC (.int 2))) tNil))) tNil)) [some v1, some (.int m), some vf] H5 (.int (keyF ds b)) := by
      have z := ed_cbt (eda_cons (ed_call (K := K) (σ := [some v1, some (.int m), some vf]) (H := H5) (E := E0) (R := RgoingT) (eda_cons (x1 e25 rfl) (eda_cons (x22 e25 rfl) eda_nil)) ⟨ds, b, rfl, hl, rfl⟩) eda_nil) rdc_lenT
      rw [List.length_map] at z
      exact z
    refine s_retAnd (ev_bool (ed_is (K := K) (ed_op hglen (ed_var rfl (.int m)) rd_eqI) (by rw [hkm]; simp))) fun H6 e6 => ?_
    have e26 := e25.trans e6
    refine ⟨v1, rfl, hT.ex e26, .inr ⟨v1, ds, rfl, dp_mono e26 d1, hg, tbs_ex hTL e26, fun v' H7 eN7 hTL7 hv' => ⟨vf, rfl, leastD ds, leastD ds, hv', ?_, ?_, ?_, ?_⟩⟩⟩
    · rw [hleast]
      exact dp_extN eN7 (dp_mono e26 hvf)
    · rw [hleast]
      exact (shaped_3 flat_int flat_int).1
    · rw [hleast]
      exact (shaped_3 flat_int flat_int).1
    · have es : PyData.eqv (leastD ds) (leastD ds) = true := eqv_self (by rw [hleast]; exact (shaped_3 flat_int flat_int).1)
      rw [es]
      exact q H7 ((eN.trans (ExtN.of e26)).trans eN7) hTL7
end
end K42

set_option Elab.async false
set_option linter.all false
set_option maxRecDepth 100000
set_option maxHeartbeats 4000000
namespace K42
open PySem PySem.Spec PyProof.Rows L2 Evl DL GX YA EX TH TV YT DS LM LamX EM
abbrev s_law_sort : Stmt := topS 53
theorem sc_law_sort : FnScope ["_law_e", "_law_some"] ["_law_e"] (defScope s_law_sort) := ⟨rfl, rfl, rfl, by decide +kernel, rfl, by decide +kernel, by decide +kernel⟩
def errs : List Str := ["NoYard", "NoFrame", "NoMoment", "NoWait", "NoMany", "NoDoffs", "NoHand", "NoStray", "NoText", "NoMinds", "NoSpun", "NoThread", "TooMany", "NoStrike", "NoPlain", "NoSmall", "NoStory", "NoCalls", "NoRow"]
def bits (nm : Str) : List Bool := errs.map fun n => n == nm
theorem bootVE : bootBuiltins "ValueError" = some (.type "ValueError") := by decide +kernel
/-- where the classes of errors stand -/
structure Ec (mg : Str → Option Value) (C : Str → Addr) : Prop where
  g : ∀ n ∈ ("DoffError" :: errs : List Str), mg n = some (.ref (C n))
/-- what is asked of one of them -/
structure E1 (K : PySem.W.Frag) (C : Str → Addr) (nm : Str) : Prop where
  is : ExcC K (C nm)
  kit : ∀ n ∈ errs, PySem.W.kitOne K (.ref (C nm)) (.ref (C n)) = some (n == nm)
  ve : PySem.W.kitOne K (.ref (C nm)) (.type "ValueError") = some true
  de : PySem.W.kitOne K (.ref (C nm)) (.ref (C "DoffError")) = some true
  ex : PySem.W.exmOne K (.ref (C nm)) (.ref (C "DoffError")) = some true
section
variable {K : PySem.W.Frag} {σ : L2.St} {H : Hp} {ta tb te : TE}
theorem ev_isG {D a : Addr} {c : V} {cv : Value} {b : Bool} (h : Ev te σ H (.ref a)) (ha : H a = some (ExG (.ref D) none a)) (hc : ClsV c cv) (hk : PySem.W.kitOne K (.ref D) cv = some b) : Ev (tCB (rIsG K D) (tCons te (tCons (tC c) tNil))) σ H (.bl b) := fun H1 e Q q =>
  h H1 e _ fun H2 e2 => ⟨a, c, cv, b, rfl, e2 _ _ (e _ _ ha), hc, hk, q H2 e2⟩
theorem el_catV {l : Addr} {xs ys : List V} (h : Ev ta σ H (.ref l)) (hl : H l = some (.lst xs)) (hb : EvL tb σ H ys) (hz : xs.length + ys.length ≤ 100000) : EvL (tOp rCat ta tb) σ H (xs ++ ys) := fun H1 e Q q =>
  h H1 e _ fun H2 e2 => hb H2 (e.trans e2) _ fun p H3 hp e3 hp3 => ⟨l, p, xs, ys, rfl, rfl, e3 _ _ (e2 _ _ (e _ _ hl)), hp3, sz_of hz, fun r hr => q r _ (fresh_back (e2.trans e3) hr) ((e2.trans e3).trans (Ex.new hr)) upd_same⟩
theorem el_cat2 {xs ys : List V} (ha : EvL ta σ H xs) (hb : EvL tb σ H ys) (hz : xs.length + ys.length ≤ 100000) : EvL (tOp rCat ta tb) σ H (xs ++ ys) := fun H1 e Q q =>
  ha H1 e _ fun p H2 hp e2 hx => hb H2 (e.trans e2) _ fun r H3 hr e3 hy => ⟨p, r, xs, ys, rfl, rfl, e3 _ _ hx, hy, sz_of hz, fun n hn => q n _ (fresh_back (e2.trans e3) hn) ((e2.trans e3).trans (Ex.new hn)) upd_same⟩
theorem el_rep {xs : List V} {k : Nat} (ha : EvL ta σ H xs) (hz : xs.length * k ≤ 100000 ∧ k ≤ 100000) : EvL (tOp rRep ta (tC (.int (k : Int)))) σ H (List.replicate k xs).flatten := fun H1 e Q q =>
  ha H1 e _ fun p H2 hp e2 hx => ⟨p, k, xs, rfl, rfl, hx, by omega, by omega, by rw [Int.toNat_natCast]; exact sz_of hz.1, fun n hn => q n _ (fresh_back e2 hn) (e2.trans (Ex.new hn)) (by rw [Int.toNat_natCast]; exact upd_same)⟩
end
def spSort (C : Str → Addr) (nm word : Str) : Sp := fun vs H Q _ => ∃ a, vs = [.ref a] ∧ H a = some (ExG (.ref (C nm)) none a) ∧ ∀ H', Ex H H' → Q (.str word) H'
section
variable {P : Program} {w : World} {K : PySem.W.Frag} {mg : Str → Option Value} {base : Heap} {C : Str → Addr}
theorem ok_sortD {f : Addr} {fd : FuncData} {k : Nat} (T : Bi mg) (hC : Ec mg C) (hE : E1 K C "NoDoffs") (D : Df K mg "_law_sort" s_law_sort ["_law_e"] f fd) : FnOk P w K mg base CX0 (k + 1) f fd ["_law_e"] (spSort C "NoDoffs" "doffs") := by
  refine D.F.ok sc_law_sort (fun vs H Q E h => by obtain ⟨_, rfl, _⟩ := h; rfl) (fun cdv A outer s H vs Q E hr h => ?_)
  obtain ⟨a, rfl, ha, q⟩ := h
  refine ⟨_, (pss_cons (ps_set (i := 1) sc_law_sort.nd rfl (.inl rfl) (pe_lst (pa_cons (pe_callB (r := rIsG K (C "NoDoffs")) (call_isG hE.is) (by rfl) T.isinstance boot_isinstance (pa_cons (pv 0) (pa_cons (pe_glob (v := .ref (C "NoYard")) (by rfl) (hC.g "NoYard" (by decide)) rfl) pa_nil))) (pa_cons (pe_callB (r := rIsG K (C "NoDoffs")) (call_isG hE.is) (by rfl) T.isinstance boot_isinstance (pa_cons (pv 0) (pa_cons (pe_glob (v := .ref (C "NoFrame")) (by rfl) (hC.g "NoFrame" (by decide)) rfl) pa_nil))) (pa_cons (pe_callB (r := rIsG K (C "NoDoffs")) (call_isG hE.is) (by rfl) T.isinstance boot_isinstance (pa_cons (pv 0) (pa_cons (pe_glob (v := .ref (C "NoMoment")) (by rfl) (hC.g "NoMoment" (by decide)) rfl) pa_nil))) (pa_cons (pe_callB (r := rIsG K (C "NoDoffs")) (call_isG hE.is) (by rfl) T.isinstance boot_isinstance (pa_cons (pv 0) (pa_cons (pe_glob (v := .ref (C "NoWait")) (by rfl) (hC.g "NoWait" (by decide)) rfl) pa_nil))) pa_nil))))))
      (pss_cons (ps_set (i := 1) sc_law_sort.nd rfl (.inl rfl) (pe_op op_cat (pv 1) (pe_lst (pa_cons (pe_callB (r := rIsG K (C "NoDoffs")) (call_isG hE.is) (by rfl) T.isinstance boot_isinstance (pa_cons (pv 0) (pa_cons (pe_glob (v := .ref (C "NoMany")) (by rfl) (hC.g "NoMany" (by decide)) rfl) pa_nil))) (pa_cons (pe_callB (r := rIsG K (C "NoDoffs")) (call_isG hE.is) (by rfl) T.isinstance boot_isinstance (pa_cons (pv 0) (pa_cons (pe_glob (v := .ref (C "NoDoffs")) (by rfl) (hC.g "NoDoffs" (by decide)) rfl) pa_nil))) (pa_cons (pe_callB (r := rIsG K (C "NoDoffs")) (call_isG hE.is) (by rfl) T.isinstance boot_isinstance (pa_cons (pv 0) (pa_cons (pe_glob (v := .ref (C "NoHand")) (by rfl) (hC.g "NoHand" (by decide)) rfl) pa_nil))) (pa_cons (pe_callB (r := rIsG K (C "NoDoffs")) (call_isG hE.is) (by rfl) T.isinstance boot_isinstance (pa_cons (pv 0) (pa_cons (pe_glob (v := .ref (C "NoStray")) (by rfl) (hC.g "NoStray" (by decide)) rfl) pa_nil))) pa_nil)))))))
      (pss_cons (ps_set (i := 1) sc_law_sort.nd rfl (.inl rfl) (pe_op op_cat (pv 1) (pe_lst (pa_cons (pe_callB (r := rIsG K (C "NoDoffs")) (call_isG hE.is) (by rfl) T.isinstance boot_isinstance (pa_cons (pv 0) (pa_cons (pe_glob (v := .ref (C "NoText")) (by rfl) (hC.g "NoText" (by decide)) rfl) pa_nil))) (pa_cons (pe_callB (r := rIsG K (C "NoDoffs")) (call_isG hE.is) (by rfl) T.isinstance boot_isinstance (pa_cons (pv 0) (pa_cons (pe_glob (v := .ref (C "NoMinds")) (by rfl) (hC.g "NoMinds" (by decide)) rfl) pa_nil))) (pa_cons (pe_callB (r := rIsG K (C "NoDoffs")) (call_isG hE.is) (by rfl) T.isinstance boot_isinstance (pa_cons (pv 0) (pa_cons (pe_glob (v := .ref (C "NoSpun")) (by rfl) (hC.g "NoSpun" (by decide)) rfl) pa_nil))) (pa_cons (pe_callB (r := rIsG K (C "NoDoffs")) (call_isG hE.is) (by rfl) T.isinstance boot_isinstance (pa_cons (pv 0) (pa_cons (pe_glob (v := .ref (C "NoThread")) (by rfl) (hC.g "NoThread" (by decide)) rfl) pa_nil))) pa_nil)))))))
      (pss_cons (ps_set (i := 1) sc_law_sort.nd rfl (.inl rfl) (pe_op op_cat (pv 1) (pe_lst (pa_cons (pe_callB (r := rIsG K (C "NoDoffs")) (call_isG hE.is) (by rfl) T.isinstance boot_isinstance (pa_cons (pv 0) (pa_cons (pe_glob (v := .ref (C "TooMany")) (by rfl) (hC.g "TooMany" (by decide)) rfl) pa_nil))) (pa_cons (pe_callB (r := rIsG K (C "NoDoffs")) (call_isG hE.is) (by rfl) T.isinstance boot_isinstance (pa_cons (pv 0) (pa_cons (pe_glob (v := .ref (C "NoStrike")) (by rfl) (hC.g "NoStrike" (by decide)) rfl) pa_nil))) (pa_cons (pe_callB (r := rIsG K (C "NoDoffs")) (call_isG hE.is) (by rfl) T.isinstance boot_isinstance (pa_cons (pv 0) (pa_cons (pe_glob (v := .ref (C "NoPlain")) (by rfl) (hC.g "NoPlain" (by decide)) rfl) pa_nil))) (pa_cons (pe_callB (r := rIsG K (C "NoDoffs")) (call_isG hE.is) (by rfl) T.isinstance boot_isinstance (pa_cons (pv 0) (pa_cons (pe_glob (v := .ref (C "NoSmall")) (by rfl) (hC.g "NoSmall" (by decide)) rfl) pa_nil))) pa_nil)))))))
      (pss_cons (ps_set (i := 1) sc_law_sort.nd rfl (.inl rfl) (pe_op op_cat (pv 1) (pe_lst (pa_cons (pe_callB (r := rIsG K (C "NoDoffs")) (call_isG hE.is) (by rfl) T.isinstance boot_isinstance (pa_cons (pv 0) (pa_cons (pe_glob (v := .ref (C "NoStory")) (by rfl) (hC.g "NoStory" (by decide)) rfl) pa_nil))) (pa_cons (pe_callB (r := rIsG K (C "NoDoffs")) (call_isG hE.is) (by rfl) T.isinstance boot_isinstance (pa_cons (pv 0) (pa_cons (pe_glob (v := .ref (C "NoCalls")) (by rfl) (hC.g "NoCalls" (by decide)) rfl) pa_nil))) (pa_cons (pe_callB (r := rIsG K (C "NoDoffs")) (call_isG hE.is) (by rfl) T.isinstance boot_isinstance (pa_cons (pv 0) (pa_cons (pe_glob (v := .ref (C "NoRow")) (by rfl) (hC.g "NoRow" (by decide)) rfl) pa_nil))) pa_nil))))))
      (pss_cons (ps_if (PW.pt (pw_or (pt_not (pt_val (pe_callB (r := rIsG K (C "NoDoffs")) (call_isG hE.is) (by rfl) T.isinstance boot_isinstance (pa_cons (pv 0) (pa_cons (pe_glob (v := .ref (C "DoffError")) (by rfl) (hC.g "DoffError" (by decide)) rfl) pa_nil))))) (pw_or (pt_not (pt_val (pe_callB (r := rIsG K (C "NoDoffs")) (call_isG hE.is) (by rfl) T.isinstance boot_isinstance (pa_cons (pv 0) (pa_cons (pe_bltn (by rfl) T.ValueError bootVE (v := .ty "ValueError") rfl) pa_nil))))) (pw_or1 (pt_cmpR op_ne (pe_bm PySem.F.plainAttrs_list PySem.F.slot_list_count PySem.F.type_list_count (by exact mt_cntB hr.units) (pv 1) (pa_cons pe_bl pa_nil)) pe_int (nomark _)))))) (pss_one (ps_ret pe_str)) pss_nil)
      (pss_one (ps_ret (pe_ix (r := rIxL K) ix_list (pe_op op_cat (pe_lst (pa_cons pe_str (pa_cons pe_str (pa_cons pe_str (pa_cons pe_str (pa_cons pe_str (pa_cons pe_str pa_nil))))))) (pe_op op_rep (pe_lst (pa_cons pe_str pa_nil)) pe_int)) (pe_bm PySem.F.plainAttrs_list PySem.F.slot_list_index PySem.F.type_list_index (by exact mt_index) (pv 1) (pa_cons pe_bl pa_nil)) (fun _ _ => rfl)))))))))), ?_⟩
  have one : ∀ {σ : L2.St} {H1 : Hp} {te : TE} (n : Str) (hn : n ∈ errs), Ex H H1 → Ev te σ H1 (.ref a) → Ev (tCB (rIsG K (C "NoDoffs")) (tCons te (tCons (tC (.ref (C n))) tNil))) σ H1 (.bl (n == "NoDoffs")) := fun n hn e h => ev_isG h (e _ _ ha) (.own _) (hE.kit n hn)
  have e0 : Ex H H := Ex.refl H
  refine q_asgL (el_lst (ea_cons (one "NoYard" (by decide) e0 (ev_var rfl)) (ea_cons (one "NoFrame" (by decide) e0 (ev_var rfl)) (ea_cons (one "NoMoment" (by decide) e0 (ev_var rfl)) (ea_cons (one "NoWait" (by decide) e0 (ev_var rfl)) ea_nil)))) (by show 4 ≤ 100000; decide)) fun l1 H1 _ e1 hl1 => ?_
  refine q_asgL (el_catV (ev_var rfl) hl1 (el_lst (ea_cons (one "NoMany" (by decide) e1 (ev_var rfl)) (ea_cons (one "NoDoffs" (by decide) e1 (ev_var rfl)) (ea_cons (one "NoHand" (by decide) e1 (ev_var rfl)) (ea_cons (one "NoStray" (by decide) e1 (ev_var rfl)) ea_nil)))) (by show 4 ≤ 100000; decide)) (by show 8 ≤ 100000; decide)) fun l2 H2 _ e2' hl2 => ?_
  have e2 := e1.trans e2'
  refine q_asgL (el_catV (ev_var rfl) hl2 (el_lst (ea_cons (one "NoText" (by decide) e2 (ev_var rfl)) (ea_cons (one "NoMinds" (by decide) e2 (ev_var rfl)) (ea_cons (one "NoSpun" (by decide) e2 (ev_var rfl)) (ea_cons (one "NoThread" (by decide) e2 (ev_var rfl)) ea_nil)))) (by show 4 ≤ 100000; decide)) (by show 12 ≤ 100000; decide)) fun l3 H3 _ e3' hl3 => ?_
  have e3 := e2.trans e3'
  refine q_asgL (el_catV (ev_var rfl) hl3 (el_lst (ea_cons (one "TooMany" (by decide) e3 (ev_var rfl)) (ea_cons (one "NoStrike" (by decide) e3 (ev_var rfl)) (ea_cons (one "NoPlain" (by decide) e3 (ev_var rfl)) (ea_cons (one "NoSmall" (by decide) e3 (ev_var rfl)) ea_nil)))) (by show 4 ≤ 100000; decide)) (by show 16 ≤ 100000; decide)) fun l4 H4 _ e4' hl4 => ?_
  have e4 := e3.trans e4'
  refine q_asgL (el_catV (ev_var rfl) hl4 (el_lst (ea_cons (one "NoStory" (by decide) e4 (ev_var rfl)) (ea_cons (one "NoCalls" (by decide) e4 (ev_var rfl)) (ea_cons (one "NoRow" (by decide) e4 (ev_var rfl)) ea_nil))) (by show 3 ≤ 100000; decide)) (by show 19 ≤ 100000; decide)) fun l5 H5 _ e5' hl5 => ?_
  have e5 := e4.trans e5'
  have hl : H5 l5 = some (.lst ((bits "NoDoffs").map V.bl)) := hl5
  refine q_when (b := false) (et_is (et_or (a := false) (b := false) (et_is (et_not (et_B (ev_isG (ev_var rfl) (e5 _ _ ha) (.own _) hE.de))) rfl) fun _ => et_or (a := false) (b := false) (et_is (et_not (et_B (ev_isG (ev_var rfl) (e5 _ _ ha) (.ty _) hE.ve))) rfl) fun _ => et_test (ev_is (v := .bl (!decide (V.int ((bits "NoDoffs").count true : Nat) = V.int 1))) (fun H6 e6 Q6 q6 => ?_) ?_)) rfl) (fun h => nomatch h) (fun _ H6 e6 => ?_)
  · exact ⟨.ref l5, rfl, .inl ⟨rfl, _, .inl (.inl (e6 _ _ hl))⟩, l5, _, true, rfl, rfl, sq_of (e6 _ _ hl), rfl, q6 H6 (Ex.refl H6)⟩
  · exact congrArg V.bl (by decide +kernel)
  refine (el_cat2 (el_lst (ea_cons ev_c (ea_cons ev_c (ea_cons ev_c (ea_cons ev_c (ea_cons ev_c (ea_cons ev_c ea_nil)))))) (by show 6 ≤ 100000; decide)) (el_rep (k := 13) (el_lst (ea_cons ev_c ea_nil) (by show 1 ≤ 100000; decide)) (by decide)) (by show 6 + 13 ≤ 100000; decide)) H6 (Ex.refl H6) _ fun m2 H8 _ e8 hm2 => ?_
  have hl8 : H8 l5 = some (.lst ((bits "NoDoffs").map V.bl)) := e8 _ _ (e6 _ _ hl)
  refine ⟨.ref l5, rfl, .inl ⟨rfl, _, .inl (.inl hl8)⟩, l5, _, .bl true, 5, .bl true, rfl, rfl, sq_of hl8, rfl, by decide +kernel, by decide +kernel, rfl, fun m z hm hz => ?_, m2, _, 5, .str "doffs", rfl, rfl, sq_of hm2, rfl, q H8 ((e5.trans e6).trans e8)⟩
  rcases m with _ | _ | _ | _ | _ | m
  all_goals first
    | (cases hz; rfl)
    | (exfalso; omega)
end
end K42

set_option Elab.async false
set_option linter.all false
set_option maxRecDepth 100000
set_option maxHeartbeats 4000000
namespace K42
open PySem PySem.Spec PyProof.Rows L2 Evl DL GX YA EX TH TV YT DS LM LamX EM
section
variable {P : Program} {w : World} {K : PySem.W.Frag} {mg : Str → Option Value} {base : Heap} {C : Str → Addr}
theorem ok_sortM {f : Addr} {fd : FuncData} {k : Nat} (T : Bi mg) (hC : Ec mg C) (hE : E1 K C "NoMany") (D : Df K mg "_law_sort" s_law_sort ["_law_e"] f fd) : FnOk P w K mg base CX0 (k + 1) f fd ["_law_e"] (spSort C "NoMany" "many") := by
  refine D.F.ok sc_law_sort (fun vs H Q E h => by obtain ⟨_, rfl, _⟩ := h; rfl) (fun cdv A outer s H vs Q E hr h => ?_)
  obtain ⟨a, rfl, ha, q⟩ := h
  refine ⟨_, (pss_cons (ps_set (i := 1) sc_law_sort.nd rfl (.inl rfl) (pe_lst (pa_cons (pe_callB (r := rIsG K (C "NoMany")) (call_isG hE.is) (by rfl) T.isinstance boot_isinstance (pa_cons (pv 0) (pa_cons (pe_glob (v := .ref (C "NoYard")) (by rfl) (hC.g "NoYard" (by decide)) rfl) pa_nil))) (pa_cons (pe_callB (r := rIsG K (C "NoMany")) (call_isG hE.is) (by rfl) T.isinstance boot_isinstance (pa_cons (pv 0) (pa_cons (pe_glob (v := .ref (C "NoFrame")) (by rfl) (hC.g "NoFrame" (by decide)) rfl) pa_nil))) (pa_cons (pe_callB (r := rIsG K (C "NoMany")) (call_isG hE.is) (by rfl) T.isinstance boot_isinstance (pa_cons (pv 0) (pa_cons (pe_glob (v := .ref (C "NoMoment")) (by rfl) (hC.g "NoMoment" (by decide)) rfl) pa_nil))) (pa_cons (pe_callB (r := rIsG K (C "NoMany")) (call_isG hE.is) (by rfl) T.isinstance boot_isinstance (pa_cons (pv 0) (pa_cons (pe_glob (v := .ref (C "NoWait")) (by rfl) (hC.g "NoWait" (by decide)) rfl) pa_nil))) pa_nil))))))
      (pss_cons (ps_set (i := 1) sc_law_sort.nd rfl (.inl rfl) (pe_op op_cat (pv 1) (pe_lst (pa_cons (pe_callB (r := rIsG K (C "NoMany")) (call_isG hE.is) (by rfl) T.isinstance boot_isinstance (pa_cons (pv 0) (pa_cons (pe_glob (v := .ref (C "NoMany")) (by rfl) (hC.g "NoMany" (by decide)) rfl) pa_nil))) (pa_cons (pe_callB (r := rIsG K (C "NoMany")) (call_isG hE.is) (by rfl) T.isinstance boot_isinstance (pa_cons (pv 0) (pa_cons (pe_glob (v := .ref (C "NoDoffs")) (by rfl) (hC.g "NoDoffs" (by decide)) rfl) pa_nil))) (pa_cons (pe_callB (r := rIsG K (C "NoMany")) (call_isG hE.is) (by rfl) T.isinstance boot_isinstance (pa_cons (pv 0) (pa_cons (pe_glob (v := .ref (C "NoHand")) (by rfl) (hC.g "NoHand" (by decide)) rfl) pa_nil))) (pa_cons (pe_callB (r := rIsG K (C "NoMany")) (call_isG hE.is) (by rfl) T.isinstance boot_isinstance (pa_cons (pv 0) (pa_cons (pe_glob (v := .ref (C "NoStray")) (by rfl) (hC.g "NoStray" (by decide)) rfl) pa_nil))) pa_nil)))))))
      (pss_cons (ps_set (i := 1) sc_law_sort.nd rfl (.inl rfl) (pe_op op_cat (pv 1) (pe_lst (pa_cons (pe_callB (r := rIsG K (C "NoMany")) (call_isG hE.is) (by rfl) T.isinstance boot_isinstance (pa_cons (pv 0) (pa_cons (pe_glob (v := .ref (C "NoText")) (by rfl) (hC.g "NoText" (by decide)) rfl) pa_nil))) (pa_cons (pe_callB (r := rIsG K (C "NoMany")) (call_isG hE.is) (by rfl) T.isinstance boot_isinstance (pa_cons (pv 0) (pa_cons (pe_glob (v := .ref (C "NoMinds")) (by rfl) (hC.g "NoMinds" (by decide)) rfl) pa_nil))) (pa_cons (pe_callB (r := rIsG K (C "NoMany")) (call_isG hE.is) (by rfl) T.isinstance boot_isinstance (pa_cons (pv 0) (pa_cons (pe_glob (v := .ref (C "NoSpun")) (by rfl) (hC.g "NoSpun" (by decide)) rfl) pa_nil))) (pa_cons (pe_callB (r := rIsG K (C "NoMany")) (call_isG hE.is) (by rfl) T.isinstance boot_isinstance (pa_cons (pv 0) (pa_cons (pe_glob (v := .ref (C "NoThread")) (by rfl) (hC.g "NoThread" (by decide)) rfl) pa_nil))) pa_nil)))))))
      (pss_cons (ps_set (i := 1) sc_law_sort.nd rfl (.inl rfl) (pe_op op_cat (pv 1) (pe_lst (pa_cons (pe_callB (r := rIsG K (C "NoMany")) (call_isG hE.is) (by rfl) T.isinstance boot_isinstance (pa_cons (pv 0) (pa_cons (pe_glob (v := .ref (C "TooMany")) (by rfl) (hC.g "TooMany" (by decide)) rfl) pa_nil))) (pa_cons (pe_callB (r := rIsG K (C "NoMany")) (call_isG hE.is) (by rfl) T.isinstance boot_isinstance (pa_cons (pv 0) (pa_cons (pe_glob (v := .ref (C "NoStrike")) (by rfl) (hC.g "NoStrike" (by decide)) rfl) pa_nil))) (pa_cons (pe_callB (r := rIsG K (C "NoMany")) (call_isG hE.is) (by rfl) T.isinstance boot_isinstance (pa_cons (pv 0) (pa_cons (pe_glob (v := .ref (C "NoPlain")) (by rfl) (hC.g "NoPlain" (by decide)) rfl) pa_nil))) (pa_cons (pe_callB (r := rIsG K (C "NoMany")) (call_isG hE.is) (by rfl) T.isinstance boot_isinstance (pa_cons (pv 0) (pa_cons (pe_glob (v := .ref (C "NoSmall")) (by rfl) (hC.g "NoSmall" (by decide)) rfl) pa_nil))) pa_nil)))))))
      (pss_cons (ps_set (i := 1) sc_law_sort.nd rfl (.inl rfl) (pe_op op_cat (pv 1) (pe_lst (pa_cons (pe_callB (r := rIsG K (C "NoMany")) (call_isG hE.is) (by rfl) T.isinstance boot_isinstance (pa_cons (pv 0) (pa_cons (pe_glob (v := .ref (C "NoStory")) (by rfl) (hC.g "NoStory" (by decide)) rfl) pa_nil))) (pa_cons (pe_callB (r := rIsG K (C "NoMany")) (call_isG hE.is) (by rfl) T.isinstance boot_isinstance (pa_cons (pv 0) (pa_cons (pe_glob (v := .ref (C "NoCalls")) (by rfl) (hC.g "NoCalls" (by decide)) rfl) pa_nil))) (pa_cons (pe_callB (r := rIsG K (C "NoMany")) (call_isG hE.is) (by rfl) T.isinstance boot_isinstance (pa_cons (pv 0) (pa_cons (pe_glob (v := .ref (C "NoRow")) (by rfl) (hC.g "NoRow" (by decide)) rfl) pa_nil))) pa_nil))))))
      (pss_cons (ps_if (PW.pt (pw_or (pt_not (pt_val (pe_callB (r := rIsG K (C "NoMany")) (call_isG hE.is) (by rfl) T.isinstance boot_isinstance (pa_cons (pv 0) (pa_cons (pe_glob (v := .ref (C "DoffError")) (by rfl) (hC.g "DoffError" (by decide)) rfl) pa_nil))))) (pw_or (pt_not (pt_val (pe_callB (r := rIsG K (C "NoMany")) (call_isG hE.is) (by rfl) T.isinstance boot_isinstance (pa_cons (pv 0) (pa_cons (pe_bltn (by rfl) T.ValueError bootVE (v := .ty "ValueError") rfl) pa_nil))))) (pw_or1 (pt_cmpR op_ne (pe_bm PySem.F.plainAttrs_list PySem.F.slot_list_count PySem.F.type_list_count (by exact mt_cntB hr.units) (pv 1) (pa_cons pe_bl pa_nil)) pe_int (nomark _)))))) (pss_one (ps_ret pe_str)) pss_nil)
      (pss_one (ps_ret (pe_ix (r := rIxL K) ix_list (pe_op op_cat (pe_lst (pa_cons pe_str (pa_cons pe_str (pa_cons pe_str (pa_cons pe_str (pa_cons pe_str (pa_cons pe_str pa_nil))))))) (pe_op op_rep (pe_lst (pa_cons pe_str pa_nil)) pe_int)) (pe_bm PySem.F.plainAttrs_list PySem.F.slot_list_index PySem.F.type_list_index (by exact mt_index) (pv 1) (pa_cons pe_bl pa_nil)) (fun _ _ => rfl)))))))))), ?_⟩
  have one : ∀ {σ : L2.St} {H1 : Hp} {te : TE} (n : Str) (hn : n ∈ errs), Ex H H1 → Ev te σ H1 (.ref a) → Ev (tCB (rIsG K (C "NoMany")) (tCons te (tCons (tC (.ref (C n))) tNil))) σ H1 (.bl (n == "NoMany")) := fun n hn e h => ev_isG h (e _ _ ha) (.own _) (hE.kit n hn)
  have e0 : Ex H H := Ex.refl H
  refine q_asgL (el_lst (ea_cons (one "NoYard" (by decide) e0 (ev_var rfl)) (ea_cons (one "NoFrame" (by decide) e0 (ev_var rfl)) (ea_cons (one "NoMoment" (by decide) e0 (ev_var rfl)) (ea_cons (one "NoWait" (by decide) e0 (ev_var rfl)) ea_nil)))) (by show 4 ≤ 100000; decide)) fun l1 H1 _ e1 hl1 => ?_
  refine q_asgL (el_catV (ev_var rfl) hl1 (el_lst (ea_cons (one "NoMany" (by decide) e1 (ev_var rfl)) (ea_cons (one "NoDoffs" (by decide) e1 (ev_var rfl)) (ea_cons (one "NoHand" (by decide) e1 (ev_var rfl)) (ea_cons (one "NoStray" (by decide) e1 (ev_var rfl)) ea_nil)))) (by show 4 ≤ 100000; decide)) (by show 8 ≤ 100000; decide)) fun l2 H2 _ e2' hl2 => ?_
  have e2 := e1.trans e2'
  refine q_asgL (el_catV (ev_var rfl) hl2 (el_lst (ea_cons (one "NoText" (by decide) e2 (ev_var rfl)) (ea_cons (one "NoMinds" (by decide) e2 (ev_var rfl)) (ea_cons (one "NoSpun" (by decide) e2 (ev_var rfl)) (ea_cons (one "NoThread" (by decide) e2 (ev_var rfl)) ea_nil)))) (by show 4 ≤ 100000; decide)) (by show 12 ≤ 100000; decide)) fun l3 H3 _ e3' hl3 => ?_
  have e3 := e2.trans e3'
  refine q_asgL (el_catV (ev_var rfl) hl3 (el_lst (ea_cons (one "TooMany" (by decide) e3 (ev_var rfl)) (ea_cons (one "NoStrike" (by decide) e3 (ev_var rfl)) (ea_cons (one "NoPlain" (by decide) e3 (ev_var rfl)) (ea_cons (one "NoSmall" (by decide) e3 (ev_var rfl)) ea_nil)))) (by show 4 ≤ 100000; decide)) (by show 16 ≤ 100000; decide)) fun l4 H4 _ e4' hl4 => ?_
  have e4 := e3.trans e4'
  refine q_asgL (el_catV (ev_var rfl) hl4 (el_lst (ea_cons (one "NoStory" (by decide) e4 (ev_var rfl)) (ea_cons (one "NoCalls" (by decide) e4 (ev_var rfl)) (ea_cons (one "NoRow" (by decide) e4 (ev_var rfl)) ea_nil))) (by show 3 ≤ 100000; decide)) (by show 19 ≤ 100000; decide)) fun l5 H5 _ e5' hl5 => ?_
  have e5 := e4.trans e5'
  have hl : H5 l5 = some (.lst ((bits "NoMany").map V.bl)) := hl5
  refine q_when (b := false) (et_is (et_or (a := false) (b := false) (et_is (et_not (et_B (ev_isG (ev_var rfl) (e5 _ _ ha) (.own _) hE.de))) rfl) fun _ => et_or (a := false) (b := false) (et_is (et_not (et_B (ev_isG (ev_var rfl) (e5 _ _ ha) (.ty _) hE.ve))) rfl) fun _ => et_test (ev_is (v := .bl (!decide (V.int ((bits "NoMany").count true : Nat) = V.int 1))) (fun H6 e6 Q6 q6 => ?_) ?_)) rfl) (fun h => nomatch h) (fun _ H6 e6 => ?_)
  · exact ⟨.ref l5, rfl, .inl ⟨rfl, _, .inl (.inl (e6 _ _ hl))⟩, l5, _, true, rfl, rfl, sq_of (e6 _ _ hl), rfl, q6 H6 (Ex.refl H6)⟩
  · exact congrArg V.bl (by decide +kernel)
  refine (el_cat2 (el_lst (ea_cons ev_c (ea_cons ev_c (ea_cons ev_c (ea_cons ev_c (ea_cons ev_c (ea_cons ev_c ea_nil)))))) (by show 6 ≤ 100000; decide)) (el_rep (k := 13) (el_lst (ea_cons ev_c ea_nil) (by show 1 ≤ 100000; decide)) (by decide)) (by show 6 + 13 ≤ 100000; decide)) H6 (Ex.refl H6) _ fun m2 H8 _ e8 hm2 => ?_
  have hl8 : H8 l5 = some (.lst ((bits "NoMany").map V.bl)) := e8 _ _ (e6 _ _ hl)
  refine ⟨.ref l5, rfl, .inl ⟨rfl, _, .inl (.inl hl8)⟩, l5, _, .bl true, 4, .bl true, rfl, rfl, sq_of hl8, rfl, by decide +kernel, by decide +kernel, rfl, fun m z hm hz => ?_, m2, _, 4, .str "many", rfl, rfl, sq_of hm2, rfl, q H8 ((e5.trans e6).trans e8)⟩
  rcases m with _ | _ | _ | _ | m
  all_goals first
    | (cases hz; rfl)
    | (exfalso; omega)
end
end K42

set_option Elab.async false
set_option linter.all false
set_option maxRecDepth 100000
set_option maxHeartbeats 4000000
namespace K42
open PySem PySem.Spec PyProof.Rows L2 Evl DL GX YA EX TH TV YT DS LM LamX EM
abbrev s_law_refused : Stmt := topS 54
theorem sc_law_refused : FnScope ["_law_which", "_law_doffs_here", "_law_many", "_law_caught", "_law_e"] ["_law_which", "_law_doffs_here", "_law_many"] (defScope s_law_refused) := ⟨rfl, rfl, rfl, by decide +kernel, rfl, by decide +kernel, by decide +kernel⟩
def spSort2 (C : Str → Addr) : Sp := fun vs H Q E => spSort C "NoDoffs" "doffs" vs H Q E ∨ spSort C "NoMany" "many" vs H Q E
/-- what is told of things that are no doffings, and of counts that are none -/
def spRefused (K : PySem.W.Frag) (Ps : List Addr) : Sp := fun vs H Q _ => ∃ (i : Int) (t u : Th), RpAll K H vs [.int i, t, u] ∧ Tb Ps H ∧ ((isDoffs t = false ∧ ∀ H', Ex H H' → Q (.str "doffs") H') ∨ (i ≠ 0 ∧ (∃ ds, t = doffsT ds ∧ Good ds) ∧ isCount u = false ∧ ∀ H', Ex H H' → Q (.str "many") H'))
section
variable {P : Program} {w : World} {K : PySem.W.Frag} {mg : Str → Option Value} {base : Heap} {C : Str → Addr} {Ps : List Addr} {TL : List (Addr × Pos × Str)}
theorem fn_or {CX : CXT} {k : Nat} {f : Addr} {fd : FuncData} {ps : List Str} {s1 s2 : Sp} (F1 : FnOk P w K mg base CX k f fd ps s1) (F2 : FnOk P w K mg base CX k f fd ps s2) : FnOk P w K mg base CX k f fd ps (fun vs H Q E => s1 vs H Q E ∨ s2 vs H Q E) :=
  ⟨fun vs H Q E h => h.elim (F1.len vs H Q E) (F2.len vs H Q E), fun A outer s H args us vs Q E hr e0 hb hv h => h.elim (F1.run A outer s H args us vs Q E hr e0 hb hv) (F2.run A outer s H args us vs Q E hr e0 hb hv)⟩
theorem ok_refused {f f1 f2 f3 : Addr} {fd fd1 fd2 fd3 : FuncData} {j : Nat} {st2 st3 : Stmt} (hj : 1 ≤ j) (T : Bi mg) (hC : Ec mg C) (hE : E1 K C "NoDoffs") (hM : E1 K C "NoMany") (D : Df K mg "_law_refused" s_law_refused ["_law_which", "_law_doffs_here", "_law_many"] f fd) (D_law_sort : Df K mg "_law_sort" s_law_sort ["_law_e"] f1 fd1)
    (D_least_doffers : Df K mg "least_doffers" st2 ["doffs"] f2 fd2) (G_least_doffers : FnOk P w K mg base (L2.CX P w) j f2 fd2 ["doffs"] (spLeast K Ps TL (C "NoDoffs"))) (D_with_doffers : Df K mg "with_doffers" st3 ["doffs", "many"] f3 fd3) (G_with_doffers : FnOk P w K mg base (L2.CX P w) j f3 fd3 ["doffs", "many"] (spWith K Ps (C "NoDoffs") (C "NoMany"))) :
    FnOk P w K mg base CX0 (j + 1) f fd ["_law_which", "_law_doffs_here", "_law_many"] (spRefused K Ps) := by
  have G_law_sort : FnOk P w K mg base CX0 1 f1 fd1 ["_law_e"] (spSort2 C) := fn_or (ok_sortD T hC hE D_law_sort) (ok_sortM T hC hM D_law_sort)
  refine D.F.ok sc_law_refused (fun vs H Q E h => by obtain ⟨i, t, u, hr, _⟩ := h; rw [ra_len hr]; rfl) (fun cdv A outer s H vs Q E hr h => ?_)
  obtain ⟨i, t, u, hv, hT, hcase⟩ := h
  obtain ⟨v1, v2, v3, rfl, r1, r2, r3⟩ := ra3 hv
  cases rp_int r1
  refine ⟨_, (pss_cons (ps_set (i := 3) sc_law_refused.nd rfl (.inl rfl) pe_non)
      (pss_cons (ps_try_tr (i := 4) rfl rfl sc_law_refused.nd rfl rfl ⟨rfl, by decide, .inl (hC.g "DoffError" (by decide))⟩ (fun W pn xe tk _ => (pss_one (ps_if (pt_cmpR op_eq (pv 0) pe_int (nomark _)) (pss_one (ps_expr (pe_callS G_least_doffers (hr.mono (by omega)) (by rfl) D_least_doffers.g D_least_doffers.F.kp D_least_doffers.b (fun σ => passAt tk σ) (pa_cons (pv 1) pa_nil)))) (pss_one (ps_expr (pe_callS G_with_doffers (hr.mono (by omega)) (by rfl) D_with_doffers.g D_with_doffers.F.kp D_with_doffers.b (fun σ => passAt tk σ) (pa_cons (pv 1) (pa_cons (pv 2) pa_nil)))))))) (fun a cls d pn => (pss_one (ps_set (i := 3) sc_law_refused.nd rfl (.inl rfl) (pv 4)))))
      (pss_one (ps_ret (pe_call G_law_sort (hr.mono (by omega)) (by rfl) D_law_sort.g D_law_sort.F.kp D_law_sort.b .nil pass0 (pa_cons (pv 3) pa_nil)))))), ?_⟩
  refine q_asg (v := .non) ev_c fun H1 e1 => ?_
  rcases hcase with ⟨hno, q⟩ | ⟨hi, ⟨ds, rfl, hg⟩, hu, q⟩
  · refine s_if (et_test (ev_is (ev_op (ev_var rfl) ev_c (rv_eq rfl)) (by rw [dec_i]))) (fun hb H2 e2 => ?_) (fun hb H2 e2 => ?_)
    · refine ⟨v2, rfl, hT.ex (e1.trans e2), .inl ⟨t, .cons (rp_mono (e1.trans e2) r2) .nil, hno, fun H3 e3 => ⟨hE.ex, fun a ha => ?_⟩⟩⟩
      refine s_asg (v := .ref a) (ev_var rfl) fun H4 e4 => ?_
      exact ⟨.ref a, rfl, .inl ⟨a, rfl, e4 _ _ upd_same, fun H5 e5 => q H5 ((e1.trans e2).trans (e3.trans ((Ex.new ha).trans (e4.trans e5))))⟩⟩
    · refine ⟨v2, rfl, v3, rfl, hT.ex (e1.trans e2), .inl ⟨t, u, .cons (rp_mono (e1.trans e2) r2) (.cons (rp_mono (e1.trans e2) r3) .nil), hno, fun H3 e3 => ⟨hE.ex, fun a ha => ?_⟩⟩⟩
      refine s_asg (v := .ref a) (ev_var rfl) fun H4 e4 => ?_
      exact ⟨.ref a, rfl, .inl ⟨a, rfl, e4 _ _ upd_same, fun H5 e5 => q H5 ((e1.trans e2).trans (e3.trans ((Ex.new ha).trans (e4.trans e5))))⟩⟩
  · refine s_if (b := false) (et_test (ev_is (ev_op (ev_var rfl) ev_c (rv_eq rfl)) (by rw [dec_i, decide_eq_false hi]))) (fun hb => nomatch hb) (fun hb H2 e2 => ?_)
    refine ⟨v2, rfl, v3, rfl, hT.ex (e1.trans e2), .inr (.inl ⟨v2, ds, v3, u, rfl, rp_dpD (rp_mono (e1.trans e2) r2), hg, rp_mono (e1.trans e2) r3, hu, fun H3 e3 => ⟨hM.ex, fun a ha => ?_⟩⟩)⟩
    refine s_asg (v := .ref a) (ev_var rfl) fun H4 e4 => ?_
    exact ⟨.ref a, rfl, .inr ⟨a, rfl, e4 _ _ upd_same, fun H5 e5 => q H5 ((e1.trans e2).trans (e3.trans ((Ex.new ha).trans (e4.trans e5))))⟩⟩
end
end K42

set_option Elab.async false
set_option linter.all false
set_option maxRecDepth 100000
set_option maxHeartbeats 4000000
namespace K42
open PySem PySem.Spec PyProof.Rows L2 Evl DL GX YA EX TH TV YT DS LM LamX EM
abbrev s_law_strange : Stmt := topS 52
theorem sc_law_strange : FnScope ["_law_pool_here", "_law_doffs_here", "_law_found", "_law_at", "_law_begin", "_law_end", "_law_frame", "_law_some", "_law_odd", "_law_k"] ["_law_pool_here", "_law_doffs_here"] (defScope s_law_strange) := ⟨rfl, rfl, rfl, by decide +kernel, rfl, by decide +kernel, by decide +kernel⟩
/-! ### what are no doffings -/
theorem bad_put {A B : List Th} {o : Th} (h : isDoffing o = false) : isDoffs (.tup (A ++ o :: B)) = false := by
  unfold isDoffs
  show (isTupleOf (.tup (A ++ o :: B)) 0 30 && ((A ++ o :: B).all isDoffing && _)) = false
  have e : (A ++ o :: B).all isDoffing = false := by
    rw [List.all_append, List.all_cons, h]
    simp
  rw [e]
  simp
theorem lt3 {a b : Dof} : thLt (dofT a) (dofT b) = true ↔ a.1 < b.1 ∨ (a.1 = b.1 ∧ (a.2.1 < b.2.1 ∨ (a.2.1 = b.2.1 ∧ a.2.2 < b.2.2))) := by
  show HT.lexLt [a.1, a.2.1, a.2.2] [b.1, b.2.1, b.2.2] = true ↔ _
  rw [HT.lexLt_cons, HT.lexLt_cons, HT.lexLt_cons]
  by_cases h1 : a.1 = b.1
  · rw [if_pos h1]
    by_cases h2 : a.2.1 = b.2.1
    · rw [if_pos h2]
      by_cases h3 : a.2.2 = b.2.2
      · rw [if_pos h3, HT.lexLt_nil_nil]
        constructor
        · intro h
          cases h
        · intro h
          omega
      · rw [if_neg h3, decide_eq_true_eq]
        constructor
        · intro h
          exact .inr ⟨h1, .inr ⟨h2, h⟩⟩
        · intro h
          omega
    · rw [if_neg h2, decide_eq_true_eq]
      constructor
      · intro h
        exact .inr ⟨h1, .inl h⟩
      · intro h
        omega
  · rw [if_neg h1, decide_eq_true_eq]
    constructor
    · intro h
      exact .inl h
    · intro h
      omega
theorem not_rising {ts : List Th} {i : Nat} {x y : Th} (hx : ts[i]? = some x) (hy : ts[i + 1]? = some y) (h : thLt x y = false) : isDoffs (.tup ts) = false := by
  unfold isDoffs
  show (isTupleOf (.tup ts) 0 30 && (ts.all isDoffing && rising ts)) = false
  have hi : i + 1 < ts.length := (List.getElem?_eq_some_iff.mp hy).1
  have e : rising ts = false := by
    unfold rising
    rw [List.all_eq_false]
    refine ⟨i, List.mem_range.mpr (by omega), ?_⟩
    rw [List.getD_eq_getElem?_getD, List.getD_eq_getElem?_getD, hx, hy]
    show ¬ thLt x y = true
    rw [h]
    decide
  rw [e]
  simp
theorem rise_at {ds : List Dof} (g : Good ds) {i j : Nat} (hij : i < j) (hj : j < ds.length) : thLt (dofT (dAt ds i)) (dofT (dAt ds j)) = true := by
  have step : ∀ i, i + 1 < ds.length → thLt (dofT (dAt ds i)) (dofT (dAt ds (i + 1))) = true := fun i hi => by
    have h := g.ris
    unfold rising at h
    have h1 := List.all_eq_true.mp h i (List.mem_range.mpr (by rw [List.length_map]; omega))
    have e1 : (ds.map dofT).getD i .none = dofT (dAt ds i) := by rw [List.getD_eq_getElem?_getD, List.getElem?_map, at_dAt (by omega)]; rfl
    have e2 : (ds.map dofT).getD (i + 1) .none = dofT (dAt ds (i + 1)) := by rw [List.getD_eq_getElem?_getD, List.getElem?_map, at_dAt hi]; rfl
    rw [e1, e2] at h1
    exact h1
  induction j with
  | zero => omega
  | succ j ih =>
    by_cases e : i = j
    · subst e
      exact step i hj
    · have h1 := lt3.mp (ih (by omega) (by omega))
      have h2 := lt3.mp (step j hj)
      exact lt3.mpr (by omega)
theorem not_lt {a b : Dof} (h : ¬ thLt (dofT a) (dofT b) = true) : thLt (dofT a) (dofT b) = false := by simpa using h
theorem bad_dup {ds : List Dof} {k : Nat} (hk : k < ds.length) : isDoffs (.tup (((ds.map dofT).take k ++ ((ds.map dofT).drop k).take 1) ++ (ds.map dofT).drop k)) = false := by
  have e1 : ((ds.map dofT).drop k).take 1 = [dofT (dAt ds k)] := by
    have hk' : k < (ds.map dofT).length := by rw [List.length_map]; exact hk
    rw [List.drop_eq_getElem_cons hk']
    show [(ds.map dofT)[k]'hk'] = _
    have := at_dAt hk
    rw [List.getElem?_eq_getElem hk] at this
    rw [List.getElem_map, Option.some.inj this]
  have l1 : ((ds.map dofT).take k).length = k := by rw [List.length_take, List.length_map]; omega
  refine not_rising (i := k) (x := dofT (dAt ds k)) (y := dofT (dAt ds k)) ?_ ?_ (not_lt fun h => by have := lt3.mp h; omega)
  · rw [e1, List.getElem?_append_left (by rw [List.length_append, l1]; exact Nat.lt_succ_self _), List.getElem?_append_right (by rw [l1]; exact Nat.le_refl _), l1, Nat.sub_self]
    rfl
  · rw [e1, List.getElem?_append_right (by rw [List.length_append, l1]; exact Nat.le_refl _), List.length_append, l1]
    show ((ds.map dofT).drop k)[k + 1 - (k + 1)]? = _
    rw [Nat.sub_self, List.getElem?_drop, Nat.add_zero, List.getElem?_map, at_dAt hk]
    rfl
theorem bad_again {ds : List Dof} (g : Good ds) (hne : 0 < ds.length) : isDoffs (.tup (ds.map dofT ++ (ds.map dofT).take 1)) = false := by
  have e1 : (ds.map dofT).take 1 = [dofT (dAt ds 0)] := by
    cases ds with
    | nil => simp at hne
    | cons d ds => rfl
  rw [e1]
  refine not_rising (i := ds.length - 1) (x := dofT (dAt ds (ds.length - 1))) (y := dofT (dAt ds 0)) ?_ ?_ (not_lt fun h => ?_)
  · rw [List.getElem?_append_left (by rw [List.length_map]; omega), List.getElem?_map, at_dAt (by omega)]
    rfl
  · rw [List.getElem?_append_right (by rw [List.length_map]; omega), List.length_map]
    have : ds.length - 1 + 1 - ds.length = 0 := by omega
    rw [this]
    rfl
  · have h1 := lt3.mp h
    by_cases e : ds.length - 1 = 0
    · rw [e] at h1
      omega
    · have h2 := lt3.mp (rise_at g (i := 0) (j := ds.length - 1) (by omega) (by omega))
      omega
theorem bad_31 {ts : List Th} (h : ts.length = 31) : isDoffs (.tup ts) = false := by
  unfold isDoffs
  have e : isTupleOf (.tup ts) 0 30 = false := by
    show (true && (decide ((0 : Int) ≤ (ts.length : Int)) && decide ((ts.length : Int) ≤ 30))) = false
    rw [h]
    decide
  rw [e]
  rfl
section
variable {be en fr : Int}
theorem nod4 : isDoffing (.tup [.int (en + 1), .int en, .int fr]) = false := by
  have h : isWithin (.int en) (en + 1) (10 ^ 30 + 9) = false := by
    show (true && (decide (en + 1 ≤ en) && decide (en ≤ 10 ^ 30 + 9))) = false
    rw [decide_eq_false (by omega)]
    rfl
  show (isTupleOf (.tup [.int (en + 1), .int en, .int fr]) 3 3 && (isBeat (.int (en + 1)) && (isWithin (.int en) (en + 1) (10 ^ 30 + 9) && isWithin (.int fr) 0 3))) = false
  rw [h]
  simp
theorem nod3 : isDoffing (.tup [.int be, .int en, .int 4]) = false := by
  have h : isWithin (.int 4) 0 3 = false := by decide +kernel
  show (isTupleOf (.tup [.int be, .int en, .int 4]) 3 3 && (isBeat (.int be) && (isWithin (.int en) be (10 ^ 30 + 9) && isWithin (.int 4) 0 3))) = false
  rw [h]
  simp
theorem nod2 : isDoffing (.tup [.int be, .int en, .none]) = false := by
  show (isTupleOf (.tup [.int be, .int en, .none]) 3 3 && (isBeat (.int be) && (isWithin (.int en) be (10 ^ 30 + 9) && false))) = false
  simp
theorem nod1 : isDoffing (.tup [.int be, .int en]) = false := rfl
theorem nod0 : isDoffing (.odd .dct) = false := rfl
end
/-! ### lists that grow beside the digits -/
theorem way_poolF (p : Addr) (H0 : Hp) : Way (GP p) (fun l => l ≠ p ∧ H0 l = none) :=
  ⟨(way_pool p).refl, (way_pool p).trans, (way_pool p).ex, (way_pool p).exr, (way_pool p).put, fun g n h => g.b _ _ n.1 h⟩
theorem fr_poolF {p : Addr} {H0 H : Hp} (hp : PoolAt H0 p) (g : GP p H0 H) : Fr (GP p) (fun l => l ≠ p ∧ H0 l = none) H := fun H1 l g1 hn => by
  have g01 := (way_pool p).trans g g1
  have h1 : l ≠ p := fun z => by
    obtain ⟨n, h⟩ := g01.p hp
    rw [z, h] at hn
    cases hn
  refine ⟨h1, ?_⟩
  cases e : H0 l with
  | none => rfl
  | some o =>
    rw [g01.b l o h1 e] at hn
    cases hn
section
variable {K : PySem.W.Frag} {G : Hp → Hp → Prop} {Ok : Addr → Prop} (W : Way G Ok) {σ : L2.St} {H : Hp} {te ta : TE} {tr : TA}
include W
theorem x_nil : EvPA G K tNil σ H (fun ts => ts = []) := pa_nilP W rfl
theorem x_cons {a : Th} {as : List Th} (h : EvP G K te σ H fun t => t = a) (hr : EvPA G K tr σ H fun ts => ts = as) : EvPA G K (tCons te tr) σ H (fun ts => ts = a :: as) := pa_consP W h hr fun t ts h1 h2 => by rw [h1, h2]
theorem x_tup {as : List Th} (h : EvPA G K tr σ H fun ts => ts = as) (hl : as.length ≤ 100000) : EvP G K (tTup tr) σ H (fun t => t = .tup as) := p_tup W h (fun ts e => by rw [e]; exact hl) fun ts e => by rw [e]
theorem x_lst {as : List Th} (h : EvPA G K tr σ H fun ts => ts = as) (hl : as.length ≤ 100000) : EvP G K (tLst tr) σ H (fun t => t = .odd .lst) := p_lst W h (fun ts e => by rw [e]; exact hl) rfl
theorem x_neg {i : Int} : EvP G K (tUn (rU fun i => .int (-i)) (tC (.int i))) σ H (fun t => t = .int (-i)) := fun H1 g Q q => ⟨i, rfl, q _ _ H1 (W.refl H1) (.int _) rfl⟩
theorem x_add {i j : Int} (ha : EvP G K ta σ H fun t => t = .int i) (hb : EvP G K te σ H fun t => t = .int j) : EvP G K (tOp (rI0 fun i j => .int (i + j)) ta te) σ H (fun t => t = .int (i + j)) := p_op W ha hb fun x y hx hy => by rw [hx, hy]; exact rp_I0 rfl
theorem pl_varP {Ps : List Th → Prop} {i : Nat} {l : Addr} {xs : List V} {ts : List Th} (hs : σ[i]? = some (some (.ref l))) (ol : Ok l) (hl : H l = some (.lst xs)) (hx : RpAll K H xs ts) (hp : Ps ts) : EvPL G Ok K (tVar i) σ H Ps := fun H1 g Q q => ⟨.ref l, hs, q l xs ts H1 (W.refl H1) ol (W.kp g ol hl) (ra_r (W.exr g) hx) hp⟩
end
/-- a list of things of which Pb holds, younger than H0 -/
def FA (K : PySem.W.Frag) (Pb : Th → Prop) (H0 : Hp) (p : Addr) (n : Nat) (H : Hp) (l : Addr) : Prop := (l ≠ p ∧ H0 l = none) ∧ ∃ xs ts, H l = some (.lst xs) ∧ RpAll K H xs ts ∧ ts.length ≤ n ∧ ∀ t ∈ ts, Pb t
theorem fa_go {K : PySem.W.Frag} {Pb : Th → Prop} {H0 H H' : Hp} {p l : Addr} {n : Nat} (F : FA K Pb H0 p n H l) (g : GP p H H') : FA K Pb H0 p n H' l := by
  obtain ⟨ok, xs, ts, h1, h2, h3, h4⟩ := F
  exact ⟨ok, xs, ts, g.b _ _ ok.1 h1, ra_r g.r h2, h3, h4⟩
/-- one more -/
theorem fa_add {K : PySem.W.Frag} {Pb : Th → Prop} {H0 H : Hp} {p l : Addr} {n : Nat} {v : V} {t : Th} {xs : List V} (F : FA K Pb H0 p n H l) (hl : H l = some (.lst xs)) (hv : Rp K H v t) (ht : Pb t) : FA K Pb H0 p (n + 1) (upd H l (.lst (xs ++ [v]))) l := by
  obtain ⟨ok, ys, ts, h1, h2, h3, h4⟩ := F
  rw [hl] at h1
  cases h1
  refine ⟨ok, _, ts ++ [t], upd_same, ra_r (exr_upd hl) (ra_app h2 (.cons hv .nil)), by rw [List.length_append]; show ts.length + 1 ≤ n + 1; omega, fun u hu => ?_⟩
  rcases List.mem_append.mp hu with z | z
  · exact h4 u z
  · rw [List.mem_singleton.mp z]
    exact ht
theorem fa_other {K : PySem.W.Frag} {Pb : Th → Prop} {H0 H : Hp} {p l m : Addr} {n : Nat} {xs ys : List V} (F : FA K Pb H0 p n H m) (hl : H l = some (.lst xs)) (hne : m ≠ l) : FA K Pb H0 p n (upd H l (.lst ys)) m := by
  obtain ⟨ok, zs, ts, h1, h2, h3, h4⟩ := F
  exact ⟨ok, zs, ts, by rw [upd_ne hne]; exact h1, ra_r (exr_upd hl) h2, h3, h4⟩
section
variable {P : Program} {w : World} {K : PySem.W.Frag} {mg : Str → Option Value} {base : Heap} {D : Ends} {tz : TS} {σ : L2.St} {te : TE} {H0 H : Hp} {p l : Addr} {Pb : Th → Prop} {n jl : Nat}
/-- l.append(e) -/
theorem s_app (hp : PoolAt H0 p) (g : GP p H0 H) (F : FA K Pb H0 p n H l) (hn : n ≤ 1000) (hσ : σ[jl]? = some (some (.ref l))) (he : EvP (GP p) K te σ H Pb)
    (k : ∀ H1 xs v, GP p H H1 → H1 l = some (.lst xs) → GP p H0 (upd H1 l (.lst (xs ++ [v]))) → FA K Pb H0 p (n + 1) (upd H1 l (.lst (xs ++ [v]))) l → D.nx σ (upd H1 l (.lst (xs ++ [v])))) :
    tDrop (tBM K "list" rAppend (tVar jl) (tCons te tNil)) D σ H := by
  obtain ⟨xs, ts, h1, h2, h3, h4⟩ := F.2
  refine ⟨.ref l, hσ, .inl ⟨rfl, _, sq_of h1⟩, he H ((way_pool p).refl H) _ fun v t H1 g1 hv ht => ?_⟩
  have h1' := g1.b _ _ F.1.1 h1
  have g01 := (way_pool p).trans g g1
  refine ⟨l, xs, v, rfl, rfl, h1', sz_lt (by rw [ra_len h2]; omega), k H1 xs v g1 h1' ((way_pool p).put g01 F.1.2 h1') (fa_add (fa_go F g1) h1' hv ht)⟩
theorem q_app (hp : PoolAt H0 p) (g : GP p H0 H) (F : FA K Pb H0 p n H l) (hn : n ≤ 1000) (hσ : σ[jl]? = some (some (.ref l))) (he : EvP (GP p) K te σ H Pb)
    (k : ∀ H1 xs v, GP p H H1 → H1 l = some (.lst xs) → GP p H0 (upd H1 l (.lst (xs ++ [v]))) → FA K Pb H0 p (n + 1) (upd H1 l (.lst (xs ++ [v]))) l → tz D σ (upd H1 l (.lst (xs ++ [v])))) :
    tSeq (tDrop (tBM K "list" rAppend (tVar jl) (tCons te tNil))) tz D σ H := s_app (D := { D with nx := tz D }) hp g F hn hσ he k
theorem cut_to {ts : List Th} {k : Nat} (h : k ≤ ts.length) : (ts.drop (HT.sIx ts.length 0 none)).take (HT.sIx ts.length ts.length (some (k : Int)) - HT.sIx ts.length 0 none) = ts.take k := by
  rw [HT.sIx_nat, HT.sIx_none, Nat.min_eq_left h, List.drop_zero, Nat.sub_zero]
theorem cut_from {ts : List Th} {k : Nat} (h : k ≤ ts.length) : (ts.drop (HT.sIx ts.length 0 (some (k : Int)))).take (HT.sIx ts.length ts.length none - HT.sIx ts.length 0 (some (k : Int))) = ts.drop k := by
  rw [HT.sIx_nat, HT.sIx_none, Nat.min_eq_left h, List.take_of_length_le (by rw [List.length_drop]; exact Nat.le_refl _)]
theorem cut_one {ts : List Th} {k : Nat} (h : k < ts.length) : (ts.drop (HT.sIx ts.length 0 (some (k : Int)))).take (HT.sIx ts.length ts.length (some ((k + 1 : Nat) : Int)) - HT.sIx ts.length 0 (some (k : Int))) = (ts.drop k).take 1 := by
  rw [HT.sIx_nat, HT.sIx_nat, Nat.min_eq_left (by omega), Nat.min_eq_left (by omega), Nat.add_sub_cancel_left]
end
end K42

set_option Elab.async false
set_option linter.all false
set_option maxRecDepth 100000
set_option maxHeartbeats 8000000
namespace K42
open PySem PySem.Spec PyProof.Rows L2 Evl DL GX YA EX TH TV YT DS LM LamX EM
abbrev bad : Th → Prop := fun t => isDoffs t = false
abbrev nodof : Th → Prop := fun t => isDoffing t = false
def spStrange (K : PySem.W.Frag) : Sp := fun vs H Q _ => ∃ (p : Addr) (vd : V) (ds : List Dof), vs = [.ref p, vd] ∧ PoolAt H p ∧ Dp K H vd (doffsD ds) ∧ Good ds ∧ ∀ l xs ts H', GP p H H' → l ≠ p → H l = none → H' l = some (.lst xs) → RpAll K H' xs ts → ts.length ≤ 100 → (∀ t ∈ ts, bad t) → Q (.ref l) H'
section
variable {P : Program} {w : World} {K : PySem.W.Frag} {mg : Str → Option Value} {base : Heap}
theorem ok_strange {f f1 : Addr} {fd fd1 : FuncData} {k : Nat} (T : Bi mg) (D : Df K mg "_law_strange" s_law_strange ["_law_pool_here", "_law_doffs_here"] f fd) (D_law_take : Df K mg "_law_take" s_law_take ["_law_pool_here", "_law_many"] f1 fd1) : FnOk P w K mg base CX0 (k + 2) f fd ["_law_pool_here", "_law_doffs_here"] (spStrange K) := by
  have G_law_take : FnOk P w K mg base CX0 1 f1 fd1 ["_law_pool_here", "_law_many"] spTake := ok_take T D_law_take
  refine D.F.ok sc_law_strange (fun vs H Q E h => by obtain ⟨_, _, _, rfl, _⟩ := h; rfl) (fun cdv A outer s H vs Q E hr h => ?_)
  obtain ⟨p, vd, ds, rfl, hp, hd, hg, q⟩ := h
  have W := way_poolF p H
  have big : ∀ {σ : L2.St} {H' : Hp}, EvP (GP p) K (tOp (rI (fun i j => CPow i j) fun i j => .int (i ^ j.toNat)) (tC (.int 10)) (tC (.int 30))) σ H' (fun t => t = .int (10 ^ 30)) := p_op W (P := fun x => x = .int 10) (P' := fun y => y = .int 30) (p_ci W rfl) (p_ci W rfl) (fun x y hx hy => by rw [hx, hy]; exact rp_I ⟨by decide, by decide, by decide⟩ rfl)
  have rd0 : Rp K H vd (doffsT ds) := dp_rpD hd
  refine ⟨_, (pss_cons (ps_set (i := 2) sc_law_strange.nd rfl (.inl rfl) (pe_lst (pa_cons pe_non (pa_cons pe_int (pa_cons pe_bl (pa_cons pe_str (pa_cons (pe_lst pa_nil) (pa_cons pe_dnewK (pa_cons (pe_callTy call_list_of (by rfl) T.list boot_list (pa_cons (pv 1) pa_nil)) (pa_cons (pe_tup (pa_cons pe_non pa_nil)) (pa_cons (pe_tup (pa_cons (pe_tup pa_nil) pa_nil)) (pa_cons (pe_tup (pa_cons (pe_lst pa_nil) pa_nil)) (pa_cons (pe_tup (pa_cons pe_dnewK pa_nil)) (pa_cons (pe_tup (pa_cons (pe_tup (pa_cons pe_int (pa_cons pe_int pa_nil))) pa_nil)) (pa_cons (pe_tup (pa_cons (pe_tup (pa_cons pe_int (pa_cons pe_int (pa_cons pe_int (pa_cons pe_int pa_nil))))) pa_nil)) pa_nil)))))))))))))))
      (pss_cons (ps_expr (pe_bm PySem.F.plainAttrs_list PySem.F.slot_list_append PySem.F.type_list_append mt_append (pv 2) (pa_cons (pe_tup (pa_cons (pv 1) (pa_cons pe_int pa_nil))) pa_nil)))
      (pss_cons (ps_set (i := 2) sc_law_strange.nd rfl (.inl rfl) (pe_op op_cat (pv 2) (pe_lst (pa_cons (pe_tup (pa_cons (pe_tup (pa_cons pe_int (pa_cons pe_int (pa_cons pe_int pa_nil)))) pa_nil)) (pa_cons (pe_tup (pa_cons (pe_tup (pa_cons pe_int (pa_cons pe_int (pa_cons pe_int pa_nil)))) pa_nil)) (pa_cons (pe_tup (pa_cons (pe_tup (pa_cons pe_int (pa_cons pe_int (pa_cons pe_int pa_nil)))) pa_nil)) (pa_cons (pe_tup (pa_cons (pe_tup (pa_cons pe_int (pa_cons pe_int (pa_cons (pe_un un_neg pe_int) pa_nil)))) pa_nil)) (pa_cons (pe_tup (pa_cons (pe_tup (pa_cons pe_int (pa_cons (pe_op op_add (pe_op op_pow pe_int pe_int) pe_int) (pa_cons pe_int pa_nil)))) pa_nil)) (pa_cons (pe_tup (pa_cons (pe_tup (pa_cons (pe_un un_neg pe_int) (pa_cons pe_int (pa_cons pe_int pa_nil)))) pa_nil)) pa_nil)))))))))
      (pss_cons (ps_set (i := 2) sc_law_strange.nd rfl (.inl rfl) (pe_op op_cat (pv 2) (pe_lst (pa_cons (pe_tup (pa_cons (pe_tup (pa_cons (pe_op op_add (pe_op op_pow pe_int pe_int) pe_int) (pa_cons (pe_op op_add (pe_op op_pow pe_int pe_int) pe_int) (pa_cons pe_int pa_nil)))) pa_nil)) (pa_cons (pe_tup (pa_cons (pe_tup (pa_cons pe_bl (pa_cons pe_int (pa_cons pe_int pa_nil)))) pa_nil)) (pa_cons (pe_tup (pa_cons (pe_tup (pa_cons pe_int (pa_cons pe_bl (pa_cons pe_int pa_nil)))) pa_nil)) (pa_cons (pe_tup (pa_cons (pe_tup (pa_cons pe_int (pa_cons pe_int (pa_cons pe_bl pa_nil)))) pa_nil)) pa_nil)))))))
      (pss_cons (ps_expr (pe_bm PySem.F.plainAttrs_list PySem.F.slot_list_append PySem.F.type_list_append mt_append (pv 2) (pa_cons (pe_tup (pa_cons (pe_lst (pa_cons pe_int (pa_cons pe_int (pa_cons pe_int pa_nil)))) pa_nil)) pa_nil)))
      (pss_cons (ps_set (i := 2) sc_law_strange.nd rfl (.inl rfl) (pe_op op_cat (pv 2) (pe_lst (pa_cons (pe_tup (pa_cons (pe_tup (pa_cons pe_int (pa_cons pe_int (pa_cons (pe_lst (pa_cons pe_int pa_nil)) pa_nil)))) pa_nil)) (pa_cons (pe_tup (pa_cons (pe_tup (pa_cons pe_int (pa_cons pe_non (pa_cons pe_int pa_nil)))) pa_nil)) (pa_cons (pe_tup (pa_cons (pe_tup (pa_cons pe_str (pa_cons pe_int (pa_cons pe_int pa_nil)))) pa_nil)) (pa_cons (pe_tup (pa_cons (pe_tup (pa_cons pe_int (pa_cons pe_int (pa_cons pe_int pa_nil)))) (pa_cons (pe_tup (pa_cons pe_int (pa_cons pe_int (pa_cons pe_int pa_nil)))) pa_nil))) (pa_cons (pe_tup (pa_cons (pe_tup (pa_cons pe_int (pa_cons pe_int (pa_cons pe_int pa_nil)))) (pa_cons (pe_tup (pa_cons pe_int (pa_cons pe_int (pa_cons pe_int pa_nil)))) pa_nil))) pa_nil))))))))
      (pss_cons (ps_set (i := 2) sc_law_strange.nd rfl (.inl rfl) (pe_op op_cat (pv 2) (pe_lst (pa_cons (pe_tup (pa_cons (pe_tup (pa_cons pe_int (pa_cons pe_int (pa_cons pe_int pa_nil)))) (pa_cons (pe_tup (pa_cons pe_int (pa_cons pe_int (pa_cons pe_int pa_nil)))) pa_nil))) (pa_cons (pe_callTy (r := rTupOf K) call_tuple_of (by rfl) T.tuple boot_tuple (pa_cons (pe_lc (own := [("_law_k", 9)]) (g := (gName 9)) rfl sc_law_strange.nd (pi_range1 rfl T.range (pa_cons pe_int pa_nil)) (blkOk_by (N := ["_law_pool_here", "_law_doffs_here", "_law_found", "_law_at", "_law_begin", "_law_end", "_law_frame", "_law_some", "_law_odd", "_law_k"]) (sc := defScope s_law_strange) (by decide +kernel)) (fun _ _ _ _ _ => (pg_name (i := 9) sc_law_strange.nd rfl (.inl rfl))) (fun _ _ _ _ _ => pts_nil) (fun _ _ _ _ _ => (pe_tup (pa_cons (pe_op op_add (pv 9) pe_int) (pa_cons (pe_op op_add (pv 9) pe_int) (pa_cons pe_int pa_nil)))))) pa_nil)) pa_nil)))))
      (pss_cons (ps_if (pt_cmpR (r := rNeD K) (op_neD hr.units) (pv 1) (pe_tup pa_nil) (nomark _)) (pss_cons (ps_set (i := 3) sc_law_strange.nd rfl (.inl rfl) (pe_call G_law_take (hr.mono (by omega)) (by rfl) D_law_take.g D_law_take.F.kp D_law_take.b .nil pass0 (pa_cons (pv 0) (pa_cons (pe_callB (r := rLenS K) call_len_seq (by rfl) T.len PySem.boot_len (pa_cons (pv 1) pa_nil)) pa_nil))))
      (pss_cons (ps_asg (pe_ix (r := rIxT K) ix_tup (pv 1) (pv 3) (fun _ _ => rfl)) (pg_tup rfl (pgs_cons (pg_name (i := 4) sc_law_strange.nd rfl (.inl rfl)) (pgs_cons (pg_name (i := 5) sc_law_strange.nd rfl (.inl rfl)) (pgs_cons (pg_name (i := 6) sc_law_strange.nd rfl (.inl rfl)) pgs_nil)))))
      (pss_cons (ps_set (i := 7) sc_law_strange.nd rfl (.inl rfl) (pe_lst (pa_cons (pe_tup (pa_cons (pe_op op_add (pv 5) pe_int) (pa_cons (pv 5) (pa_cons (pv 6) pa_nil)))) (pa_cons (pe_tup (pa_cons (pv 4) (pa_cons (pv 5) (pa_cons pe_int pa_nil)))) (pa_cons (pe_tup (pa_cons (pv 4) (pa_cons (pv 5) (pa_cons pe_non pa_nil)))) (pa_cons (pe_tup (pa_cons (pv 4) (pa_cons (pv 5) pa_nil))) (pa_cons pe_dnewK pa_nil)))))))
      (pss_cons (ps_expr (pe_bm PySem.F.plainAttrs_list PySem.F.slot_list_append PySem.F.type_list_append mt_append (pv 7) (pa_cons (pe_lst (pa_cons (pv 4) (pa_cons (pv 5) (pa_cons (pv 6) pa_nil)))) pa_nil)))
      (pss_cons (ps_for PassesOwn.never rfl (pi_list (pv 7)) (pg_name (i := 8) sc_law_strange.nd rfl (.inl rfl)) (pss_one (ps_expr (pe_bm PySem.F.plainAttrs_list PySem.F.slot_list_append PySem.F.type_list_append mt_append (pv 2) (pa_cons (pe_op op_catA (pe_op op_catA (pe_slice sl_tupA (pv 1) po_none (po_some (pv 3))) (pe_tup (pa_cons (pv 8) pa_nil))) (pe_slice sl_tupA (pv 1) (po_some (pe_op op_add (pv 3) pe_int)) po_none)) pa_nil)))))
      (pss_cons (ps_expr (pe_bm PySem.F.plainAttrs_list PySem.F.slot_list_append PySem.F.type_list_append mt_append (pv 2) (pa_cons (pe_op op_catA (pe_op op_catA (pe_slice sl_tupA (pv 1) po_none (po_some (pv 3))) (pe_slice sl_tupA (pv 1) (po_some (pv 3)) (po_some (pe_op op_add (pv 3) pe_int)))) (pe_slice sl_tupA (pv 1) (po_some (pv 3)) po_none)) pa_nil)))
      (pss_one (ps_expr (pe_bm PySem.F.plainAttrs_list PySem.F.slot_list_append PySem.F.type_list_append mt_append (pv 2) (pa_cons (pe_op op_catA (pv 1) (pe_slice sl_tupA (pv 1) po_none (po_some pe_int))) pa_nil)))))))))) pss_nil)
      (pss_one (ps_ret (pv 2))))))))))), ?_⟩
  refine q_asgPL (K := K) W (pl_lst W (Ps := fun ts => ts.length = 13 ∧ ∀ t ∈ ts, bad t) (fr_poolF hp (W.refl H)) (addP W 12 (p_imp W (P := fun t => t = .none) (p_cn W rfl) (fun t ht => by rw [ht]; decide +kernel))
      (addP W 11 (p_imp W (P := fun t => t = .int 7) (p_ci W rfl) (fun t ht => by rw [ht]; decide +kernel))
      (addP W 10 (p_imp W (P := fun t => t = .bool true) (p_cb W rfl) (fun t ht => by rw [ht]; decide +kernel))
      (addP W 9 (p_imp W (P := fun t => t = .str "") (p_cs W rfl) (fun t ht => by rw [ht]; decide +kernel))
      (addP W 8 (p_imp W (P := fun t => t = .odd .lst) (x_lst W (x_nil W) (by show 0 ≤ 100000; decide)) (fun t ht => by rw [ht]; decide +kernel))
      (addP W 7 (p_imp W (P := fun t => t = .odd .dct) (p_dict W rfl) (fun t ht => by rw [ht]; decide +kernel))
      (addP W 6 (p_lstT W (p_var W rfl rd0 ⟨_, rfl⟩) rfl)
      (addP W 5 (p_imp W (P := fun t => t = .tup [.none]) (x_tup W (x_cons W (p_cn W rfl) (x_nil W)) (by show 1 ≤ 100000; decide)) (fun t ht => by rw [ht]; decide +kernel))
      (addP W 4 (p_imp W (P := fun t => t = .tup [.tup []]) (x_tup W (x_cons W (x_tup W (x_nil W) (by show 0 ≤ 100000; decide)) (x_nil W)) (by show 1 ≤ 100000; decide)) (fun t ht => by rw [ht]; decide +kernel))
      (addP W 3 (p_imp W (P := fun t => t = .tup [.odd .lst]) (x_tup W (x_cons W (x_lst W (x_nil W) (by show 0 ≤ 100000; decide)) (x_nil W)) (by show 1 ≤ 100000; decide)) (fun t ht => by rw [ht]; decide +kernel))
      (addP W 2 (p_imp W (P := fun t => t = .tup [.odd .dct]) (x_tup W (x_cons W (p_dict W rfl) (x_nil W)) (by show 1 ≤ 100000; decide)) (fun t ht => by rw [ht]; decide +kernel))
      (addP W 1 (p_imp W (P := fun t => t = .tup [.tup [.int 1, .int 2]]) (x_tup W (x_cons W (x_tup W (x_cons W (p_ci W rfl) (x_cons W (p_ci W rfl) (x_nil W))) (by show 2 ≤ 100000; decide)) (x_nil W)) (by show 1 ≤ 100000; decide)) (fun t ht => by rw [ht]; decide +kernel))
      (addP W 0 (p_imp W (P := fun t => t = .tup [.tup [.int 1, .int 2, .int 0, .int 0]]) (x_tup W (x_cons W (x_tup W (x_cons W (p_ci W rfl) (x_cons W (p_ci W rfl) (x_cons W (p_ci W rfl) (x_cons W (p_ci W rfl) (x_nil W))))) (by show 4 ≤ 100000; decide)) (x_nil W)) (by show 1 ≤ 100000; decide)) (fun t ht => by rw [ht]; decide +kernel))
      (nilP W)))))))))))))) (fun ts h => by rw [h.1]; decide)) fun l1 xs1 ts1 H1 g1 ok1 hl1 hx1 hp1 => ?_
  have F1 : FA K bad H p 13 H1 l1 := ⟨ok1, xs1, ts1, hl1, hx1, by rw [hp1.1]; exact Nat.le_refl _, hp1.2⟩
  have rd1 := rp_r g1.r rd0
  refine q_app hp g1 F1 (by decide) rfl (p_imp W (P := fun t => t = .tup [doffsT ds, .int 1]) (x_tup W (x_cons W (p_var W rfl rd1 rfl) (x_cons W (p_ci W rfl) (x_nil W))) (by show 2 ≤ 100000; decide)) (fun t ht => by rw [ht]; exact bad_put (A := [doffsT ds]) (B := []) rfl)) fun H2 ys2 v2 g2 hy2 gg2 F2 => ?_
  generalize upd H2 l1 (.lst (ys2 ++ [v2])) = H2' at gg2 F2 ⊢
  obtain ⟨ok2, xs2, ts2, hl2, hx2, hn2, hb2⟩ := F2
  have cat : ∀ {a b : Nat} {ts us : List Th}, (ts.length ≤ a ∧ ∀ t ∈ ts, bad t) → (us.length = b ∧ ∀ t ∈ us, bad t) → (ts ++ us).length ≤ a + b ∧ ∀ t ∈ ts ++ us, bad t := fun {a b ts us} h1 h2 => ⟨by rw [List.length_append]; omega, fun t ht => (List.mem_append.mp ht).elim (h1.2 t) (h2.2 t)⟩
  refine q_asgPL (K := K) W (pl_cat W (Ps := fun ts => ts.length ≤ 14 ∧ ∀ t ∈ ts, bad t) (Ps' := fun ts => ts.length = 6 ∧ ∀ t ∈ ts, bad t) (Pt := fun ts => ts.length ≤ 20 ∧ ∀ t ∈ ts, bad t) (fr_poolF hp gg2) (pl_varP W rfl ok2 hl2 hx2 ⟨hn2, hb2⟩) (pl_lst W (fr_poolF hp gg2) (addP W 5 (p_imp W (P := fun t => t = .tup [.tup [.int 0, .int 1, .int 0]]) (x_tup W (x_cons W (x_tup W (x_cons W (p_ci W rfl) (x_cons W (p_ci W rfl) (x_cons W (p_ci W rfl) (x_nil W)))) (by show 3 ≤ 100000; decide)) (x_nil W)) (by show 1 ≤ 100000; decide)) (fun t ht => by rw [ht]; decide +kernel))
      (addP W 4 (p_imp W (P := fun t => t = .tup [.tup [.int 2, .int 1, .int 0]]) (x_tup W (x_cons W (x_tup W (x_cons W (p_ci W rfl) (x_cons W (p_ci W rfl) (x_cons W (p_ci W rfl) (x_nil W)))) (by show 3 ≤ 100000; decide)) (x_nil W)) (by show 1 ≤ 100000; decide)) (fun t ht => by rw [ht]; decide +kernel))
      (addP W 3 (p_imp W (P := fun t => t = .tup [.tup [.int 1, .int 1, .int 4]]) (x_tup W (x_cons W (x_tup W (x_cons W (p_ci W rfl) (x_cons W (p_ci W rfl) (x_cons W (p_ci W rfl) (x_nil W)))) (by show 3 ≤ 100000; decide)) (x_nil W)) (by show 1 ≤ 100000; decide)) (fun t ht => by rw [ht]; decide +kernel))
      (addP W 2 (p_imp W (P := fun t => t = .tup [.tup [.int 1, .int 1, .int (-1)]]) (x_tup W (x_cons W (x_tup W (x_cons W (p_ci W rfl) (x_cons W (p_ci W rfl) (x_cons W (x_neg W) (x_nil W)))) (by show 3 ≤ 100000; decide)) (x_nil W)) (by show 1 ≤ 100000; decide)) (fun t ht => by rw [ht]; decide +kernel))
      (addP W 1 (p_imp W (P := fun t => t = .tup [.tup [.int 1, .int (10 ^ 30 + 10), .int 0]]) (x_tup W (x_cons W (x_tup W (x_cons W (p_ci W rfl) (x_cons W (x_add W big (p_ci W rfl)) (x_cons W (p_ci W rfl) (x_nil W)))) (by show 3 ≤ 100000; decide)) (x_nil W)) (by show 1 ≤ 100000; decide)) (fun t ht => by rw [ht]; decide +kernel))
      (addP W 0 (p_imp W (P := fun t => t = .tup [.tup [.int (-1), .int 1, .int 0]]) (x_tup W (x_cons W (x_tup W (x_cons W (x_neg W) (x_cons W (p_ci W rfl) (x_cons W (p_ci W rfl) (x_nil W)))) (by show 3 ≤ 100000; decide)) (x_nil W)) (by show 1 ≤ 100000; decide)) (fun t ht => by rw [ht]; decide +kernel))
      (nilP W))))))) (fun ts h => by rw [h.1]; decide)) (fun ts us h1 h2 => by have := h1.1; have := h2.1; omega) (fun ts us h1 h2 => cat h1 h2)) fun l3 xs3 ts3 H3 g3 ok3 hl3 hx3 hp3 => ?_
  have gg3 := W.trans gg2 g3
  refine q_asgPL (K := K) W (pl_cat W (Ps := fun ts => ts.length ≤ 20 ∧ ∀ t ∈ ts, bad t) (Ps' := fun ts => ts.length = 4 ∧ ∀ t ∈ ts, bad t) (Pt := fun ts => ts.length ≤ 24 ∧ ∀ t ∈ ts, bad t) (fr_poolF hp gg3) (pl_varP W rfl ok3 hl3 hx3 hp3) (pl_lst W (fr_poolF hp gg3) (addP W 3 (p_imp W (P := fun t => t = .tup [.tup [.int (10 ^ 30 + 1), .int (10 ^ 30 + 1), .int 0]]) (x_tup W (x_cons W (x_tup W (x_cons W (x_add W big (p_ci W rfl)) (x_cons W (x_add W big (p_ci W rfl)) (x_cons W (p_ci W rfl) (x_nil W)))) (by show 3 ≤ 100000; decide)) (x_nil W)) (by show 1 ≤ 100000; decide)) (fun t ht => by rw [ht]; decide +kernel))
      (addP W 2 (p_imp W (P := fun t => t = .tup [.tup [.bool true, .int 1, .int 0]]) (x_tup W (x_cons W (x_tup W (x_cons W (p_cb W rfl) (x_cons W (p_ci W rfl) (x_cons W (p_ci W rfl) (x_nil W)))) (by show 3 ≤ 100000; decide)) (x_nil W)) (by show 1 ≤ 100000; decide)) (fun t ht => by rw [ht]; decide +kernel))
      (addP W 1 (p_imp W (P := fun t => t = .tup [.tup [.int 1, .bool true, .int 0]]) (x_tup W (x_cons W (x_tup W (x_cons W (p_ci W rfl) (x_cons W (p_cb W rfl) (x_cons W (p_ci W rfl) (x_nil W)))) (by show 3 ≤ 100000; decide)) (x_nil W)) (by show 1 ≤ 100000; decide)) (fun t ht => by rw [ht]; decide +kernel))
      (addP W 0 (p_imp W (P := fun t => t = .tup [.tup [.int 1, .int 1, .bool false]]) (x_tup W (x_cons W (x_tup W (x_cons W (p_ci W rfl) (x_cons W (p_ci W rfl) (x_cons W (p_cb W rfl) (x_nil W)))) (by show 3 ≤ 100000; decide)) (x_nil W)) (by show 1 ≤ 100000; decide)) (fun t ht => by rw [ht]; decide +kernel))
      (nilP W))))) (fun ts h => by rw [h.1]; decide)) (fun ts us h1 h2 => by have := h1.1; have := h2.1; omega) (fun ts us h1 h2 => cat h1 h2)) fun l4 xs4 ts4 H4 g4 ok4 hl4 hx4 hp4 => ?_
  have gg4 := W.trans gg3 g4
  have F4 : FA K bad H p 24 H4 l4 := ⟨ok4, xs4, ts4, hl4, hx4, hp4.1, hp4.2⟩
  refine q_app hp gg4 F4 (by decide) rfl (p_imp W (P := fun t => t = .tup [.odd .lst]) (x_tup W (x_cons W (x_lst W (x_cons W (p_ci W rfl) (x_cons W (p_ci W rfl) (x_cons W (p_ci W rfl) (x_nil W)))) (by show 3 ≤ 100000; decide)) (x_nil W)) (by show 1 ≤ 100000; decide)) (fun t ht => by rw [ht]; decide +kernel)) fun H5 ys5 v5 g5 hy5 gg5 F5 => ?_
  generalize upd H5 l4 (.lst (ys5 ++ [v5])) = H5' at gg5 F5 ⊢
  obtain ⟨ok5, xs5, ts5, hl5, hx5, hn5, hb5⟩ := F5
  refine q_asgPL (K := K) W (pl_cat W (Ps := fun ts => ts.length ≤ 25 ∧ ∀ t ∈ ts, bad t) (Ps' := fun ts => ts.length = 5 ∧ ∀ t ∈ ts, bad t) (Pt := fun ts => ts.length ≤ 30 ∧ ∀ t ∈ ts, bad t) (fr_poolF hp gg5) (pl_varP W rfl ok5 hl5 hx5 ⟨hn5, hb5⟩) (pl_lst W (fr_poolF hp gg5) (addP W 4 (p_imp W (P := fun t => t = .tup [.tup [.int 1, .int 1, .odd .lst]]) (x_tup W (x_cons W (x_tup W (x_cons W (p_ci W rfl) (x_cons W (p_ci W rfl) (x_cons W (x_lst W (x_cons W (p_ci W rfl) (x_nil W)) (by show 1 ≤ 100000; decide)) (x_nil W)))) (by show 3 ≤ 100000; decide)) (x_nil W)) (by show 1 ≤ 100000; decide)) (fun t ht => by rw [ht]; decide +kernel))
      (addP W 3 (p_imp W (P := fun t => t = .tup [.tup [.int 1, .none, .int 0]]) (x_tup W (x_cons W (x_tup W (x_cons W (p_ci W rfl) (x_cons W (p_cn W rfl) (x_cons W (p_ci W rfl) (x_nil W)))) (by show 3 ≤ 100000; decide)) (x_nil W)) (by show 1 ≤ 100000; decide)) (fun t ht => by rw [ht]; decide +kernel))
      (addP W 2 (p_imp W (P := fun t => t = .tup [.tup [.str "1", .int 1, .int 0]]) (x_tup W (x_cons W (x_tup W (x_cons W (p_cs W rfl) (x_cons W (p_ci W rfl) (x_cons W (p_ci W rfl) (x_nil W)))) (by show 3 ≤ 100000; decide)) (x_nil W)) (by show 1 ≤ 100000; decide)) (fun t ht => by rw [ht]; decide +kernel))
      (addP W 1 (p_imp W (P := fun t => t = .tup [.tup [.int 1, .int 2, .int 0], .tup [.int 1, .int 1, .int 0]]) (x_tup W (x_cons W (x_tup W (x_cons W (p_ci W rfl) (x_cons W (p_ci W rfl) (x_cons W (p_ci W rfl) (x_nil W)))) (by show 3 ≤ 100000; decide)) (x_cons W (x_tup W (x_cons W (p_ci W rfl) (x_cons W (p_ci W rfl) (x_cons W (p_ci W rfl) (x_nil W)))) (by show 3 ≤ 100000; decide)) (x_nil W))) (by show 2 ≤ 100000; decide)) (fun t ht => by rw [ht]; decide +kernel))
      (addP W 0 (p_imp W (P := fun t => t = .tup [.tup [.int 1, .int 1, .int 0], .tup [.int 1, .int 1, .int 0]]) (x_tup W (x_cons W (x_tup W (x_cons W (p_ci W rfl) (x_cons W (p_ci W rfl) (x_cons W (p_ci W rfl) (x_nil W)))) (by show 3 ≤ 100000; decide)) (x_cons W (x_tup W (x_cons W (p_ci W rfl) (x_cons W (p_ci W rfl) (x_cons W (p_ci W rfl) (x_nil W)))) (by show 3 ≤ 100000; decide)) (x_nil W))) (by show 2 ≤ 100000; decide)) (fun t ht => by rw [ht]; decide +kernel))
      (nilP W)))))) (fun ts h => by rw [h.1]; decide)) (fun ts us h1 h2 => by have := h1.1; have := h2.1; omega) (fun ts us h1 h2 => cat h1 h2)) fun l6 xs6 ts6 H6 g6 ok6 hl6 hx6 hp6 => ?_
  have gg6 := W.trans gg5 g6
  have T31 : ∀ {σ : L2.St}, σ.length = 10 → EvP (GP p) K (tCB (rTupOf K) (tCons (tLc (iRng1 (tCons (tC (.int 31)) tNil)) (gName 9) tYes (tTup (tCons (tOp (rI0 fun i j => .int (i + j)) (tVar 9) (tC (.int 1))) (tCons (tOp (rI0 fun i j => .int (i + j)) (tVar 9) (tC (.int 1))) (tCons (tC (.int 0)) tNil)))) [9]) tNil)) σ H6 bad := fun {σ} hσ =>
    p_tupL W (pl_lc W (Pe := fun _ _ => True) (fr_poolF hp gg6) (wg_rng (K := K) W (n := 31) (by decide) (p_ci W rfl)) (by rw [List.length_range]; decide) fun i d x H1 g1 hd hx => ⟨(wipe σ [9]).set 9 (some x), tg_name, by
      show ((σ.set 9 none).set 9 (some x)).set 9 none = σ.set 9 none
      rw [List.set_set, List.set_set], by
      have h9 : ((wipe σ [9]).set 9 (some x))[9]? = some (some x) := by
        show ((σ.set 9 none).set 9 (some x))[9]? = _
        rw [List.getElem?_set_self (by rw [List.length_set]; omega)]
      subst hx
      exact p_imp W (x_tup W (x_cons W (x_add W (p_var W h9 (.int _) rfl) (p_ci W rfl)) (x_cons W (x_add W (p_var W h9 (.int _) rfl) (p_ci W rfl)) (x_cons W (p_ci W rfl) (x_nil W)))) (by show 3 ≤ 100000; decide)) fun _ _ => trivial⟩) fun ts h => bad_31 (by rw [h.1, List.length_range])
  refine q_asgPL (K := K) W (pl_cat W (Ps := fun ts => ts.length ≤ 30 ∧ ∀ t ∈ ts, bad t) (Ps' := fun ts => ts.length = 2 ∧ ∀ t ∈ ts, bad t) (Pt := fun ts => ts.length ≤ 32 ∧ ∀ t ∈ ts, bad t) (fr_poolF hp gg6) (pl_varP W rfl ok6 hl6 hx6 hp6) (pl_lst W (fr_poolF hp gg6) (addP W 1 (p_imp W (P := fun t => t = .tup [.tup [.int 1, .int 1, .int 1], .tup [.int 1, .int 1, .int 0]]) (x_tup W (x_cons W (x_tup W (x_cons W (p_ci W rfl) (x_cons W (p_ci W rfl) (x_cons W (p_ci W rfl) (x_nil W)))) (by show 3 ≤ 100000; decide)) (x_cons W (x_tup W (x_cons W (p_ci W rfl) (x_cons W (p_ci W rfl) (x_cons W (p_ci W rfl) (x_nil W)))) (by show 3 ≤ 100000; decide)) (x_nil W))) (by show 2 ≤ 100000; decide)) (fun t ht => by rw [ht]; decide +kernel))
      (addP W 0 (T31 rfl)
      (nilP W))) (fun ts h => by rw [h.1]; decide)) (fun ts us h1 h2 => by have := h1.1; have := h2.1; omega) (fun ts us h1 h2 => cat h1 h2)) fun l7 xs7 ts7 H7 g7 ok7 hl7 hx7 hp7 => ?_
  have gg7 := W.trans gg6 g7
  have F7 : FA K bad H p 32 H7 l7 := ⟨ok7, xs7, ts7, hl7, hx7, hp7.1, hp7.2⟩
  refine q_when (et_D (K := K) (ed_op (ed_var rfl (rp_dpD (rp_r gg7.r rd0))) (ed_tup eda_nil (by decide)) (rd_neD (shaped_doffs ds) (by decide +kernel)))) (fun hb H8 e8 => ?_) (fun hb H8 e8 => ?_)
  · have hne : 0 < ds.length := by
      cases ds with
      | nil => simp [doffsD, PyData.eqv, PyData.eqvAll] at hb
      | cons d ds => exact Nat.succ_pos _
    have gg8 := W.trans gg7 (W.ex e8)
    have F8 := fa_go F7 (W.ex e8)
    have hp8 := gg8.p hp
    refine q_asgP (K := K) W (p_take (m := (ds.length : Int)) rfl hp8 ⟨by omega, by have := hg.len; omega⟩ (p_len W (p_var W rfl (rp_r gg8.r rd0) ⟨_, rfl, by rw [List.length_map]⟩))) fun v9 t9 H9 g9 hr9 ht9 => ?_
    obtain ⟨at', rfl, at0, at1⟩ := ht9
    cases rp_int hr9
    obtain ⟨k, rfl⟩ : ∃ k : Nat, at' = (k : Int) := ⟨at'.toNat, by omega⟩
    have hk : k < ds.length := by omega
    have hkT : k < (ds.map dofT).length := by rw [List.length_map]; exact hk
    have gg9 := W.trans gg8 g9
    have F9 := fa_go F8 g9
    have rd9 := rp_r gg9.r rd0
    obtain ⟨a9, ws9, ev9, hs9, ha9⟩ := rp_tup rd9
    obtain ⟨vk, hvk, rk⟩ := ra_at (i := k) (t := dofT (dAt ds k)) ha9 (by rw [List.getElem?_map, at_dAt hk]; rfl)
    obtain ⟨ak, wk, rfl, hsk, hak⟩ := rp_tup rk
    obtain ⟨x1, x2, x3, rfl, r1, r2, r3⟩ := ra3 hak
    cases rp_int r1
    cases rp_int r2
    cases rp_int r3
    refine ⟨vd, rfl, .int (k : Int), rfl, a9, ws9, (k : Int), .ref ak, ev9, rfl, hs9, atI_nat hvk, ak, _, rfl, hsk, rfl, _, _, rfl, _, _, rfl, _, _, rfl, rfl, ?_⟩
    dsimp only
    generalize (dAt ds k).1 = be
    generalize (dAt ds k).2.1 = en
    generalize (dAt ds k).2.2 = fr
    have W9 := way_poolF p H9
    have hp9 := gg9.p hp
    refine q_asgPL (K := K) W9 (pl_lst W9 (Ps := fun ts => ts.length = 5 ∧ ∀ t ∈ ts, nodof t) (fr_poolF hp9 (W9.refl H9)) (addP W 4 (p_imp W (P := fun t => t = .tup [.int (en + 1), .int en, .int fr]) (x_tup W (x_cons W (x_add W (p_var W rfl (.int _) rfl) (p_ci W rfl)) (x_cons W (p_var W rfl (.int _) rfl) (x_cons W (p_var W rfl (.int _) rfl) (x_nil W)))) (by show 3 ≤ 100000; decide)) (fun t ht => by rw [ht]; exact nod4))
      (addP W 3 (p_imp W (P := fun t => t = .tup [.int be, .int en, .int 4]) (x_tup W (x_cons W (p_var W rfl (.int _) rfl) (x_cons W (p_var W rfl (.int _) rfl) (x_cons W (p_ci W rfl) (x_nil W)))) (by show 3 ≤ 100000; decide)) (fun t ht => by rw [ht]; exact nod3))
      (addP W 2 (p_imp W (P := fun t => t = .tup [.int be, .int en, .none]) (x_tup W (x_cons W (p_var W rfl (.int _) rfl) (x_cons W (p_var W rfl (.int _) rfl) (x_cons W (p_cn W rfl) (x_nil W)))) (by show 3 ≤ 100000; decide)) (fun t ht => by rw [ht]; exact nod2))
      (addP W 1 (p_imp W (P := fun t => t = .tup [.int be, .int en]) (x_tup W (x_cons W (p_var W rfl (.int _) rfl) (x_cons W (p_var W rfl (.int _) rfl) (x_nil W))) (by show 2 ≤ 100000; decide)) (fun t ht => by rw [ht]; exact nod1))
      (addP W 0 (p_imp W (P := fun t => t = .odd .dct) (p_dict W rfl) (fun t ht => by rw [ht]; exact nod0))
      (nilP W)))))) (fun ts h => by rw [h.1]; decide)) fun ls xs10 ts10 H10 g10 ok10 hl10 hx10 hp10 => ?_
    have gg10 := W.trans gg9 g10
    have F10 := fa_go F9 g10
    have okS : ls ≠ p ∧ H ls = none := by
      refine ⟨ok10.1, ?_⟩
      cases eH : H ls with
      | none => rfl
      | some o =>
        have z := gg9.b ls o ok10.1 eH
        rw [ok10.2] at z
        cases z
    have hls7 : ls ≠ l7 := fun z => by
      obtain ⟨_, _, _, h9, _⟩ := F9
      rw [← z, ok10.2] at h9
      cases h9
    have S10 : FA K nodof H p 5 H10 ls := ⟨okS, xs10, ts10, hl10, hx10, by rw [hp10.1]; exact Nat.le_refl _, hp10.2⟩
    refine q_app (jl := 7) hp gg10 S10 (by decide) rfl (p_imp W (P := fun t => t = .odd .lst) (x_lst W (x_cons W (p_var W rfl (.int _) rfl) (x_cons W (p_var W rfl (.int _) rfl) (x_cons W (p_var W rfl (.int _) rfl) (x_nil W)))) (by show 3 ≤ 100000; decide)) (fun t ht => by rw [ht]; rfl)) fun H11 ys11 v11 g11 hy11 gg11 S11 => ?_
    have F11 : FA K bad H p 32 (upd H11 ls (.lst (ys11 ++ [v11]))) l7 := fa_other (fa_go F10 g11) hy11 (Ne.symm hls7)
    generalize upd H11 ls (.lst (ys11 ++ [v11])) = H11' at gg11 S11 F11 ⊢
    obtain ⟨_, xsS, tsS, hlS, hxS, hnS, hbS⟩ := S11
    have hlen : xsS.length ≤ 6 := by rw [ra_len hxS]; exact hnS
    have dl : (ds.map dofT).length ≤ 30 := by rw [List.length_map]; exact hg.len
    have cTo : ∀ {σ : L2.St} {H' : Hp}, σ[1]? = some (some vd) → Rp K H' vd (doffsT ds) → σ[3]? = some (some (.int (k : Int))) → EvP (GP p) K (tSl (rSlA K) (tVar 1) tNoPart (tPart (tVar 3))) σ H' (fun t => t = .tup ((ds.map dofT).take k)) := fun h1 h2 h3 => p_cut W (lo := none) (hi := some (k : Int)) (p_var W h1 h2 ⟨_, rfl, by rw [cut_to (Nat.le_of_lt hkT)]⟩) po_none' (po_cut fun H => ev_var h3)
    have cFrom : ∀ {σ : L2.St} {H' : Hp}, σ[1]? = some (some vd) → Rp K H' vd (doffsT ds) → σ[3]? = some (some (.int (k : Int))) → EvP (GP p) K (tSl (rSlA K) (tVar 1) (tPart (tVar 3)) tNoPart) σ H' (fun t => t = .tup ((ds.map dofT).drop k)) := fun h1 h2 h3 => p_cut W (lo := some (k : Int)) (hi := none) (p_var W h1 h2 ⟨_, rfl, by rw [cut_from (Nat.le_of_lt hkT)]⟩) (po_cut fun H => ev_var h3) po_none'
    have cNext : ∀ {σ : L2.St} {H' : Hp}, σ[1]? = some (some vd) → Rp K H' vd (doffsT ds) → σ[3]? = some (some (.int (k : Int))) → EvP (GP p) K (tSl (rSlA K) (tVar 1) (tPart (tOp (rI0 fun i j => .int (i + j)) (tVar 3) (tC (.int 1)))) tNoPart) σ H' (fun t => t = .tup ((ds.map dofT).drop (k + 1))) := fun h1 h2 h3 => p_cut W (lo := some ((k + 1 : Nat) : Int)) (hi := none) (p_var W h1 h2 ⟨_, rfl, by rw [cut_from hkT]⟩) (po_cut fun H => ev_op (ev_var h3) ev_c rv_I0) po_none'
    have cOne : ∀ {σ : L2.St} {H' : Hp}, σ[1]? = some (some vd) → Rp K H' vd (doffsT ds) → σ[3]? = some (some (.int (k : Int))) → EvP (GP p) K (tSl (rSlA K) (tVar 1) (tPart (tVar 3)) (tPart (tOp (rI0 fun i j => .int (i + j)) (tVar 3) (tC (.int 1))))) σ H' (fun t => t = .tup (((ds.map dofT).drop k).take 1)) := fun h1 h2 h3 => p_cut W (lo := some (k : Int)) (hi := some ((k + 1 : Nat) : Int)) (p_var W h1 h2 ⟨_, rfl, by rw [cut_one hkT]⟩) (po_cut fun H => ev_var h3) (po_cut fun H => ev_op (ev_var h3) ev_c rv_I0)
    have cHead : ∀ {σ : L2.St} {H' : Hp}, σ[1]? = some (some vd) → Rp K H' vd (doffsT ds) → EvP (GP p) K (tSl (rSlA K) (tVar 1) tNoPart (tPart (tC (.int 1)))) σ H' (fun t => t = .tup ((ds.map dofT).take 1)) := fun h1 h2 => p_cut W (lo := none) (hi := some ((1 : Nat) : Int)) (p_var W h1 h2 ⟨_, rfl, by rw [cut_to (show 1 ≤ (ds.map dofT).length by rw [List.length_map]; exact hne)]⟩) po_none' (po_cut fun H => ev_c)
    have lt : ∀ n, ((ds.map dofT).take n).length ≤ 30 := fun n => by rw [List.length_take]; omega
    have lr : ∀ n, ((ds.map dofT).drop n).length ≤ 30 := fun n => by rw [List.length_drop]; omega
    have lo : ∀ n m, (((ds.map dofT).drop n).take m).length ≤ 30 := fun n m => by rw [List.length_take, List.length_drop]; omega
    refine q_forL (K := K) (xs := xsS) (ev_var rfl) (sq_of hlS) (fun i σ' H' => GP p H H' ∧ FA K bad H p (32 + i) H' l7 ∧ H' ls = some (.lst xsS) ∧ RpAll K H' xsS tsS ∧ ∃ y8 y9 : Option V, σ' = [some (.ref p), some vd, some (.ref l7), some (.int (k : Int)), some (.int be), some (.int en), some (.int fr), some (.ref ls), y8, y9]) (fun H12 e12 => ⟨W.trans gg11 (W.ex e12), fa_go F11 (W.ex e12), e12 _ _ hlS, ra_mono e12 hxS, _, _, rfl⟩) (fun i σ' H' _ pv => sq_of pv.2.2.1) (fun i x σ' H' hx pv => ?_) (fun σ' H' pv => ?_)
    · obtain ⟨ggi, Fi, hlsi, hxi, y8, y9, rfl⟩ := pv
      obtain ⟨t, htS, rt⟩ := ra_get hxi hx
      have hnt := hbS t (List.mem_of_getElem? htS)
      have rdi := rp_r ggi.r rd0
      have hi6 : i < xsS.length := (List.getElem?_eq_some_iff.mp hx).1
      refine s_app (jl := 2) hp ggi Fi (by omega) rfl (p_op W (P := fun t' => t' = .tup ((ds.map dofT).take k ++ [t])) (P' := fun t' => t' = .tup ((ds.map dofT).drop (k + 1))) (p_op W (P := fun t' => t' = .tup ((ds.map dofT).take k)) (P' := fun t' => t' = .tup [t]) (cTo rfl rdi rfl) (x_tup W (x_cons W (p_var W rfl rt rfl) (x_nil W)) (by show 1 ≤ 100000; decide)) (fun x y hx hy => by rw [hx, hy]; exact rp_catT (by have := lt k; show _ + 1 ≤ _; omega) rfl)) (cNext rfl rdi rfl) (fun x y hx hy => by
        rw [hx, hy]
        refine rp_catT (by have := lt k; have := lr (k + 1); rw [List.length_append]; show _ + 1 + _ ≤ _; omega) ?_
        rw [List.append_assoc]
        exact bad_put hnt)) fun H13 ys v g13 hy13 gg13 F13 => ?_
      exact ⟨gg13, F13, by rw [upd_ne hls7]; exact g13.b _ _ okS.1 hlsi, ra_r (exr_upd hy13) (ra_r g13.r hxi), _, _, rfl⟩
    · obtain ⟨ggi, Fi, hlsi, hxi, y8, y9, rfl⟩ := pv
      have rdi := rp_r ggi.r rd0
      refine q_app (jl := 2) hp ggi Fi (by omega) rfl (p_op W (P := fun t' => t' = .tup ((ds.map dofT).take k ++ ((ds.map dofT).drop k).take 1)) (P' := fun t' => t' = .tup ((ds.map dofT).drop k)) (p_op W (P := fun t' => t' = .tup ((ds.map dofT).take k)) (P' := fun t' => t' = .tup (((ds.map dofT).drop k).take 1)) (cTo rfl rdi rfl) (cOne rfl rdi rfl) (fun x y hx hy => by rw [hx, hy]; exact rp_catT (by have := lt k; have := lo k 1; omega) rfl)) (cFrom rfl rdi rfl) (fun x y hx hy => by
        rw [hx, hy]
        exact rp_catT (by have := lt k; have := lo k 1; have := lr k; rw [List.length_append]; omega) (bad_dup hk))) fun H14 ys v g14 hy14 gg14 F14 => ?_
      generalize upd H14 l7 (.lst (ys ++ [v])) = H14' at gg14 F14 ⊢
      have rd14 := rp_r gg14.r rd0
      refine s_app (jl := 2) hp gg14 F14 (by omega) rfl (p_op W (P := fun t' => t' = .tup (ds.map dofT)) (P' := fun t' => t' = .tup ((ds.map dofT).take 1)) (p_var W rfl rd14 rfl) (cHead rfl rd14) (fun x y hx hy => by
        rw [hx, hy]
        exact rp_catT (by have := lt 1; omega) (bad_again hg hne))) fun H15 ys v g15 hy15 gg15 F15 => ?_
      obtain ⟨ok15, xs15, ts15, hl15, hx15, hn15, hb15⟩ := F15
      exact ⟨.ref l7, rfl, q l7 xs15 ts15 _ gg15 ok15.1 ok15.2 hl15 hx15 (by omega) hb15⟩
  · obtain ⟨ok8, xs8, ts8, hl8, hx8, hn8, hb8⟩ := fa_go F7 (W.ex e8)
    exact ⟨.ref l7, rfl, q l7 xs8 ts8 H8 (W.trans gg7 (W.ex e8)) ok8.1 ok8.2 hl8 hx8 (by omega) hb8⟩
end
end K42

set_option Elab.async false
set_option linter.all false
set_option maxRecDepth 100000
set_option maxHeartbeats 8000000
namespace K42
open PySem PySem.Spec PyProof.Rows L2 Evl DL GX YA EX TH TV YT DS LM LamX EM
abbrev s_law : Stmt := topS 55
theorem sc_law : FnScope ["_law_script", "_law_k", "_law_pool_here", "_law_doffs_here", "_law_most", "_law_thing", "_law_odd", "_law_begin", "_law_end", "_law_frame", "_law_many"] ["_law_script"] (defScope s_law) := ⟨rfl, rfl, rfl, by decide +kernel, rfl, by decide +kernel, by decide +kernel⟩
section
variable {P : Program} {w : World} {K : PySem.W.Frag} {mg : Str → Option Value} {base : Heap} {Ps : List Addr} {TL : List (Addr × Pos × Str)}
/-- [e for x in it], each item's value told -/
theorem el_lcM {σ : L2.St} {H : Hp} {te : TE} {wi : TI} {g : TG} {α : Type} {S : Hp → V → α → Prop} {vs : List Nat} {as : List α} (f : α → V) (hw : EvWR S wi σ H as) (hz : as.length ≤ 40000)
    (hs : ∀ (i : Nat) (d : α) (x : V) (H1 : Hp), Ex H H1 → as[i]? = some d → S H1 x d → ∃ σ2, TgD g x (wipe σ vs) H1 σ2 ∧ wipe σ2 vs = wipe σ vs ∧ Ev te σ2 H1 (f d)) :
    EvL (tLc wi g tYes te vs) σ H (as.map f) := fun H0 e0 Q q => hw H0 e0 _ fun J H1 e1 wk D hD => by
  obtain ⟨Gd, Y, wlk, hG, hY⟩ := wk
  refine lc_it (σ := σ) wlk (fun i H' => Ex H1 H' ∧ H' D = some (.lst ((as.take i).map f))) ⟨Ex.new hD, upd_same⟩ (fun i H' _ p => hG H' p.1) (fun i x H2 H3 hi p y => ?_) (fun H' p => ?_)
  · obtain ⟨ex, hx⟩ := p
    obtain ⟨ey, d, hd, hS⟩ := hY i H2 x H3 ex y
    obtain ⟨σ2, tg, hwp, he⟩ := hs i d x H3 ((e0.trans e1).trans (ex.trans ey)) hd hS
    refine tg H3 (Ex.refl H3) _ ⟨hwp, ?_⟩
    show te σ2 H3 _
    refine he H3 (Ex.refl H3) _ fun H5 e5 => ?_
    have tk : as.take (i + 1) = as.take i ++ [d] := by rw [List.take_add_one, hd]; rfl
    have xD : H5 D = some (.lst ((as.take i).map f)) := e5 _ _ (ey _ _ hx)
    refine ⟨_, xD, sz_lt (by rw [List.length_map, List.length_take]; omega), Ex.mut (ex.trans (ey.trans e5)) hD, ?_⟩
    rw [upd_same, tk, List.map_append]
    rfl
  · obtain ⟨ex, hx⟩ := p
    rw [List.take_of_length_le (Nat.le_refl _)] at hx
    exact q D H' (fresh_back e1 hD) (e1.trans ex) hx
theorem el_listRg {σ : L2.St} {H : Hp} {te : TE} {n : Int} (h : Ev te σ H (.int n)) (hn : 0 ≤ n ∧ n ≤ 100000) : EvL (tLstRg (tRg1 te)) σ H (rgV 0 n) := fun H1 e Q q => h H1 e _ fun H2 e2 => ⟨n, rfl, RgOk.of_le (by decide) (by omega) (by decide) hn.1, fun r hr => q r _ (fresh_back e2 hr) (e2.trans (Ex.new hr)) upd_same⟩
theorem ewl_list {σ : L2.St} {H : Hp} {tl : TE} {xs : List V} (h : EvL tl σ H xs) : EvWR (fun _ x v => x = v) (iList K tl) σ H xs := fun H1 e R q => h H1 e _ fun p H2 hp e2 hx =>
  ⟨p, rfl, ⟨xs, sq_of hx⟩, q _ H2 e2 ⟨fun H3 => SqL K H3 p xs, YAt xs, walk_list (xs := xs), fun H3 e3 => sq_of (e3 _ _ hx), fun i H3 x H4 e3 y => ⟨by rw [y.1]; exact Ex.refl _, x, y.2, rfl⟩⟩⟩
theorem ev_refD {σ : L2.St} {H : Hp} {ta tb : TE} {E : XK} {i : Int} {x y : V} {t u : Th} (ha : Ev ta σ H x) (hx : Rp K H x t) (hb : Ev tb σ H y) (hy : Rp K H y u) (hT : Tb Ps H) (hz : isDoffs t = false) : Ev (tCall (spRefused K Ps) [] E (tCons (tC (.int i)) (tCons ta (tCons tb tNil)))) σ H (.str "doffs") := fun H1 e Q q =>
  ha H1 e _ fun H2 e2 => hb H2 (e.trans e2) _ fun H3 e3 => ⟨i, t, u, .cons (.int i) (.cons (rp_mono ((e.trans e2).trans e3) hx) (.cons (rp_mono ((e.trans e2).trans e3) hy) .nil)), hT.ex ((e.trans e2).trans e3), .inl ⟨hz, fun H4 e4 => q H4 ((e2.trans e3).trans e4)⟩⟩
theorem ev_refM {σ : L2.St} {H : Hp} {ta tb : TE} {E : XK} {i : Int} {x y : V} {ds : List Dof} {u : Th} (hi : i ≠ 0) (ha : Ev ta σ H x) (hx : Dp K H x (doffsD ds)) (hg : Good ds) (hb : Ev tb σ H y) (hy : Rp K H y u) (hT : Tb Ps H) (hz : isCount u = false) : Ev (tCall (spRefused K Ps) [] E (tCons (tC (.int i)) (tCons ta (tCons tb tNil)))) σ H (.str "many") := fun H1 e Q q =>
  ha H1 e _ fun H2 e2 => hb H2 (e.trans e2) _ fun H3 e3 => ⟨i, doffsT ds, u, .cons (.int i) (.cons (rp_mono ((e.trans e2).trans e3) (dp_rpD hx)) (.cons (rp_mono ((e.trans e2).trans e3) hy) .nil)), hT.ex ((e.trans e2).trans e3), .inr ⟨hi, ⟨ds, rfl, hg⟩, hz, fun H4 e4 => q H4 ((e2.trans e3).trans e4)⟩⟩
theorem ev_withR {σ : L2.St} {H : Hp} {ta tb : TE} {E : XK} {m : Int} {x : V} {ds : List Dof} (ha : Ev ta σ H x) (hx : Dp K H x (doffsD ds)) (hg : Good ds) (hb : Ev tb σ H (.int m)) (hm : 0 ≤ m) (hT : Tb Ps H) : Ev (tCall (spWithRight K Ps) [] E (tCons ta (tCons tb tNil))) σ H (.bl true) := fun H1 e Q q =>
  ha H1 e _ fun H2 e2 => hb H2 (e.trans e2) _ fun H3 e3 => ⟨ds, m, x, rfl, dp_mono ((e.trans e2).trans e3) hx, hg, hm, hT.ex ((e.trans e2).trans e3), fun H4 e4 => q H4 ((e2.trans e3).trans e4)⟩
theorem q_whenN {t : TT} {tu tz : TS} {D : Ends} {σ : L2.St} {H : Hp} {R : Hp → Prop} (h : ∀ Q : Bool → Hp → Prop, (∀ H1, R H1 → Q false H1) → t σ H Q) (k : ∀ H1, R H1 → tz D σ H1) : tSeq (tIfS t tu tNext) tz D σ H := h _ fun H1 r => k H1 r
theorem x_negE {G : Hp → Hp → Prop} {Ok : Addr → Prop} (W : Way G Ok) {σ : L2.St} {H : Hp} {te : TE} {i : Int} (h : EvP G K te σ H fun t => t = .int i) : EvP G K (tUn (rU fun i => .int (-i)) te) σ H (fun t => t = .int (-i)) := fun H1 g Q q => h H1 g _ fun v t H2 g2 hr ht => by
  subst ht
  cases rp_int hr
  exact ⟨i, rfl, q _ _ H2 g2 (.int _) rfl⟩
theorem s_forPL {Ok : Addr → Prop} {tl : TE} {g : TG} {tu : TS} {D : Ends} {σ : L2.St} {H : Hp} {Pl : List Th → Prop} (h : EvPL Ex Ok K tl σ H Pl) (k : ∀ l xs ts H1, Ex H H1 → H1 l = some (.lst xs) → RpAll K H1 xs ts → Pl ts → tFor (iList K (tC (.ref l))) g tu D σ H1) : tFor (iList K tl) g tu D σ H := h H (Ex.refl H) _ fun l xs ts H1 e _ hl hx hp => k l xs ts H1 e hl hx hp
theorem most_of {ds : List Dof} {m : Int} (hm : m ∈ (0 : Int) :: (starts ds).map (keyF ds)) (hu : ∀ y ∈ (0 : Int) :: (starts ds).map (keyF ds), y ≤ m) : IsMost ds m ∧ 0 ≤ m ∧ m ≤ ds.length := by
  have h0 : 0 ≤ m := hu 0 List.mem_cons_self
  have ub : ∀ s ∈ starts ds, keyF ds s ≤ m := fun s hs => hu _ (List.mem_cons_of_mem _ (List.mem_map.mpr ⟨s, hs, rfl⟩))
  have kb : ∀ s, 0 ≤ keyF ds s ∧ keyF ds s ≤ ds.length := fun s => by
    have := going_le ds s
    unfold keyF
    omega
  refine ⟨⟨ub, fun hne => ?_⟩, h0, ?_⟩
  · rcases List.mem_cons.mp hm with e | e
    · cases ds with
      | nil => exact absurd rfl hne
      | cons d ds =>
        have hs : d.1 ∈ starts (d :: ds) := List.mem_cons_self
        have h1 := ub d.1 hs
        have h2 := kb d.1
        exact ⟨d.1, hs, by omega⟩
    · obtain ⟨s, hs, e⟩ := List.mem_map.mp e
      exact ⟨s, hs, e⟩
  · rcases List.mem_cons.mp hm with e | e
    · omega
    · obtain ⟨s, hs, e⟩ := List.mem_map.mp e
      have := (kb s).2
      omega
theorem tb_gp2 {p : Addr} {H H' : Hp} (hp : PoolAt H p) (g : GP p H H') (h : Tb Ps H) : Tb Ps H' := fun P hP => g.b P _ (fun z => by
  obtain ⟨n, e⟩ := hp
  have := h P hP
  rw [z, e] at this
  cases this) (h P hP)
theorem tbs_gp {p : Addr} {H H' : Hp} (hp : PoolAt H p) (g : GP p H H') (h : Tbs TL H) : Tbs TL H' := fun t ht => by
  obtain ⟨n, e⟩ := hp
  obtain ⟨ps, h1, h2, h3⟩ := h t ht
  refine ⟨ps, g.b _ _ (fun z => by rw [z, e] at h1; cases h1) h1, h2, fun cv hc => ?_⟩
  obtain ⟨c, e1, e2⟩ := h3 cv hc
  refine ⟨c, e1, g.b _ _ (fun z => by
    rw [z, e] at e2
    unfold CodeO at e2
    cases e2) e2⟩
def spLaw (K : PySem.W.Frag) (Ps : List Addr) (TL : List (Addr × Pos × Str)) : Sp := fun vs H Q _ => ∃ (a : Addr) (ns : List Int), vs = [.ref a] ∧ SqL K H a (ns.map V.int) ∧ ns.length ≤ 63 ∧ Tb Ps H ∧ Tbs TL H ∧ ∀ H', Tb Ps H' → Q (.bl true) H'
theorem ok_law {f f1 f2 f3 f4 f5 f6 f7 f8 : Addr} {fd fd1 fd2 fd3 fd4 fd5 fd6 fd7 fd8 : FuncData} {j : Nat} (hj : 3 ≤ j) (T : Bi mg) (D : Df K mg "law" s_law ["_law_script"] f fd) (D_law_pool : Df K mg "_law_pool" s_law_pool ["_law_script", "_law_k"] f1 fd1) (D_law_take : Df K mg "_law_take" s_law_take ["_law_pool_here", "_law_many"] f2 fd2)
    (D_law_doffs : Df K mg "_law_doffs" s_law_doffs ["_law_pool_here"] f3 fd3) (D_law_going : Df K mg "_law_going" s_law_going ["_law_doffs_here", "_law_beat"] f4 fd4)
    (D_law_least_right : Df K mg "_law_least_right" s_law_least_right ["_law_doffs_here", "_law_most"] f5 fd5) (G_law_least_right : FnOk P w K mg base CX0 j f5 fd5 ["_law_doffs_here", "_law_most"] (spLeastRight K Ps TL))
    (D_law_with_right : Df K mg "_law_with_right" s_law_with_right ["_law_doffs_here", "_law_many"] f6 fd6) (G_law_with_right : FnOk P w K mg base CX0 j f6 fd6 ["_law_doffs_here", "_law_many"] (spWithRight K Ps))
    (D_law_strange : Df K mg "_law_strange" s_law_strange ["_law_pool_here", "_law_doffs_here"] f7 fd7)
    (D_law_refused : Df K mg "_law_refused" s_law_refused ["_law_which", "_law_doffs_here", "_law_many"] f8 fd8) (G_law_refused : FnOk P w K mg base CX0 j f8 fd8 ["_law_which", "_law_doffs_here", "_law_many"] (spRefused K Ps)) :
    FnOk P w K mg base CX0 (j + 1) f fd ["_law_script"] (spLaw K Ps TL) := by
  have G_law_pool : FnOk P w K mg base CX0 1 f1 fd1 ["_law_script", "_law_k"] (spPool K) := ok_pool T D_law_pool
  have G_law_doffs : FnOk P w K mg base CX0 2 f3 fd3 ["_law_pool_here"] (spDoffs K) := ok_doffs T D_law_doffs D_law_take
  have G_law_going : FnOk P w K mg base CX0 1 f4 fd4 ["_law_doffs_here", "_law_beat"] (spR K RgoingT) := ok_goingT T D_law_going
  have G_law_strange : FnOk P w K mg base CX0 2 f7 fd7 ["_law_pool_here", "_law_doffs_here"] (spStrange K) := ok_strange T D_law_strange D_law_take
  refine D.F.ok sc_law (fun vs H Q E h => by obtain ⟨_, _, rfl, _⟩ := h; rfl) (fun cdv A outer s H vs Q E hr h => ?_)
  obtain ⟨a, ns, rfl, hS, h63, hT, hTL, q⟩ := h
  refine ⟨_, (pss_cons (ps_for PassesOwn.never rfl (pi_range1 rfl T.range (pa_cons (pe_callB (call_max2 rfl) (by rfl) T.max boot_max (pa_cons pe_int (pa_cons (pe_callB (call_min2 rfl) (by rfl) T.min boot_min (pa_cons (pe_callB (r := rLenS K) call_len_seq (by rfl) T.len PySem.boot_len (pa_cons (pv 0) pa_nil)) (pa_cons pe_int pa_nil))) pa_nil))) pa_nil)) (pg_name (i := 1) sc_law.nd rfl (.inl rfl)) (pss_cons (ps_set (i := 2) sc_law.nd rfl (.inl rfl) (pe_call G_law_pool (hr.mono (by omega)) (by rfl) D_law_pool.g D_law_pool.F.kp D_law_pool.b .nil pass0 (pa_cons (pv 0) (pa_cons (pv 1) pa_nil))))
      (pss_cons (ps_set (i := 3) sc_law.nd rfl (.inr rfl) (pe_call G_law_doffs (hr.mono (by omega)) (by rfl) D_law_doffs.g D_law_doffs.F.kp D_law_doffs.b .nil pass0 (pa_cons (pv 2) pa_nil)))
      (pss_cons (ps_set (i := 4) sc_law.nd rfl (.inl rfl) (pe_callB (r := rMax K) (cr_max rfl) (by rfl) T.max boot_max (pa_cons (pe_op op_cat (pe_lst (pa_cons pe_int pa_nil)) (pe_lc (own := [("_law_begin", 7), ("_law_end", 8), ("_law_frame", 9)]) (g := (gTup K 3 (gCons (gName 7) (gCons (gName 8) (gCons (gName 9) gNil))))) rfl sc_law.nd (pi_tup (pv 3)) (blkOk_by (N := ["_law_script", "_law_k", "_law_pool_here", "_law_doffs_here", "_law_most", "_law_thing", "_law_odd", "_law_begin", "_law_end", "_law_frame", "_law_many"]) (sc := defScope s_law) (by decide +kernel)) (fun _ _ _ _ _ => (by exact (pg_tup rfl (pgs_cons (pg_name (i := 7) sc_law.nd rfl (.inl rfl)) (pgs_cons (pg_name (i := 8) sc_law.nd rfl (.inl rfl)) (pgs_cons (pg_name (i := 9) sc_law.nd rfl (.inl rfl)) pgs_nil)))))) (fun _ _ _ _ _ => pts_nil) (fun _ _ _ _ _ => (pe_callB (r := rLenS K) call_len_seq (by rfl) T.len PySem.boot_len (pa_cons (pe_call G_law_going (hr.mono (by omega)) (by rfl) D_law_going.g D_law_going.F.kp D_law_going.b .nil pass0 (pa_cons (pv 3) (pa_cons (pv 7) pa_nil))) pa_nil))))) pa_nil)))
      (pss_cons (ps_if (pt_not (pt_val (pe_call G_law_least_right (hr.mono (by omega)) (by rfl) D_law_least_right.g D_law_least_right.F.kp D_law_least_right.b .nil pass0 (pa_cons (pv 3) (pa_cons (pv 4) pa_nil))))) (pss_one (ps_ret pe_bl)) pss_nil)
      (pss_cons (ps_if (pt_not (pt_val (pe_callB (r := rAll K) (cr_all rfl) (by rfl) T.all boot_all (pa_cons (pe_lc (own := [("_law_many", 10)]) (g := (gName 10)) rfl sc_law.nd (pi_list (pe_op op_cat (pe_listRg rfl (by rfl) T.list (prg_1 (by rfl) T.range (pe_op op_add (pv 4) pe_int))) (pe_lst (pa_cons (pe_op op_pow pe_int pe_int) pa_nil)))) (blkOk_by (N := ["_law_script", "_law_k", "_law_pool_here", "_law_doffs_here", "_law_most", "_law_thing", "_law_odd", "_law_begin", "_law_end", "_law_frame", "_law_many"]) (sc := defScope s_law) (by decide +kernel)) (fun _ _ _ _ _ => (pg_name (i := 10) sc_law.nd rfl (.inl rfl))) (fun _ _ _ _ _ => pts_nil) (fun _ _ _ _ _ => (pe_call G_law_with_right (hr.mono (by omega)) (by rfl) D_law_with_right.g D_law_with_right.F.kp D_law_with_right.b .nil pass0 (pa_cons (pv 3) (pa_cons (pv 10) pa_nil))))) pa_nil)))) (pss_one (ps_ret pe_bl)) pss_nil)
      (pss_cons (ps_for PassesOwn.never rfl (pi_list (pe_call G_law_strange (hr.mono (by omega)) (by rfl) D_law_strange.g D_law_strange.F.kp D_law_strange.b .nil pass0 (pa_cons (pv 2) (pa_cons (pv 3) pa_nil)))) (pg_name (i := 5) sc_law.nd rfl (.inl rfl)) (pss_one (ps_if (PW.pt (pw_or (pt_cmpR op_ne (pe_call G_law_refused (hr.mono (by omega)) (by rfl) D_law_refused.g D_law_refused.F.kp D_law_refused.b .nil pass0 (pa_cons pe_int (pa_cons (pv 5) (pa_cons pe_int pa_nil)))) pe_str (nomark _)) (pw_or1 (pt_cmpR op_ne (pe_call G_law_refused (hr.mono (by omega)) (by rfl) D_law_refused.g D_law_refused.F.kp D_law_refused.b .nil pass0 (pa_cons pe_int (pa_cons (pv 5) (pa_cons pe_non pa_nil)))) pe_str (nomark _))))) (pss_one (ps_ret pe_bl)) pss_nil)))
      (pss_one (ps_for PassesOwn.never rfl (pi_list (pe_lst (pa_cons (pe_un un_neg pe_int) (pa_cons (pe_un un_neg (pe_op op_pow pe_int pe_int)) (pa_cons pe_bl (pa_cons pe_bl (pa_cons pe_non (pa_cons pe_str (pa_cons (pe_tup (pa_cons pe_int pa_nil)) (pa_cons (pe_lst (pa_cons pe_int pa_nil)) (pa_cons pe_dnewK pa_nil))))))))))) (pg_name (i := 6) sc_law.nd rfl (.inl rfl)) (pss_one (ps_if (pt_cmpR op_ne (pe_call G_law_refused (hr.mono (by omega)) (by rfl) D_law_refused.g D_law_refused.F.kp D_law_refused.b .nil pass0 (pa_cons pe_int (pa_cons (pv 3) (pa_cons (pv 6) pa_nil)))) pe_str (nomark _)) (pss_one (ps_ret pe_bl)) pss_nil)))))))))))
      (pss_one (ps_ret pe_bl))), ?_⟩
  have hn : ∃ n : Int, (1 ≤ n ∧ n ≤ 8) ∧ ∀ {σ : L2.St}, σ[0]? = some (some (.ref a)) → EvA (tCons (tCB (fun xs H Q => ∃ i j, xs = [V.int i, V.int j] ∧ Q (V.int (if j > i then j else i)) H) (tCons (tC (V.int 1)) (tCons (tCB (fun xs H Q => ∃ i j, xs = [V.int i, V.int j] ∧ Q (V.int (if j < i then j else i)) H) (tCons (tCB (rLenS K) (tCons (tVar 0) tNil)) (tCons (tC (V.int 8)) tNil))) tNil))) tNil) σ H [.int n] := by
    refine ⟨max 1 (min ((ns.map V.int).length : Int) 8), by omega, fun h => ?_⟩
    refine ea_cons (ev_int (K := K) (ed_cbt (eda_cons ed_ci (eda_cons (ed_cbt (eda_cons (ed_int (ev_len (ev_var h) hS)) (eda_cons ed_ci eda_nil)) rdc_min2) eda_nil)) rdc_max2)) ea_nil
  obtain ⟨n, hn1, hn2⟩ := hn
  refine q_forR1 (hn2 rfl) ⟨by omega, by omega⟩ (fun i σ' H' => ExtN H H' ∧ Tbs TL H' ∧ ∃ y1 y2 y3 y4 y5 y6 y7 y8 y9 y10 : Option V, σ' = [some (.ref a), y1, y2, y3, y4, y5, y6, y7, y8, y9, y10]) (fun H1 e1 => ⟨ExtN.of e1, tbs_ex hTL e1, _, _, _, _, _, _, _, _, _, _, rfl⟩) (fun i σ' H' hi pv => ?_) (fun σ' H' pv => ?_)
  · obtain ⟨ex, hTLi, y1, y2, y3, y4, y5, y6, y7, y8, y9, y10, rfl⟩ := pv
    refine ⟨.ref a, rfl, .int (i : Int), rfl, a, ns, (i : Int), rfl, sql_extN ex hS, ⟨by omega, by omega⟩, fun p H1 n1 e1 hpn h1 _ => ?_⟩
    dsimp only [gName]
    have hp1 : PoolAt H1 p := ⟨n1, h1⟩
    have hTL1 := tbs_ex hTLi e1
    have hT1 : Tb Ps H1 := (tb_extN ex hT).ex e1
    -- the doffings
    refine ⟨.ref p, rfl, p, rfl, hp1, fun vd ds H2 g2 hd hg => ?_⟩
    dsimp only [gName]
    have hp2 := g2.p hp1
    have hT2 := tb_gp2 hp1 g2 hT1
    have hTL2 := tbs_gp hp1 g2 hTL1
    have hl : ds.length ≤ 1000 := by have := hg.len; omega
    have hlen : ∀ {σ : L2.St} {H3 : Hp} {b : Int}, Ex H2 H3 → σ[3]? = some (some vd) → σ[7]? = some (some (.int b)) → Ev (tCB (rLenS K) (tCons (tCall (spR K RgoingT) [] E0 (tCons (tVar 3) (tCons (tVar 7) tNil))) tNil)) σ H3 (.int (keyF ds b)) := fun {σ H3 b} e3 h3 h7 => by
      have z := ev_int (ed_cbt (eda_cons (ed_call (K := K) (σ := σ) (H := H3) (E := E0) (R := RgoingT) (eda_cons (ed_var h3 (dp_mono e3 hd)) (eda_cons (ed_var h7 (.int b)) eda_nil)) ⟨ds, b, rfl, hl, rfl⟩) eda_nil) rdc_lenT)
      rw [List.length_map] at z
      exact z
    -- the most at once
    refine el_cat2 (el_lst (ea_cons ev_c ea_nil) (by show 1 ≤ 100000; decide)) (el_lcM (fun d : Dof => V.int (keyF ds d.1)) (ewm_tup (K := K) (f := dofD) (as := ds) (ed_var rfl hd)) (by omega) fun i d x H3 e3 hd' hx => ⟨_, tg_3 hx, rfl, hlen e3 rfl rfl⟩) (by rw [List.length_map]; show 1 + _ ≤ _; omega) H2 (Ex.refl H2) _ fun l3 H3 _ e3 hl3 => ⟨l3, (0 : Int) :: (starts ds).map (keyF ds), rfl, ?_, Nat.succ_pos _, fun m hm hu => ?_⟩
    · refine sq_of (hl3.trans ?_)
      unfold starts
      rw [List.map_cons, List.map_map, List.map_map]
      rfl
    dsimp only [gName]
    obtain ⟨hmost, m0, mn⟩ := most_of hm hu
    have m30 : m ≤ 30 := by have := hg.len; omega
    -- least_doffers
    refine q_whenN (R := fun H4 => ExtN H3 H4 ∧ Tbs TL H4) (fun Q' q' => ⟨vd, rfl, .int m, rfl, ds, m, vd, rfl, dp_mono e3 hd, hg, hmost, hT2.ex e3, tbs_ex hTL2 e3, fun H4 eN4 hTL4 => ⟨true, rfl, q' H4 ⟨eN4, hTL4⟩⟩⟩) fun H4 hR4 => ?_
    obtain ⟨eN4, hTL4⟩ := hR4
    have hd4 := dp_extN eN4 (dp_mono e3 hd)
    have hT4 := tb_extN eN4 (hT2.ex e3)
    have hp4 : PoolAt H4 p := by
      obtain ⟨n2, h2⟩ := hp2
      exact ⟨n2, eN4 _ _ (e3 _ _ h2) fun ps z => by cases z⟩
    -- with_doffers
    refine q_when (b := false) (et_is (et_not (et_B (ev_allL (K := K) (fun _ => true) (ewl_list (K := K) (el_cat2 (el_listRg (n := m + 3) (ev_op (ev_var rfl) ev_c rv_I0) ⟨by omega, by omega⟩) (el_lst (ea_cons (ev_op ev_c ev_c (rv_I ⟨by decide, by decide, by decide⟩)) ea_nil) (by show 1 ≤ 100000; decide)) (by rw [rgV_length]; show _ + 1 ≤ 100000; omega))) (by rw [List.length_append, rgV_length]; show _ + 1 ≤ 40000; omega) fun i v x H5 e5 hv hx => ?_))) (by rw [List.all_eq_true.mpr (fun _ _ => rfl)]; rfl)) (fun h => nomatch h) (fun _ H5 e5 => ?_)
    · subst hx
      obtain ⟨z, z0, rfl⟩ : ∃ z : Int, 0 ≤ z ∧ x = .int z := by
        rcases List.mem_append.mp (List.mem_of_getElem? hv) with y | y
        · unfold rgV at y
          obtain ⟨j', _, rfl⟩ := List.mem_map.mp y
          exact ⟨_, by omega, rfl⟩
        · rw [List.mem_singleton.mp y]
          exact ⟨_, by decide, rfl⟩
      exact ⟨_, tg_name, rfl, ev_withR (ev_var rfl) (dp_mono e5 hd4) hg (ev_var rfl) z0 (hT4.ex e5)⟩
    have hd5 := dp_mono e5 hd4
    have hp5 : PoolAt H5 p := pool_ex e5 hp4
    have hT5 := hT4.ex e5
    have hTL5 := tbs_ex hTL4 e5
    -- what are no doffings
    refine ⟨.ref p, rfl, vd, rfl, p, vd, ds, rfl, hp5, hd5, hg, fun l6 xs6 ts6 H6 g6 _ _ hl6 hx6 hn6 hbad => ?_⟩
    have hd6 := rp_dpD (rp_r g6.r (dp_rpD hd5))
    have hT6 := tb_gp2 hp5 g6 hT5
    have hTL6 := tbs_gp hp5 g6 hTL5
    have enp : ∀ b o, b ≠ p → H1 b = some o → (∀ ps, o ≠ .tbl ps) → H6 b = some o := fun b o hb h hn => g6.b b o hb (e5 _ _ (eN4 _ _ (e3 _ _ (g2.b b o hb h)) hn))
    have hEx6 : ExtN H H6 := ex.trans fun b o hb hn => enp b o (ne_of_none hb hpn) (e1 _ _ hb) hn
    refine (show tSeq (tFor (iList K (tC (.ref l6))) (gName 5) _) _ _ _ H6 from q_forL (K := K) (tl := tC (.ref l6)) (xs := xs6) ev_c (sq_of hl6) (fun i' σ' H' => Ex H6 H' ∧ ∃ y5 y6 y7 y8 y9 y10 : Option V, σ' = [some (.ref a), some (.int (i : Int)), some (.ref p), some vd, some (.int m), y5, y6, y7, y8, y9, y10]) (fun H7 e7 => ⟨e7, _, _, _, _, _, _, rfl⟩) (fun i' σ' H' _ pv => sq_of (pv.1 _ _ hl6)) (fun i' x σ' H' hx pv => ?_) (fun σ' H' pv => ?_))
    · obtain ⟨ex7, y5, y6, y7, y8, y9, y10, rfl⟩ := pv
      obtain ⟨t, ht, rt⟩ := ra_get (ra_mono ex7 hx6) hx
      have hb := hbad t (List.mem_of_getElem? ht)
      refine s_if (b := false) (et_is (et_or (a := false) (b := false) (et_D (K := K) (ed_op (ed_of (ev_refD (ev_var rfl) rt ev_c (.int 0) (hT6.ex ex7) hb) (.str "doffs")) ed_cs rd_neSS)) fun _ => et_D (K := K) (ed_op (ed_of (ev_refD (ev_var rfl) rt ev_c .non (hT6.ex ex7) hb) (.str "doffs")) ed_cs rd_neSS)) rfl) (fun h => nomatch h) (fun _ H8 e8 => ?_)
      exact ⟨ex7.trans e8, _, _, _, _, _, _, rfl⟩
    · obtain ⟨ex7, y5, y6, y7, y8, y9, y10, rfl⟩ := pv
      have hd7 := dp_mono ex7 hd6
      have hT7 := hT6.ex ex7
      have W := way_ex
      have big : ∀ {σ : L2.St} {H' : Hp}, EvP Ex K (tOp (rI (fun i j => CPow i j) fun i j => .int (i ^ j.toNat)) (tC (.int 10)) (tC (.int 30))) σ H' (fun t => t = .int (10 ^ 30)) := p_op W (P := fun x => x = .int 10) (P' := fun y => y = .int 30) (p_ci W rfl) (p_ci W rfl) (fun x y hx hy => by rw [hx, hy]; exact rp_I ⟨by decide, by decide, by decide⟩ rfl)
      have one : ∀ {te : TE} {σ : L2.St} {t : Th}, isCount t = false → EvP Ex K te σ H' (fun u => u = t) → EvP Ex K te σ H' (fun u => isCount u = false) := fun h1 h2 => p_imp W h2 fun u hu => by rw [hu]; exact h1
      refine s_forPL (K := K) (pl_lst W (Ps := fun ts => ts.length = 9 ∧ ∀ t ∈ ts, isCount t = false) (fun _ _ _ _ => trivial) (addP W 8 (one (t := .int (-1)) (by decide +kernel) (x_neg W)) (addP W 7 (one (t := .int (-(10 ^ 30))) (by decide +kernel) (x_negE W big)) (addP W 6 (one (t := .bool true) (by decide +kernel) (p_cb W rfl)) (addP W 5 (one (t := .bool false) (by decide +kernel) (p_cb W rfl)) (addP W 4 (one (t := .none) (by decide +kernel) (p_cn W rfl)) (addP W 3 (one (t := .str "1") (by decide +kernel) (p_cs W rfl)) (addP W 2 (one (t := .tup [.int 1]) (by decide +kernel) (x_tup W (x_cons W (p_ci W rfl) (x_nil W)) (by show 1 ≤ 100000; decide))) (addP W 1 (one (t := .odd .lst) (by decide +kernel) (x_lst W (x_cons W (p_ci W rfl) (x_nil W)) (by show 1 ≤ 100000; decide))) (addP W 0 (one (t := .odd .dct) (by decide +kernel) (p_dict W rfl)) (nilP W)))))))))) (fun ts h => by rw [h.1]; decide)) fun l8 xs8 ts8 H8 e8 hl8 hx8 hp8 => ?_
      refine s_forL (K := K) (tl := tC (.ref l8)) (xs := xs8) ev_c (sq_of hl8) (fun i' σ' H9 => Ex H8 H9 ∧ ∃ y5 y6 y7 y8 y9 y10 : Option V, σ' = [some (.ref a), some (.int (i : Int)), some (.ref p), some vd, some (.int m), y5, y6, y7, y8, y9, y10]) (fun H9 e9 => ⟨e9, _, _, _, _, _, _, rfl⟩) (fun i' σ' H9 _ pv => sq_of (pv.1 _ _ hl8)) (fun i' x σ' H9 hx pv => ?_) (fun σ' H9 pv => ?_)
      · obtain ⟨ex9, y5, y6, y7, y8, y9, y10, rfl⟩ := pv
        obtain ⟨t, ht, rt⟩ := ra_get (ra_mono ex9 hx8) hx
        have hb := hp8.2 t (List.mem_of_getElem? ht)
        refine s_if (b := false) (et_is (et_D (K := K) (ed_op (ed_of (ev_refM (by decide) (ev_var rfl) (dp_mono (e8.trans ex9) hd7) hg (ev_var rfl) rt ((hT7.ex e8).ex ex9) hb) (.str "many")) ed_cs rd_neSS)) rfl) (fun h => nomatch h) (fun _ H10 e10 => ?_)
        exact ⟨ex9.trans e10, _, _, _, _, _, _, rfl⟩
      · obtain ⟨ex9, y5, y6, y7, y8, y9, y10, rfl⟩ := pv
        have e69 := (ex7.trans e8).trans ex9
        exact ⟨hEx6.trans (ExtN.of e69), tbs_ex hTL6 e69, _, _, _, _, _, _, _, _, _, _, rfl⟩
  · obtain ⟨ex, hTLi, y1, y2, y3, y4, y5, y6, y7, y8, y9, y10, rfl⟩ := pv
    exact sr_ret (ev_c (v := .bl true)) fun H1 e1 => q H1 (tb_extN (ex.trans (ExtN.of e1)) hT)
end
end K42

set_option Elab.async false
set_option linter.all false
set_option maxRecDepth 100000
set_option maxHeartbeats 4000000
namespace K42
open PySem PySem.Spec PyProof.Rows L2 Evl DL GX YA EX TH TV YT DS LM LamX EM
def tblC (cs : List Addr) : List (Str × Addr) := (("DoffError" :: errs : List Str)).zip cs
def atC (cs : List Addr) (n : Str) : Addr := ((tblC cs).lookup n).getD 0
theorem kit_cl {K : PySem.W.Frag} {D C : Addr} {b : Bool} (ht : PySem.W.typeIn K (.ref C) = some (.type "type")) (hd : PySem.W.hasDictIn K C = true) (hs : PySem.W.subIn K (.ref D) (.ref C) = some b) (hD : PySem.W.subIn K (.ref D) (.ref D) = some true) : PySem.W.kitOne K (.ref D) (.ref C) = some b := by
  unfold PySem.W.kitOne
  split
  · rename_i e
    have e : D = C := Value.ref.inj (beq_iff_eq.mp e)
    subst e
    rw [← hs, hD]
  · obtain ⟨cd, hc, _⟩ := PySem.W.any_some hd
    have e2 : ((PySem.W.clsIn K C).isSome && PySem.W.typeIn K (.ref C) == some (.type "type")) = true := by rw [hc, ht] <;> rfl
    show (if ((PySem.W.clsIn K C).isSome && PySem.W.typeIn K (.ref C) == some (.type "type")) = true then PySem.W.subIn K (.ref D) (.ref C) else none) = some b
    rw [if_pos e2]
    exact hs
theorem kit_ve {K : PySem.W.Frag} {D : Addr} {T : String} {b : Bool} (hs : PySem.W.subIn K (.ref D) (.type T) = some b) (hk : PySem.W.kitMeta T = true := by decide +kernel) : PySem.W.kitOne K (.ref D) (.type T) = some b := by
  unfold PySem.W.kitOne
  rw [if_neg (by intro h; exact absurd (beq_iff_eq.mp h) (by intro z; cases z))]
  show (if PySem.W.kitMeta T = true then PySem.W.subIn K (.ref D) (.type T) else none) = some b
  rw [if_pos hk]
  exact hs
theorem tab_mk {K : PySem.W.Frag} {x : Str} {st : Stmt} {f c P : Addr} {fd : FuncData} {oc : Value} {od : Option Addr} {vs : Array Value} {sl : Array (Option Value)} (b : PySem.W.nsIn K mainGlobals x = some (some (.ref f))) (F : FunC K x x st f fd c)
    (q : K.lookup c = some ⟨oc, od, .fields vs, sl⟩) (u : vs[11]? = some (.ref P)) : PySem.W.tabIn K x = some (c, P) := by
  obtain ⟨oc', od', kV, doc, pm, an, ct, osl, rfl, lk, _⟩ := F.ex
  unfold PySem.W.tabIn
  rw [b]
  dsimp only
  rw [lk]
  dsimp only [PySem.W.fnOf]
  rw [q]
  dsimp only
  rw [u]
theorem all_mk {l : PySem.W.OpenLaw} {qq : Program} {w : World} {K : PySem.W.Frag} {h : Heap} {mg : Str → Option Value} {fa f0 f1 f2 f3 f4 f5 f6 f7 f8 f9 f10 f11 f12 f13 f14 f15 f16 f17 f18 f19 f20 f21 f22 g0 g1 g2 k0 k1 k2 p0 p1 p2 c0 c1 c2 c3 c4 c5 c6 c7 c8 c9 c10 c11 c12 c13 c14 c15 c16 c17 c18 c19 : Addr} {d0 d1 d2 d3 d4 d5 d6 d7 d8 d9 d10 d11 d12 d13 d14 d15 d16 d17 d18 d19 d20 d21 d22 e0 e1 e2 : FuncData} {tk0 tk1 tk2 : Tok} {sl0 sl1 sl2 : Array (Option Value)} {oc0 oc1 oc2 : Value} {od0 od1 od2 : Option Addr} {vv0 vv1 vv2 : Array Value} (X : K.In h) (G : h.Ns mainGlobals mg) (hfa : mg "law" = some (.ref fa))
    (a0 : PySem.W.nsIn K mainGlobals "law" = some (some (.ref f0))) (F0 : Fun K "law" "law" s_law f0 d0)
    (a1 : PySem.W.nsIn K mainGlobals "_law_pool" = some (some (.ref f1))) (F1 : Fun K "_law_pool" "_law_pool" s_law_pool f1 d1)
    (a2 : PySem.W.nsIn K mainGlobals "_law_take" = some (some (.ref f2))) (F2 : Fun K "_law_take" "_law_take" s_law_take f2 d2)
    (a3 : PySem.W.nsIn K mainGlobals "_law_whole" = some (some (.ref f3))) (F3 : Fun K "_law_whole" "_law_whole" s_law_whole f3 d3)
    (a4 : PySem.W.nsIn K mainGlobals "_law_doffs" = some (some (.ref f4))) (F4 : Fun K "_law_doffs" "_law_doffs" s_law_doffs f4 d4)
    (a5 : PySem.W.nsIn K mainGlobals "_law_going" = some (some (.ref f5))) (F5 : Fun K "_law_going" "_law_going" s_law_going f5 d5)
    (a6 : PySem.W.nsIn K mainGlobals "_law_is_plan" = some (some (.ref f6))) (F6 : Fun K "_law_is_plan" "_law_is_plan" s_law_is_plan f6 d6)
    (a7 : PySem.W.nsIn K mainGlobals "_law_least_right" = some (some (.ref f7))) (F7 : Fun K "_law_least_right" "_law_least_right" s_law_least_right f7 d7)
    (a8 : PySem.W.nsIn K mainGlobals "_law_with_right" = some (some (.ref f8))) (F8 : Fun K "_law_with_right" "_law_with_right" s_law_with_right f8 d8)
    (a9 : PySem.W.nsIn K mainGlobals "_law_strange" = some (some (.ref f9))) (F9 : Fun K "_law_strange" "_law_strange" s_law_strange f9 d9)
    (a10 : PySem.W.nsIn K mainGlobals "_law_sort" = some (some (.ref f10))) (F10 : Fun K "_law_sort" "_law_sort" s_law_sort f10 d10)
    (a11 : PySem.W.nsIn K mainGlobals "_law_refused" = some (some (.ref f11))) (F11 : Fun K "_law_refused" "_law_refused" s_law_refused f11 d11)
    (a12 : PySem.W.nsIn K mainGlobals "is_whole" = some (some (.ref f12))) (F12 : Fun K "is_whole" "is_whole" s_is_whole f12 d12)
    (a13 : PySem.W.nsIn K mainGlobals "is_within" = some (some (.ref f13))) (F13 : Fun K "is_within" "is_within" s_is_within f13 d13)
    (a14 : PySem.W.nsIn K mainGlobals "is_beat" = some (some (.ref f14))) (F14 : Fun K "is_beat" "is_beat" s_is_beat f14 d14)
    (a15 : PySem.W.nsIn K mainGlobals "is_count" = some (some (.ref f15))) (F15 : Fun K "is_count" "is_count" s_is_count f15 d15)
    (a16 : PySem.W.nsIn K mainGlobals "is_tuple_of" = some (some (.ref f16))) (F16 : Fun K "is_tuple_of" "is_tuple_of" s_is_tuple_of f16 d16)
    (a17 : PySem.W.nsIn K mainGlobals "is_doffing" = some (some (.ref f17))) (F17 : Fun K "is_doffing" "is_doffing" s_is_doffing f17 d17)
    (a18 : PySem.W.nsIn K mainGlobals "going_on" = some (some (.ref f18))) (F18 : Fun K "going_on" "going_on" s_going_on f18 d18)
    (a19 : PySem.W.nsIn K mainGlobals "need_many" = some (some (.ref f19))) (F19 : Fun K "need_many" "need_many" s_need_many f19 d19)
    (a20 : PySem.W.nsIn K mainGlobals "with_doffers" = some (some (.ref f20))) (F20 : Fun K "with_doffers" "with_doffers" s_with_doffers f20 d20)
    (a21 : PySem.W.nsIn K mainGlobals "need_doffs" = some (some (.ref f21))) (F21 : Fun K "need_doffs" "need_doffs" s_need_doffs f21 d21)
    (a22 : PySem.W.nsIn K mainGlobals "plan_of" = some (some (.ref f22))) (F22 : Fun K "plan_of" "plan_of" s_plan_of f22 d22)
    (b0 : PySem.W.nsIn K mainGlobals "is_rising" = some (some (.ref g0))) (G0 : FunC K "is_rising" "is_rising" s_is_rising g0 e0 k0)
    (b1 : PySem.W.nsIn K mainGlobals "are_doffs" = some (some (.ref g1))) (G1 : FunC K "are_doffs" "are_doffs" s_are_doffs g1 e1 k1)
    (b2 : PySem.W.nsIn K mainGlobals "least_doffers" = some (some (.ref g2))) (G2 : FunC K "least_doffers" "least_doffers" s_least_doffers g2 e2 k2)
    (r0 : ((recsOf qq).any fun e => e.name == ("is_rising" : Str)) = true) (q0 : K.lookup k0 = some ⟨oc0, od0, .fields vv0, sl0⟩) (u0 : vv0[11]? = some (.ref p0)) (l0 : K.lookup p0 = none)
    (r1 : ((recsOf qq).any fun e => e.name == ("are_doffs" : Str)) = true) (q1 : K.lookup k1 = some ⟨oc1, od1, .fields vv1, sl1⟩) (u1 : vv1[11]? = some (.ref p1)) (l1 : K.lookup p1 = none)
    (r2 : ((recsOf qq).any fun e => e.name == ("least_doffers" : Str)) = true) (q2 : K.lookup k2 = some ⟨oc2, od2, .fields vv2, sl2⟩) (u2 : vv2[11]? = some (.ref p2)) (l2 : K.lookup p2 = none)
    (y2_0 : p2 ≠ p0)
    (y2_1 : p2 ≠ p1)
    (n0 : PySem.W.nsIn K mainGlobals "DoffError" = some (some (.ref c0))) (t0 : PySem.W.typeIn K (.ref c0) = some (.type "type")) (h0 : PySem.W.hasDictIn K c0 = true)
    (n1 : PySem.W.nsIn K mainGlobals "NoYard" = some (some (.ref c1))) (t1 : PySem.W.typeIn K (.ref c1) = some (.type "type")) (h1 : PySem.W.hasDictIn K c1 = true)
    (n2 : PySem.W.nsIn K mainGlobals "NoFrame" = some (some (.ref c2))) (t2 : PySem.W.typeIn K (.ref c2) = some (.type "type")) (h2 : PySem.W.hasDictIn K c2 = true)
    (n3 : PySem.W.nsIn K mainGlobals "NoMoment" = some (some (.ref c3))) (t3 : PySem.W.typeIn K (.ref c3) = some (.type "type")) (h3 : PySem.W.hasDictIn K c3 = true)
    (n4 : PySem.W.nsIn K mainGlobals "NoWait" = some (some (.ref c4))) (t4 : PySem.W.typeIn K (.ref c4) = some (.type "type")) (h4 : PySem.W.hasDictIn K c4 = true)
    (n5 : PySem.W.nsIn K mainGlobals "NoMany" = some (some (.ref c5))) (t5 : PySem.W.typeIn K (.ref c5) = some (.type "type")) (h5 : PySem.W.hasDictIn K c5 = true)
    (n6 : PySem.W.nsIn K mainGlobals "NoDoffs" = some (some (.ref c6))) (t6 : PySem.W.typeIn K (.ref c6) = some (.type "type")) (h6 : PySem.W.hasDictIn K c6 = true)
    (n7 : PySem.W.nsIn K mainGlobals "NoHand" = some (some (.ref c7))) (t7 : PySem.W.typeIn K (.ref c7) = some (.type "type")) (h7 : PySem.W.hasDictIn K c7 = true)
    (n8 : PySem.W.nsIn K mainGlobals "NoStray" = some (some (.ref c8))) (t8 : PySem.W.typeIn K (.ref c8) = some (.type "type")) (h8 : PySem.W.hasDictIn K c8 = true)
    (n9 : PySem.W.nsIn K mainGlobals "NoText" = some (some (.ref c9))) (t9 : PySem.W.typeIn K (.ref c9) = some (.type "type")) (h9 : PySem.W.hasDictIn K c9 = true)
    (n10 : PySem.W.nsIn K mainGlobals "NoMinds" = some (some (.ref c10))) (t10 : PySem.W.typeIn K (.ref c10) = some (.type "type")) (h10 : PySem.W.hasDictIn K c10 = true)
    (n11 : PySem.W.nsIn K mainGlobals "NoSpun" = some (some (.ref c11))) (t11 : PySem.W.typeIn K (.ref c11) = some (.type "type")) (h11 : PySem.W.hasDictIn K c11 = true)
    (n12 : PySem.W.nsIn K mainGlobals "NoThread" = some (some (.ref c12))) (t12 : PySem.W.typeIn K (.ref c12) = some (.type "type")) (h12 : PySem.W.hasDictIn K c12 = true)
    (n13 : PySem.W.nsIn K mainGlobals "TooMany" = some (some (.ref c13))) (t13 : PySem.W.typeIn K (.ref c13) = some (.type "type")) (h13 : PySem.W.hasDictIn K c13 = true)
    (n14 : PySem.W.nsIn K mainGlobals "NoStrike" = some (some (.ref c14))) (t14 : PySem.W.typeIn K (.ref c14) = some (.type "type")) (h14 : PySem.W.hasDictIn K c14 = true)
    (n15 : PySem.W.nsIn K mainGlobals "NoPlain" = some (some (.ref c15))) (t15 : PySem.W.typeIn K (.ref c15) = some (.type "type")) (h15 : PySem.W.hasDictIn K c15 = true)
    (n16 : PySem.W.nsIn K mainGlobals "NoSmall" = some (some (.ref c16))) (t16 : PySem.W.typeIn K (.ref c16) = some (.type "type")) (h16 : PySem.W.hasDictIn K c16 = true)
    (n17 : PySem.W.nsIn K mainGlobals "NoStory" = some (some (.ref c17))) (t17 : PySem.W.typeIn K (.ref c17) = some (.type "type")) (h17 : PySem.W.hasDictIn K c17 = true)
    (n18 : PySem.W.nsIn K mainGlobals "NoCalls" = some (some (.ref c18))) (t18 : PySem.W.typeIn K (.ref c18) = some (.type "type")) (h18 : PySem.W.hasDictIn K c18 = true)
    (n19 : PySem.W.nsIn K mainGlobals "NoRow" = some (some (.ref c19))) (t19 : PySem.W.typeIn K (.ref c19) = some (.type "type")) (h19 : PySem.W.hasDictIn K c19 = true)
    (s6_0 : PySem.W.subIn K (.ref c6) (.ref c0) = some true)
    (s6_1 : PySem.W.subIn K (.ref c6) (.ref c1) = some false)
    (s6_2 : PySem.W.subIn K (.ref c6) (.ref c2) = some false)
    (s6_3 : PySem.W.subIn K (.ref c6) (.ref c3) = some false)
    (s6_4 : PySem.W.subIn K (.ref c6) (.ref c4) = some false)
    (s6_5 : PySem.W.subIn K (.ref c6) (.ref c5) = some false)
    (s6_6 : PySem.W.subIn K (.ref c6) (.ref c6) = some true)
    (s6_7 : PySem.W.subIn K (.ref c6) (.ref c7) = some false)
    (s6_8 : PySem.W.subIn K (.ref c6) (.ref c8) = some false)
    (s6_9 : PySem.W.subIn K (.ref c6) (.ref c9) = some false)
    (s6_10 : PySem.W.subIn K (.ref c6) (.ref c10) = some false)
    (s6_11 : PySem.W.subIn K (.ref c6) (.ref c11) = some false)
    (s6_12 : PySem.W.subIn K (.ref c6) (.ref c12) = some false)
    (s6_13 : PySem.W.subIn K (.ref c6) (.ref c13) = some false)
    (s6_14 : PySem.W.subIn K (.ref c6) (.ref c14) = some false)
    (s6_15 : PySem.W.subIn K (.ref c6) (.ref c15) = some false)
    (s6_16 : PySem.W.subIn K (.ref c6) (.ref c16) = some false)
    (s6_17 : PySem.W.subIn K (.ref c6) (.ref c17) = some false)
    (s6_18 : PySem.W.subIn K (.ref c6) (.ref c18) = some false)
    (s6_19 : PySem.W.subIn K (.ref c6) (.ref c19) = some false)
    (s5_0 : PySem.W.subIn K (.ref c5) (.ref c0) = some true)
    (s5_1 : PySem.W.subIn K (.ref c5) (.ref c1) = some false)
    (s5_2 : PySem.W.subIn K (.ref c5) (.ref c2) = some false)
    (s5_3 : PySem.W.subIn K (.ref c5) (.ref c3) = some false)
    (s5_4 : PySem.W.subIn K (.ref c5) (.ref c4) = some false)
    (s5_5 : PySem.W.subIn K (.ref c5) (.ref c5) = some true)
    (s5_6 : PySem.W.subIn K (.ref c5) (.ref c6) = some false)
    (s5_7 : PySem.W.subIn K (.ref c5) (.ref c7) = some false)
    (s5_8 : PySem.W.subIn K (.ref c5) (.ref c8) = some false)
    (s5_9 : PySem.W.subIn K (.ref c5) (.ref c9) = some false)
    (s5_10 : PySem.W.subIn K (.ref c5) (.ref c10) = some false)
    (s5_11 : PySem.W.subIn K (.ref c5) (.ref c11) = some false)
    (s5_12 : PySem.W.subIn K (.ref c5) (.ref c12) = some false)
    (s5_13 : PySem.W.subIn K (.ref c5) (.ref c13) = some false)
    (s5_14 : PySem.W.subIn K (.ref c5) (.ref c14) = some false)
    (s5_15 : PySem.W.subIn K (.ref c5) (.ref c15) = some false)
    (s5_16 : PySem.W.subIn K (.ref c5) (.ref c16) = some false)
    (s5_17 : PySem.W.subIn K (.ref c5) (.ref c17) = some false)
    (s5_18 : PySem.W.subIn K (.ref c5) (.ref c18) = some false)
    (s5_19 : PySem.W.subIn K (.ref c5) (.ref c19) = some false)
    (z0 : PySem.W.nsIn K mainGlobals "len" = some none)
    (z1 : PySem.W.nsIn K mainGlobals "sum" = some none)
    (z2 : PySem.W.nsIn K mainGlobals "abs" = some none)
    (z3 : PySem.W.nsIn K mainGlobals "min" = some none)
    (z4 : PySem.W.nsIn K mainGlobals "max" = some none)
    (z5 : PySem.W.nsIn K mainGlobals "divmod" = some none)
    (z6 : PySem.W.nsIn K mainGlobals "all" = some none)
    (z7 : PySem.W.nsIn K mainGlobals "isinstance" = some none)
    (z8 : PySem.W.nsIn K mainGlobals "tuple" = some none)
    (z9 : PySem.W.nsIn K mainGlobals "int" = some none)
    (z10 : PySem.W.nsIn K mainGlobals "bool" = some none)
    (z11 : PySem.W.nsIn K mainGlobals "range" = some none)
    (z12 : PySem.W.nsIn K mainGlobals "enumerate" = some none)
    (z13 : PySem.W.nsIn K mainGlobals "list" = some none)
    (z14 : PySem.W.nsIn K mainGlobals "str" = some none)
    (z15 : PySem.W.nsIn K mainGlobals "ValueError" = some none)
    (z16 : PySem.W.nsIn K mainGlobals "sorted" = some none)
    (be : PySem.W.subIn K (.ref c0) (.type "BaseException") = some true)
    (eC6 : ExcC K c6) (ve6 : PySem.W.subIn K (.ref c6) (.type "ValueError") = some true)
    (xi6 : PySem.W.excIn K c6 [.type "ValueError", .type "Exception", .type "BaseException", .type "object"] "ValueError.__new__" = true) (kp6 : PySem.W.keepIn K (.ref c6) = true) (bx6 : PySem.W.subIn K (.ref c6) (.type "BaseException") = some true)
    (eC5 : ExcC K c5) (ve5 : PySem.W.subIn K (.ref c5) (.type "ValueError") = some true)
    (xi5 : PySem.W.excIn K c5 [.type "ValueError", .type "Exception", .type "BaseException", .type "object"] "ValueError.__new__" = true) (kp5 : PySem.W.keepIn K (.ref c5) = true) (bx5 : PySem.W.subIn K (.ref c5) (.type "BaseException") = some true)
    (gi0 : PySem.W.nsIn K mainGlobals "MOST_DOFFS" = some (some (.int 30 tk0)))
    (gi1 : PySem.W.nsIn K mainGlobals "MOST_FRAMES" = some (some (.int 4 tk1)))
    (gi2 : PySem.W.nsIn K mainGlobals "MOST_DOFF" = some (some (.int 9 tk2)))
    (gl0 : ∃ t, mg "BIG" = some (.int 1000000000000000000000000000000 t))
    (hb : ∀ (s : Shared) (v : Value), BindsTo s d0 ⟨[v], []⟩ [("_law_script", v)]) :
    ∃ (xs ys : List (Str × Addr × Addr)) (fd : FuncData) (sp : Sp), (∀ p ∈ xs ++ ys, ((recsOf qq).any fun e => e.name == p.1) = true ∧ PySem.W.tabIn K p.1 = some p.2 ∧ K.lookup p.2.2 = none) ∧ (∀ p ∈ ys, ∀ r ∈ xs, p.2.2 ≠ r.2.2) ∧
      (∀ (s : Shared) (u : Value), BindsTo s fd ⟨[u], []⟩ [("_law_script", u)]) ∧
      (∀ (H : Hp) (a : Addr) (ns : List Int), ns.length ≤ 63 → (∀ p ∈ xs, H p.2.2 = some (TabE p.2.2)) → (∀ p ∈ ys, H p.2.2 = some (.tbl #[])) → SqL K H a (ns.map V.int) → sp [.ref a] H (fun v H' => (∀ p ∈ xs, H' p.2.2 = some (TabE p.2.2)) ∧ v = .bl true) fun _ _ _ => False) ∧
      ∀ base : Heap, K.In base → base.Ns mainGlobals mg → (∀ p ∈ xs ++ ys, GxR.TabB base mg p.2.1 p.2.2) → FnOk l.prog w K mg base CX0 10 fa fd ["_law_script"] sp := by
  have e := hfa.symm.trans (PySem.W.mg_of X G a0)
  cases e
  have T : Bi mg := ⟨PySem.W.mg_none_of X G z0, PySem.W.mg_none_of X G z1, PySem.W.mg_none_of X G z2, PySem.W.mg_none_of X G z3, PySem.W.mg_none_of X G z4, PySem.W.mg_none_of X G z5, PySem.W.mg_none_of X G z6, PySem.W.mg_none_of X G z7, PySem.W.mg_none_of X G z8, PySem.W.mg_none_of X G z9, PySem.W.mg_none_of X G z10, PySem.W.mg_none_of X G z11, PySem.W.mg_none_of X G z12, PySem.W.mg_none_of X G z13, PySem.W.mg_none_of X G z14, PySem.W.mg_none_of X G z15, PySem.W.mg_none_of X G z16⟩
  have D0 : Df K mg "law" s_law ["_law_script"] fa d0 := ⟨F0, F0.binds (ps := ["_law_script"]) fun _ _ _ _ _ _ us hl => match us, hl with | [_], _ => rfl, PySem.W.mg_of X G a0⟩
  have D1 : Df K mg "_law_pool" s_law_pool ["_law_script", "_law_k"] f1 d1 := ⟨F1, F1.binds (ps := ["_law_script", "_law_k"]) fun _ _ _ _ _ _ us hl => match us, hl with | [_, _], _ => rfl, PySem.W.mg_of X G a1⟩
  have D2 : Df K mg "_law_take" s_law_take ["_law_pool_here", "_law_many"] f2 d2 := ⟨F2, F2.binds (ps := ["_law_pool_here", "_law_many"]) fun _ _ _ _ _ _ us hl => match us, hl with | [_, _], _ => rfl, PySem.W.mg_of X G a2⟩
  have D3 : Df K mg "_law_whole" s_law_whole ["_law_thing"] f3 d3 := ⟨F3, F3.binds (ps := ["_law_thing"]) fun _ _ _ _ _ _ us hl => match us, hl with | [_], _ => rfl, PySem.W.mg_of X G a3⟩
  have D4 : Df K mg "_law_doffs" s_law_doffs ["_law_pool_here"] f4 d4 := ⟨F4, F4.binds (ps := ["_law_pool_here"]) fun _ _ _ _ _ _ us hl => match us, hl with | [_], _ => rfl, PySem.W.mg_of X G a4⟩
  have D5 : Df K mg "_law_going" s_law_going ["_law_doffs_here", "_law_beat"] f5 d5 := ⟨F5, F5.binds (ps := ["_law_doffs_here", "_law_beat"]) fun _ _ _ _ _ _ us hl => match us, hl with | [_, _], _ => rfl, PySem.W.mg_of X G a5⟩
  have D6 : Df K mg "_law_is_plan" s_law_is_plan ["_law_doffs_here", "_law_plan", "_law_many"] f6 d6 := ⟨F6, F6.binds (ps := ["_law_doffs_here", "_law_plan", "_law_many"]) fun _ _ _ _ _ _ us hl => match us, hl with | [_, _, _], _ => rfl, PySem.W.mg_of X G a6⟩
  have D7 : Df K mg "_law_least_right" s_law_least_right ["_law_doffs_here", "_law_most"] f7 d7 := ⟨F7, F7.binds (ps := ["_law_doffs_here", "_law_most"]) fun _ _ _ _ _ _ us hl => match us, hl with | [_, _], _ => rfl, PySem.W.mg_of X G a7⟩
  have D8 : Df K mg "_law_with_right" s_law_with_right ["_law_doffs_here", "_law_many"] f8 d8 := ⟨F8, F8.binds (ps := ["_law_doffs_here", "_law_many"]) fun _ _ _ _ _ _ us hl => match us, hl with | [_, _], _ => rfl, PySem.W.mg_of X G a8⟩
  have D9 : Df K mg "_law_strange" s_law_strange ["_law_pool_here", "_law_doffs_here"] f9 d9 := ⟨F9, F9.binds (ps := ["_law_pool_here", "_law_doffs_here"]) fun _ _ _ _ _ _ us hl => match us, hl with | [_, _], _ => rfl, PySem.W.mg_of X G a9⟩
  have D10 : Df K mg "_law_sort" s_law_sort ["_law_e"] f10 d10 := ⟨F10, F10.binds (ps := ["_law_e"]) fun _ _ _ _ _ _ us hl => match us, hl with | [_], _ => rfl, PySem.W.mg_of X G a10⟩
  have D11 : Df K mg "_law_refused" s_law_refused ["_law_which", "_law_doffs_here", "_law_many"] f11 d11 := ⟨F11, F11.binds (ps := ["_law_which", "_law_doffs_here", "_law_many"]) fun _ _ _ _ _ _ us hl => match us, hl with | [_, _, _], _ => rfl, PySem.W.mg_of X G a11⟩
  have D12 : Df K mg "is_whole" s_is_whole ["thing"] f12 d12 := ⟨F12, F12.binds (ps := ["thing"]) fun _ _ _ _ _ _ us hl => match us, hl with | [_], _ => rfl, PySem.W.mg_of X G a12⟩
  have D13 : Df K mg "is_within" s_is_within ["thing", "low", "high"] f13 d13 := ⟨F13, F13.binds (ps := ["thing", "low", "high"]) fun _ _ _ _ _ _ us hl => match us, hl with | [_, _, _], _ => rfl, PySem.W.mg_of X G a13⟩
  have D14 : Df K mg "is_beat" s_is_beat ["thing"] f14 d14 := ⟨F14, F14.binds (ps := ["thing"]) fun _ _ _ _ _ _ us hl => match us, hl with | [_], _ => rfl, PySem.W.mg_of X G a14⟩
  have D15 : Df K mg "is_count" s_is_count ["thing"] f15 d15 := ⟨F15, F15.binds (ps := ["thing"]) fun _ _ _ _ _ _ us hl => match us, hl with | [_], _ => rfl, PySem.W.mg_of X G a15⟩
  have D16 : Df K mg "is_tuple_of" s_is_tuple_of ["thing", "least", "most"] f16 d16 := ⟨F16, F16.binds (ps := ["thing", "least", "most"]) fun _ _ _ _ _ _ us hl => match us, hl with | [_, _, _], _ => rfl, PySem.W.mg_of X G a16⟩
  have D17 : Df K mg "is_doffing" s_is_doffing ["thing"] f17 d17 := ⟨F17, F17.binds (ps := ["thing"]) fun _ _ _ _ _ _ us hl => match us, hl with | [_], _ => rfl, PySem.W.mg_of X G a17⟩
  have D18 : Df K mg "going_on" s_going_on ["doffs", "beat"] f18 d18 := ⟨F18, F18.binds (ps := ["doffs", "beat"]) fun _ _ _ _ _ _ us hl => match us, hl with | [_, _], _ => rfl, PySem.W.mg_of X G a18⟩
  have D19 : Df K mg "need_many" s_need_many ["thing"] f19 d19 := ⟨F19, F19.binds (ps := ["thing"]) fun _ _ _ _ _ _ us hl => match us, hl with | [_], _ => rfl, PySem.W.mg_of X G a19⟩
  have D20 : Df K mg "with_doffers" s_with_doffers ["doffs", "many"] f20 d20 := ⟨F20, F20.binds (ps := ["doffs", "many"]) fun _ _ _ _ _ _ us hl => match us, hl with | [_, _], _ => rfl, PySem.W.mg_of X G a20⟩
  have D21 : Df K mg "need_doffs" s_need_doffs ["thing"] f21 d21 := ⟨F21, F21.binds (ps := ["thing"]) fun _ _ _ _ _ _ us hl => match us, hl with | [_], _ => rfl, PySem.W.mg_of X G a21⟩
  have D22 : Df K mg "plan_of" s_plan_of ["doffs"] f22 d22 := ⟨F22, F22.binds (ps := ["doffs"]) fun _ _ _ _ _ _ us hl => match us, hl with | [_], _ => rfl, PySem.W.mg_of X G a22⟩
  have Y0 : DfC K mg "is_rising" s_is_rising ["parts"] g0 e0 k0 := ⟨G0, G0.fn.binds (ps := ["parts"]) fun _ _ _ _ _ _ us hl => match us, hl with | [_], _ => rfl, PySem.W.mg_of X G b0⟩
  have Y1 : DfC K mg "are_doffs" s_are_doffs ["thing"] g1 e1 k1 := ⟨G1, G1.fn.binds (ps := ["thing"]) fun _ _ _ _ _ _ us hl => match us, hl with | [_], _ => rfl, PySem.W.mg_of X G b1⟩
  have Y2 : DfC K mg "least_doffers" s_least_doffers ["doffs"] g2 e2 k2 := ⟨G2, G2.fn.binds (ps := ["doffs"]) fun _ _ _ _ _ _ us hl => match us, hl with | [_], _ => rfl, PySem.W.mg_of X G b2⟩
  have hC : Ec mg (atC [c0, c1, c2, c3, c4, c5, c6, c7, c8, c9, c10, c11, c12, c13, c14, c15, c16, c17, c18, c19]) := by
    refine ⟨fun n hn => ?_⟩
    simp only [errs, List.mem_cons, List.not_mem_nil, or_false] at hn
    rcases hn with rfl | rfl | rfl | rfl | rfl | rfl | rfl | rfl | rfl | rfl | rfl | rfl | rfl | rfl | rfl | rfl | rfl | rfl | rfl | rfl
    · exact PySem.W.mg_of X G n0
    · exact PySem.W.mg_of X G n1
    · exact PySem.W.mg_of X G n2
    · exact PySem.W.mg_of X G n3
    · exact PySem.W.mg_of X G n4
    · exact PySem.W.mg_of X G n5
    · exact PySem.W.mg_of X G n6
    · exact PySem.W.mg_of X G n7
    · exact PySem.W.mg_of X G n8
    · exact PySem.W.mg_of X G n9
    · exact PySem.W.mg_of X G n10
    · exact PySem.W.mg_of X G n11
    · exact PySem.W.mg_of X G n12
    · exact PySem.W.mg_of X G n13
    · exact PySem.W.mg_of X G n14
    · exact PySem.W.mg_of X G n15
    · exact PySem.W.mg_of X G n16
    · exact PySem.W.mg_of X G n17
    · exact PySem.W.mg_of X G n18
    · exact PySem.W.mg_of X G n19
  have hE6 : E1 K (atC [c0, c1, c2, c3, c4, c5, c6, c7, c8, c9, c10, c11, c12, c13, c14, c15, c16, c17, c18, c19]) "NoDoffs" := by
    refine ⟨eC6, fun n hn => ?_, kit_ve ve6, kit_cl t0 h0 s6_0 s6_6, PySem.W.exm_ref be h0 t0 s6_0⟩
    simp only [errs, List.mem_cons, List.not_mem_nil, or_false] at hn
    rcases hn with rfl | rfl | rfl | rfl | rfl | rfl | rfl | rfl | rfl | rfl | rfl | rfl | rfl | rfl | rfl | rfl | rfl | rfl | rfl
    · exact kit_cl t1 h1 s6_1 s6_6
    · exact kit_cl t2 h2 s6_2 s6_6
    · exact kit_cl t3 h3 s6_3 s6_6
    · exact kit_cl t4 h4 s6_4 s6_6
    · exact kit_cl t5 h5 s6_5 s6_6
    · exact kit_cl t6 h6 s6_6 s6_6
    · exact kit_cl t7 h7 s6_7 s6_6
    · exact kit_cl t8 h8 s6_8 s6_6
    · exact kit_cl t9 h9 s6_9 s6_6
    · exact kit_cl t10 h10 s6_10 s6_6
    · exact kit_cl t11 h11 s6_11 s6_6
    · exact kit_cl t12 h12 s6_12 s6_6
    · exact kit_cl t13 h13 s6_13 s6_6
    · exact kit_cl t14 h14 s6_14 s6_6
    · exact kit_cl t15 h15 s6_15 s6_6
    · exact kit_cl t16 h16 s6_16 s6_6
    · exact kit_cl t17 h17 s6_17 s6_6
    · exact kit_cl t18 h18 s6_18 s6_6
    · exact kit_cl t19 h19 s6_19 s6_6
  have hR6 : Rz K mg "NoDoffs" c6 := ⟨PySem.W.mg_of X G n6, xi6, kp6, bx6, t6⟩
  have hE5 : E1 K (atC [c0, c1, c2, c3, c4, c5, c6, c7, c8, c9, c10, c11, c12, c13, c14, c15, c16, c17, c18, c19]) "NoMany" := by
    refine ⟨eC5, fun n hn => ?_, kit_ve ve5, kit_cl t0 h0 s5_0 s5_5, PySem.W.exm_ref be h0 t0 s5_0⟩
    simp only [errs, List.mem_cons, List.not_mem_nil, or_false] at hn
    rcases hn with rfl | rfl | rfl | rfl | rfl | rfl | rfl | rfl | rfl | rfl | rfl | rfl | rfl | rfl | rfl | rfl | rfl | rfl | rfl
    · exact kit_cl t1 h1 s5_1 s5_5
    · exact kit_cl t2 h2 s5_2 s5_5
    · exact kit_cl t3 h3 s5_3 s5_5
    · exact kit_cl t4 h4 s5_4 s5_5
    · exact kit_cl t5 h5 s5_5 s5_5
    · exact kit_cl t6 h6 s5_6 s5_5
    · exact kit_cl t7 h7 s5_7 s5_5
    · exact kit_cl t8 h8 s5_8 s5_5
    · exact kit_cl t9 h9 s5_9 s5_5
    · exact kit_cl t10 h10 s5_10 s5_5
    · exact kit_cl t11 h11 s5_11 s5_5
    · exact kit_cl t12 h12 s5_12 s5_5
    · exact kit_cl t13 h13 s5_13 s5_5
    · exact kit_cl t14 h14 s5_14 s5_5
    · exact kit_cl t15 h15 s5_15 s5_5
    · exact kit_cl t16 h16 s5_16 s5_5
    · exact kit_cl t17 h17 s5_17 s5_5
    · exact kit_cl t18 h18 s5_18 s5_5
    · exact kit_cl t19 h19 s5_19 s5_5
  have hR5 : Rz K mg "NoMany" c5 := ⟨PySem.W.mg_of X G n5, xi5, kp5, bx5, t5⟩
  refine ⟨[("is_rising", k0, p0), ("are_doffs", k1, p1)], [("least_doffers", k2, p2)], d0, spLaw K [p0, p1] [(p2, lamPos, lamQ)], ?_, ?_, hb, ?_, fun base _ _ hTB => ?_⟩
  · intro p hp
    simp only [List.mem_cons, List.not_mem_nil, or_false, List.cons_append, List.nil_append] at hp
    rcases hp with rfl | rfl | rfl
    · exact ⟨r0, tab_mk b0 G0 q0 u0, l0⟩
    · exact ⟨r1, tab_mk b1 G1 q1 u1, l1⟩
    · exact ⟨r2, tab_mk b2 G2 q2 u2, l2⟩
  · intro p hp r hr
    simp only [List.mem_cons, List.not_mem_nil, or_false] at hp hr
    rcases hp with rfl
    · rcases hr with rfl | rfl
      · exact y2_0
      · exact y2_1
  · intro H a ns hl hH hY hS
    refine ⟨a, ns, rfl, hS, hl, fun P hP => ?_, fun t ht => ?_, fun H' hT => ⟨fun p hp => ?_, rfl⟩⟩
    · simp only [List.mem_cons, List.not_mem_nil, or_false] at hP
      rcases hP with hP | hP
      · rw [hP]
        exact hH ("is_rising", k0, p0) (by simp)
      · rw [hP]
        exact hH ("are_doffs", k1, p1) (by simp)
    · simp only [List.mem_cons, List.not_mem_nil, or_false] at ht
      rcases ht with rfl
      · exact LM.tabL_nil (hY ("least_doffers", k2, p2) (by simp))
    · simp only [List.mem_cons, List.not_mem_nil, or_false] at hp
      rcases hp with rfl | rfl
      · exact hT p0 (by simp)
      · exact hT p1 (by simp)
  · have T0 : GxR.TabB base mg k0 p0 := hTB ("is_rising", k0, p0) (by simp)
    have T1 : GxR.TabB base mg k1 p1 := hTB ("are_doffs", k1, p1) (by simp)
    have T2 : GxR.TabB base mg k2 p2 := hTB ("least_doffers", k2, p2) (by simp)
    have U2 : LamX.TabB base mg k2 p2 := ⟨T2.code, T2.bm, T2.gP⟩
    have M2 : (p2, lamPos, lamQ) ∈ ([(p2, lamPos, lamQ)] : List (Addr × Pos × Str)) := by simp
    have N2 : ∀ t ∈ ([(p2, lamPos, lamQ)] : List (Addr × Pos × Str)), t.1 = p2 → t = (p2, lamPos, lamQ) := by
      intro t ht he
      simp only [List.mem_cons, List.not_mem_nil, or_false] at ht
      rcases ht with rfl
      · rfl
    have hI_MOST_DOFFS : ∃ t, mg "MOST_DOFFS" = some (.int 30 t) := ⟨_, PySem.W.mg_of X G gi0⟩
    have hI_MOST_FRAMES : ∃ t, mg "MOST_FRAMES" = some (.int 4 t) := ⟨_, PySem.W.mg_of X G gi1⟩
    have hI_MOST_DOFF : ∃ t, mg "MOST_DOFF" = some (.int 9 t) := ⟨_, PySem.W.mg_of X G gi2⟩
    have hI_BIG : ∃ t, mg "BIG" = some (.int (10 ^ 30) t) := by
      obtain ⟨t, e⟩ := gl0
      exact ⟨t, e.trans (congrArg (fun i => some (Value.int i t)) (by decide))⟩
    have g1 : Pr l.prog w K mg base 1 "is_whole" s_is_whole ["thing"] (spF K [p0, p1] (fn1 isWhole)) := pr_whole T ⟨_, _, D12⟩
    have g2 : Pr l.prog w K mg base 2 "is_within" s_is_within ["thing", "low", "high"] (spF K [p0, p1] (fn3 isWithin)) := pr_within T ⟨_, _, D13⟩ g1
    have g3 : Pr l.prog w K mg base 1 "is_tuple_of" s_is_tuple_of ["thing", "least", "most"] (spF K [p0, p1] (fn3 isTupleOf)) := pr_tuple_of T ⟨_, _, D16⟩
    have g4 : Pr l.prog w K mg base 3 "is_beat" s_is_beat ["thing"] (spF K [p0, p1] (fn1 isBeat)) := pr_beat T hI_BIG ⟨_, _, D14⟩ g2
    have g5 : Pr l.prog w K mg base 2 "is_count" s_is_count ["thing"] (spF K [p0, p1] (fn1 isCount)) := pr_count T ⟨_, _, D15⟩ g1
    have g6 : Pr l.prog w K mg base 2 "is_rising" s_is_rising ["parts"] (spF K [p0, p1] fRising) := pr_rising T ⟨_, _, _, p0, Y0, T0, by simp⟩
    have g7 : Pr l.prog w K mg base 4 "is_doffing" s_is_doffing ["thing"] (spF K [p0, p1] (fn1 isDoffing)) := pr_doffing T hI_BIG hI_MOST_DOFF hI_MOST_FRAMES ⟨_, _, D17⟩ g3 g2 g4
    have g8 : Pr l.prog w K mg base 6 "are_doffs" s_are_doffs ["thing"] (spF K [p0, p1] (fn1 isDoffs)) := pr_doffs T hI_MOST_DOFFS ⟨_, _, _, p1, Y1, T1, by simp⟩ g3 g7 g6
    obtain ⟨_, _, Dd, Gd⟩ := g8
    obtain ⟨_, _, Dc, Gc⟩ := g5
    have m1 := ok_needD T hR6 D21 Dd Gd
    have m2 := ok_needM T hR5 D19 Dc Gc
    have m3 := ok_least (TL := [(p2, lamPos, lamQ)]) (k := 4) T Y2 U2 M2 N2 D21 m1 D18 D22
    have m4 := ok_with (k := 4) T D20 D21 m1 D19 m2 D18 D22
    have m5 := ok_leastRight (j := 8) (by decide) T D7 D3 D5 D6 Y2.d m3
    have m6 := ok_withRight (k := 0) (j := 8) (by decide) T D8 D3 D5 D6 D20 m4
    have m7 := ok_refused (j := 8) (by decide) T hC hE6 hE5 D11 D10 Y2.d m3 D20 m4
    exact ok_law (j := 9) (by decide) T D0 D1 D2 D4 D5 D7 m5 D8 m6 D9 D11 m7
end K42

set_option Elab.async false
set_option linter.all false
set_option maxRecDepth 100000
set_option maxHeartbeats 4000000
open PySem PySem.W PyProof.Rows
set_option maxHeartbeats 0 in
theorem PySem.Challenge.cw_doffyard_k42_fewest_doffers_holds : PySem.Challenge.rw_doffyard_k42_fewest_doffers.Holds := by
  w_on; o_law; k_head; (case hw => w_witness2)
  k_fill
  refine GX.walk_ofXT (l := PySem.Challenge.rw_doffyard_k42_fewest_doffers) (n := 63) (k := 10) (x := "_law_script") rfl (by decide) rfl ⟨rfl, by decide, by decide⟩ (fun w h Y => PySem.W.km_in_of Y) ?F
  case F =>
    intro w mg fa h KX G XX hmg
    refine' K42.all_mk KX G hmg ?a0 (L2.fun_mk ?x0 ?v0 ?w0) ?a1 (L2.fun_mk ?x1 ?v1 ?w1) ?a2 (L2.fun_mk ?x2 ?v2 ?w2) ?a3 (L2.fun_mk ?x3 ?v3 ?w3) ?a4 (L2.fun_mk ?x4 ?v4 ?w4) ?a5 (L2.fun_mk ?x5 ?v5 ?w5) ?a6 (L2.fun_mk ?x6 ?v6 ?w6) ?a7 (L2.fun_mk ?x7 ?v7 ?w7) ?a8 (L2.fun_mk ?x8 ?v8 ?w8) ?a9 (L2.fun_mk ?x9 ?v9 ?w9) ?a10 (L2.fun_mk ?x10 ?v10 ?w10) ?a11 (L2.fun_mk ?x11 ?v11 ?w11) ?a12 (L2.fun_mk ?x12 ?v12 ?w12) ?a13 (L2.fun_mk ?x13 ?v13 ?w13) ?a14 (L2.fun_mk ?x14 ?v14 ?w14) ?a15 (L2.fun_mk ?x15 ?v15 ?w15) ?a16 (L2.fun_mk ?x16 ?v16 ?w16) ?a17 (L2.fun_mk ?x17 ?v17 ?w17) ?a18 (L2.fun_mk ?x18 ?v18 ?w18) ?a19 (L2.fun_mk ?x19 ?v19 ?w19) ?a20 (L2.fun_mk ?x20 ?v20 ?w20) ?a21 (L2.fun_mk ?x21 ?v21 ?w21) ?a22 (L2.fun_mk ?x22 ?v22 ?w22) ?b0 (GX.func_mk ?xx0 ?vv0 ?ww0) ?b1 (GX.func_mk ?xx1 ?vv1 ?ww1) ?b2 (GX.func_mk ?xx2 ?vv2 ?ww2) ?r0 ?q0 ?u0 ?l0 ?r1 ?q1 ?u1 ?l1 ?r2 ?q2 ?u2 ?l2 ?y2_0 ?y2_1 ?n0 ?t0 ?h0 ?n1 ?t1 ?h1 ?n2 ?t2 ?h2 ?n3 ?t3 ?h3 ?n4 ?t4 ?h4 ?n5 ?t5 ?h5 ?n6 ?t6 ?h6 ?n7 ?t7 ?h7 ?n8 ?t8 ?h8 ?n9 ?t9 ?h9 ?n10 ?t10 ?h10 ?n11 ?t11 ?h11 ?n12 ?t12 ?h12 ?n13 ?t13 ?h13 ?n14 ?t14 ?h14 ?n15 ?t15 ?h15 ?n16 ?t16 ?h16 ?n17 ?t17 ?h17 ?n18 ?t18 ?h18 ?n19 ?t19 ?h19 ?s6_0 ?s6_1 ?s6_2 ?s6_3 ?s6_4 ?s6_5 ?s6_6 ?s6_7 ?s6_8 ?s6_9 ?s6_10 ?s6_11 ?s6_12 ?s6_13 ?s6_14 ?s6_15 ?s6_16 ?s6_17 ?s6_18 ?s6_19 ?s5_0 ?s5_1 ?s5_2 ?s5_3 ?s5_4 ?s5_5 ?s5_6 ?s5_7 ?s5_8 ?s5_9 ?s5_10 ?s5_11 ?s5_12 ?s5_13 ?s5_14 ?s5_15 ?s5_16 ?s5_17 ?s5_18 ?s5_19 ?z0 ?z1 ?z2 ?z3 ?z4 ?z5 ?z6 ?z7 ?z8 ?z9 ?z10 ?z11 ?z12 ?z13 ?z14 ?z15 ?z16 ?be ⟨?e6_0, ?e6_1, ?e6_2, ?e6_3, ?e6_4, ?e6_5, ?e6_6, ?e6_7⟩ ?ve6 ?xi6 ?kp6 ?bx6 ⟨?e5_0, ?e5_1, ?e5_2, ?e5_3, ?e5_4, ?e5_5, ?e5_6, ?e5_7⟩ ?ve5 ?xi5 ?kp5 ?bx5 ?gi0 ?gi1 ?gi2 (GX.loose_int XX (List.mem_singleton.mpr rfl)) (fun s v => .of_eq rfl)
    (case a0 => k_is); (case x0 => k_is); (case v0 => k_is); (case w0 => k_is); (case a1 => k_is); (case x1 => k_is); (case v1 => k_is); (case w1 => k_is)
    (case a2 => k_is); (case x2 => k_is); (case v2 => k_is); (case w2 => k_is); (case a3 => k_is); (case x3 => k_is); (case v3 => k_is); (case w3 => k_is)
    (case a4 => k_is); (case x4 => k_is); (case v4 => k_is); (case w4 => k_is); (case a5 => k_is); (case x5 => k_is); (case v5 => k_is); (case w5 => k_is)
    (case a6 => k_is); (case x6 => k_is); (case v6 => k_is); (case w6 => k_is); (case a7 => k_is); (case x7 => k_is); (case v7 => k_is); (case w7 => k_is)
    (case a8 => k_is); (case x8 => k_is); (case v8 => k_is); (case w8 => k_is); (case a9 => k_is); (case x9 => k_is); (case v9 => k_is); (case w9 => k_is)
    (case a10 => k_is); (case x10 => k_is); (case v10 => k_is); (case w10 => k_is); (case a11 => k_is); (case x11 => k_is); (case v11 => k_is); (case w11 => k_is)
    (case a12 => k_is); (case x12 => k_is); (case v12 => k_is); (case w12 => k_is); (case a13 => k_is); (case x13 => k_is); (case v13 => k_is); (case w13 => k_is)
    (case a14 => k_is); (case x14 => k_is); (case v14 => k_is); (case w14 => k_is); (case a15 => k_is); (case x15 => k_is); (case v15 => k_is); (case w15 => k_is)
    (case a16 => k_is); (case x16 => k_is); (case v16 => k_is); (case w16 => k_is); (case a17 => k_is); (case x17 => k_is); (case v17 => k_is); (case w17 => k_is)
    (case a18 => k_is); (case x18 => k_is); (case v18 => k_is); (case w18 => k_is); (case a19 => k_is); (case x19 => k_is); (case v19 => k_is); (case w19 => k_is)
    (case a20 => k_is); (case x20 => k_is); (case v20 => k_is); (case w20 => k_is); (case a21 => k_is); (case x21 => k_is); (case v21 => k_is); (case w21 => k_is)
    (case a22 => k_is); (case x22 => k_is); (case v22 => k_is); (case w22 => k_is); (case b0 => k_is); (case xx0 => k_is); (case vv0 => k_is); (case ww0 => k_is)
    (case b1 => k_is); (case xx1 => k_is); (case vv1 => k_is); (case ww1 => k_is); (case b2 => k_is); (case xx2 => k_is); (case vv2 => k_is); (case ww2 => k_is)
    (case r0 => decide +kernel); (case q0 => k_is); (case u0 => exact rfl); (case l0 => exact rfl); (case r1 => decide +kernel); (case q1 => k_is); (case u1 => exact rfl); (case l1 => exact rfl)
    (case r2 => decide +kernel); (case q2 => k_is); (case u2 => exact rfl); (case l2 => exact rfl); (case y2_0 => decide); (case y2_1 => decide); (case n0 => k_is); (case n1 => k_is)
    (case n2 => k_is); (case n3 => k_is); (case n4 => k_is); (case n5 => k_is); (case n6 => k_is); (case n7 => k_is); (case n8 => k_is); (case n9 => k_is)
    (case n10 => k_is); (case n11 => k_is); (case n12 => k_is); (case n13 => k_is); (case n14 => k_is); (case n15 => k_is); (case n16 => k_is); (case n17 => k_is)
    (case n18 => k_is); (case n19 => k_is); (case t0 => k_is); (case h0 => k_is); (case t1 => k_is); (case h1 => k_is); (case t2 => k_is); (case h2 => k_is)
    (case t3 => k_is); (case h3 => k_is); (case t4 => k_is); (case h4 => k_is); (case t5 => k_is); (case h5 => k_is); (case t6 => k_is); (case h6 => k_is)
    (case t7 => k_is); (case h7 => k_is); (case t8 => k_is); (case h8 => k_is); (case t9 => k_is); (case h9 => k_is); (case t10 => k_is); (case h10 => k_is)
    (case t11 => k_is); (case h11 => k_is); (case t12 => k_is); (case h12 => k_is); (case t13 => k_is); (case h13 => k_is); (case t14 => k_is); (case h14 => k_is)
    (case t15 => k_is); (case h15 => k_is); (case t16 => k_is); (case h16 => k_is); (case t17 => k_is); (case h17 => k_is); (case t18 => k_is); (case h18 => k_is)
    (case t19 => k_is); (case h19 => k_is); (case s6_0 => k_is); (case s6_1 => k_is); (case s6_2 => k_is); (case s6_3 => k_is); (case s6_4 => k_is); (case s6_5 => k_is)
    (case s6_6 => k_is); (case s6_7 => k_is); (case s6_8 => k_is); (case s6_9 => k_is); (case s6_10 => k_is); (case s6_11 => k_is); (case s6_12 => k_is); (case s6_13 => k_is)
    (case s6_14 => k_is); (case s6_15 => k_is); (case s6_16 => k_is); (case s6_17 => k_is); (case s6_18 => k_is); (case s6_19 => k_is); (case s5_0 => k_is); (case s5_1 => k_is)
    (case s5_2 => k_is); (case s5_3 => k_is); (case s5_4 => k_is); (case s5_5 => k_is); (case s5_6 => k_is); (case s5_7 => k_is); (case s5_8 => k_is); (case s5_9 => k_is)
    (case s5_10 => k_is); (case s5_11 => k_is); (case s5_12 => k_is); (case s5_13 => k_is); (case s5_14 => k_is); (case s5_15 => k_is); (case s5_16 => k_is); (case s5_17 => k_is)
    (case s5_18 => k_is); (case s5_19 => k_is); (case z0 => k_is); (case z1 => k_is); (case z2 => k_is); (case z3 => k_is); (case z4 => k_is); (case z5 => k_is)
    (case z6 => k_is); (case z7 => k_is); (case z8 => k_is); (case z9 => k_is); (case z10 => k_is); (case z11 => k_is); (case z12 => k_is); (case z13 => k_is)
    (case z14 => k_is); (case z15 => k_is); (case z16 => k_is); (case be => k_is); (case e6_0 => k_is); (case e6_1 => k_is); (case e6_2 => k_is); (case e6_3 => k_is)
    (case e6_4 => k_is); (case e6_5 => k_is); (case e6_6 => k_is); (case e6_7 => k_is); (case ve6 => k_is); (case xi6 => k_exc); (case kp6 => k_is); (case bx6 => k_is)
    (case e5_0 => k_is); (case e5_1 => k_is); (case e5_2 => k_is); (case e5_3 => k_is); (case e5_4 => k_is); (case e5_5 => k_is); (case e5_6 => k_is); (case e5_7 => k_is)
    (case ve5 => k_is); (case xi5 => k_exc); (case kp5 => k_is); (case bx5 => k_is); (case gi0 => k_is); (case gi1 => k_is); (case gi2 => k_is)

