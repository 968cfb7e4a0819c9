import PyProof.Rows.All
import Wide.All
import OpenK.AllK
import Wide.FinOn
import HandS.ForMost
import HandS.Evl
import HandS.Exc
import HandS.IsInst
import HandS.Zip
import HandS.Gcd
import HandS.Wide
import HandS.WideBits
import HandS.Deep
import HandS.TupAny
import HandS.TupMul
import HandS.TupLe
import HandS.Style
import PyProof.ReprRoads
import PyProof.CallFns
import PySem.Challenge.RW_wishways_k12_whole_ratios_reckoned
set_option Elab.async false
set_option linter.all false
set_option maxRecDepth 100000
set_option maxHeartbeats 4000000
/-! DL1: values without a heap: data, views of data, cells that change; what a reading of the hand layer does over them. -/
namespace DL
open PySem PySem.Spec PyProof.Rows L2 Evl

/-! ### what a value is as data: also the empty dict -/
mutual
inductive Dv (K : PySem.W.Frag) (H : Hp) : V → PyData → Prop
  | non : Dv K H .non .none
  | bl (b : Bool) : Dv K H (.bl b) (.bool b)
  | int (i : Int) : Dv K H (.int i) (.int i)
  | str (z : Str) : Dv K H (.str z) (.str z)
  | lst {p : Addr} {vs : List V} {ds : List PyData} : SqL K H p vs → DvAll K H vs ds → Dv K H (.ref p) (.list ds)
  | tup {p : Addr} {vs : List V} {ds : List PyData} : SqT K H p vs → DvAll K H vs ds → Dv K H (.ref p) (.tuple ds)
  | emp {p : Addr} : H p = some (.dK []) → Dv K H (.ref p) (.dict [])
inductive DvAll (K : PySem.W.Frag) (H : Hp) : List V → List PyData → Prop
  | nil : DvAll K H [] []
  | cons {v : V} {vs : List V} {d : PyData} {ds : List PyData} : Dv K H v d → DvAll K H vs ds → DvAll K H (v :: vs) (d :: ds)
end
/-! where no dict is, it is the hand layer's own -/
mutual
theorem Dv.dp {K : PySem.W.Frag} {H : Hp} : ∀ (d : PyData) (v : V), Dv K H v d → d.canLay0 = true → L2.Dp K H v d
  | .none, _, h, _ => by cases h; exact .non
  | .bool _, _, h, _ => by cases h; exact .bl _
  | .int _, _, h, _ => by cases h; exact .int _
  | .str _, _, h, _ => by cases h; exact .str _
  | .list ds, _, h, c => by
    cases h with
    | lst hs ha => exact .lst hs (DvAll.dp ds _ ha (by simpa [PyData.canLay0] using c))
  | .tuple ds, _, h, c => by
    cases h with
    | tup hs ha => exact .tup hs (DvAll.dp ds _ ha (by simpa [PyData.canLay0] using c))
  | .dict _, _, _, c => by simp [PyData.canLay0] at c
theorem DvAll.dp {K : PySem.W.Frag} {H : Hp} : ∀ (ds : List PyData) (vs : List V), DvAll K H vs ds → PyData.canLayAll0 ds = true → L2.DpAll K H vs ds
  | [], _, h, _ => by cases h; exact .nil
  | d :: ds, _, h, c => by
    have c' : d.canLay0 = true ∧ PyData.canLayAll0 ds = true := by simpa [PyData.canLayAll0] using c
    cases h with
    | cons h1 h2 => exact .cons (Dv.dp d _ h1 c'.1) (DvAll.dp ds _ h2 c'.2)
end
theorem Dv.dpS {K : PySem.W.Frag} {H : Hp} {v : V} {d : PyData} (h : Dv K H v d) (c : SeqAt.shaped d = true) : L2.Dp K H v d := Dv.dp d v h (SeqAt.canLay_of_shaped c)
section
variable {X : Cx} {pins : List (Addr × Obj)} {σ : L2.St} {H : Hp} {s : Shared}
theorem dict_reads (I : Inv X pins σ H s) {p : Addr} (h : H p = some (.dK [])) : Reads s.heap (.ref p) (.dict []) [p] ∧ p ≠ sysModules := by
  obtain ⟨_, ne, vs, kv, o, es, ep, ho, hx, hd, _, hp, _⟩ := I.hok p _ h
  cases kv
  have e : es.toList = [] := List.eq_nil_of_length_eq_zero hp.length
  refine ⟨Reads.dict (as := []) (bs := []) ho hx.1 hd (by rw [e]; exact .nil) (by rw [e]; exact .nil), fun z => ?_⟩
  subst z
  simp at ne
mutual
theorem Dv.reads (I : Inv X pins σ H s) : ∀ (d : PyData) (v : V) (u : Value), Dv X.K H v d → RelV v u → ∃ as, Reads s.heap u d as
  | .none, _, _, h, r => by cases h; cases r; exact ⟨_, Reads.none⟩
  | .bool b, _, _, h, r => by cases h; cases r; exact ⟨_, Reads.bool b⟩
  | .int i, _, _, h, r => by cases h; obtain ⟨t, rfl⟩ := r; exact ⟨_, Reads.int i t⟩
  | .str x, _, _, h, r => by cases h; obtain ⟨t, rfl⟩ := r; exact ⟨_, Reads.str x t⟩
  | .list ds, _, _, h, r => by
    cases h with
    | lst hs ha =>
      cases r
      have ⟨its, rv, q, _⟩ := I.list hs
      have ⟨o, n, ho, hc, _, hd⟩ := q
      have ⟨as, hr⟩ := Dv.readsAll I ds _ its ha rv
      exact ⟨_, Reads.list ho hc hd hr⟩
  | .tuple ds, _, _, h, r => by
    cases h with
    | tup hs ha =>
      cases r
      have ⟨its, rv, q, _⟩ := I.tuple hs
      have ⟨o, ho, hc, n, hd⟩ := q
      have ⟨as, hr⟩ := Dv.readsAll I ds _ its ha rv
      exact ⟨_, Reads.tuple ho hc hd hr⟩
  | .dict _, _, _, h, r => by
    cases h with
    | emp hs => cases r; exact ⟨_, (dict_reads I hs).1⟩
theorem Dv.readsAll (I : Inv X pins σ H s) : ∀ (ds : List PyData) (vs : List V) (us : List Value), DvAll X.K H vs ds → Vals vs us → ∃ as, ReadsAll s.heap us ds as
  | [], _, _, h, r => by cases h; cases r; exact ⟨_, ReadsAll.nil⟩
  | d :: ds, _, _, h, r => by
    cases h with
    | cons h1 h2 =>
      cases r with
      | cons r1 r2 =>
        have ⟨as, q1⟩ := Dv.reads I d _ _ h1 r1
        have ⟨bs, q2⟩ := Dv.readsAll I ds _ _ h2 r2
        exact ⟨_, ReadsAll.cons q1 q2⟩
end
end
/-! ### data hold on -/
mutual
theorem dp_mono {K : PySem.W.Frag} {H H' : Hp} (e : Ex H H') : ∀ (d : PyData) (v : V), Dv K H v d → Dv K H' v d
  | .none, _, h => by cases h; exact .non
  | .bool _, _, h => by cases h; exact .bl _
  | .int _, _, h => by cases h; exact .int _
  | .str _, _, h => by cases h; exact .str _
  | .list ds, _, h => by
    cases h with
    | lst hs ha => exact .lst (ex_l e hs) (dpAll_mono e ds _ ha)
  | .tuple ds, _, h => by
    cases h with
    | tup hs ha => exact .tup (ex_t e hs) (dpAll_mono e ds _ ha)
  | .dict _, _, h => by
    cases h with
    | emp hs => exact .emp (e _ _ hs)
theorem dpAll_mono {K : PySem.W.Frag} {H H' : Hp} (e : Ex H H') : ∀ (ds : List PyData) (vs : List V), DvAll K H vs ds → DvAll K H' vs ds
  | [], _, h => by cases h; exact .nil
  | d :: ds, _, h => by
    cases h with
    | cons h1 h2 => exact .cons (dp_mono e d _ h1) (dpAll_mono e ds _ h2)
end
section
variable {K : PySem.W.Frag} {H H' : Hp}
theorem Dv.mono {v : V} {d : PyData} (h : Dv K H v d) (e : Ex H H') : Dv K H' v d := dp_mono e d v h
theorem DvAll.mono {vs : List V} {ds : List PyData} (h : DvAll K H vs ds) (e : Ex H H') : DvAll K H' vs ds := dpAll_mono e ds vs h
theorem DvAll.length : ∀ {vs : List V} {ds : List PyData}, DvAll K H vs ds → vs.length = ds.length
  | _, _, .nil => rfl
  | _, _, .cons _ t => by simp [DvAll.length t]
theorem DvAll.app : ∀ {vs us : List V} {ds es : List PyData}, DvAll K H vs ds → DvAll K H us es → DvAll K H (vs ++ us) (ds ++ es)
  | _, _, _, _, .nil, h => h
  | _, _, _, _, .cons a t, h => .cons a (DvAll.app t h)
theorem DvAll.get : ∀ {vs : List V} {ds : List PyData} {i : Nat} {d : PyData}, DvAll K H vs ds → ds[i]? = some d → ∃ v, vs[i]? = some v ∧ Dv K H v d
  | _, _, _, _, .nil, e => by simp at e
  | _, _, 0, _, .cons a _, e => by simp at e; subst e; exact ⟨_, rfl, a⟩
  | _, _, i + 1, d, .cons _ t, e => by
    obtain ⟨v, h1, h2⟩ := DvAll.get (i := i) (d := d) t (by simpa using e)
    exact ⟨v, by simpa using h1, h2⟩
theorem DvAll.get' : ∀ {vs : List V} {ds : List PyData} {i : Nat} {v : V}, DvAll K H vs ds → vs[i]? = some v → ∃ d, ds[i]? = some d ∧ Dv K H v d
  | _, _, _, _, .nil, e => by simp at e
  | _, _, 0, _, .cons a _, e => by simp at e; subst e; exact ⟨_, rfl, a⟩
  | _, _, i + 1, d, .cons _ t, e => by
    obtain ⟨v, h1, h2⟩ := DvAll.get' (i := i) (v := d) t (by simpa using e)
    exact ⟨v, by simpa using h1, h2⟩
theorem DvAll.set : ∀ {vs : List V} {ds : List PyData} {v : V} {d : PyData} (i : Nat), DvAll K H vs ds → Dv K H v d → DvAll K H (vs.set i v) (ds.set i d)
  | _, _, _, _, _, .nil, _ => .nil
  | _, _, _, _, 0, .cons _ t, h => .cons h t
  | _, _, _, _, i + 1, .cons a t, h => .cons a (DvAll.set i t h)
theorem DvAll.take : ∀ {vs : List V} {ds : List PyData} (n : Nat), DvAll K H vs ds → DvAll K H (vs.take n) (ds.take n)
  | _, _, 0, _ => by simp; exact .nil
  | _, _, _ + 1, .nil => .nil
  | _, _, n + 1, .cons a t => .cons a (DvAll.take n t)
theorem DvAll.drop : ∀ {vs : List V} {ds : List PyData} (n : Nat), DvAll K H vs ds → DvAll K H (vs.drop n) (ds.drop n)
  | _, _, 0, r => r
  | _, _, _ + 1, .nil => .nil
  | _, _, n + 1, .cons _ t => DvAll.drop n t
theorem DvAll.rev : ∀ {vs : List V} {ds : List PyData}, DvAll K H vs ds → DvAll K H vs.reverse ds.reverse
  | _, _, .nil => .nil
  | _, _, .cons a t => by
    rw [List.reverse_cons, List.reverse_cons]
    exact (DvAll.rev t).app (.cons a .nil)
theorem DvAll.ints : ∀ (is : List Int), DvAll K H (is.map V.int) (is.map PyData.int)
  | [] => .nil
  | i :: is => .cons (.int i) (DvAll.ints is)
theorem DvAll.of_ints : ∀ (is : List Int) {vs : List V}, DvAll K H vs (is.map PyData.int) → vs = is.map V.int
  | [], _, h => by cases h; rfl
  | i :: is, _, h => by
    cases h with
    | cons a t =>
      cases a
      rw [DvAll.of_ints is t]
      rfl
theorem DvAll.of_bools : ∀ (is : List Bool) {vs : List V}, DvAll K H vs (is.map PyData.bool) → vs = is.map V.bl
  | [], _, h => by cases h; rfl
  | i :: is, _, h => by
    cases h with
    | cons a t =>
      cases a
      rw [DvAll.of_bools is t]
      rfl
end

/-! ### slots, cells, worlds -/
/-- what a name holds: data that stay as they are; a view of data (what it leans on may be another's); a cell; a plain value -/
inductive Sl where
  | dat (d : PyData)
  | vw (d : PyData)
  | cell (k : Nat)
  | raw (v : V)
/-- what may change: a list of data; a dict by ints and texts; gone -/
inductive Cell where
  | lst (ds : List PyData)
  | dct (kvs : List (Key × PyData))
  | dctT (kvs : List (List Key × PyData))
  | gone
abbrev Rho := List (Option Sl)
abbrev Mu := List Cell
structure Wd where
  G : Hp
  F : Hp
  ad : List Addr
structure Le (W W' : Wd) : Prop where
  g : Ex W.G W'.G
  f : Ex W.F W'.F
  n : ∀ b, W.F b ≠ none → W.G b = none → (∀ xs, W.F b ≠ some (.tup xs)) → W'.G b = none
  a : ∀ (k : Nat) (x : Addr), W.ad[k]? = some x → W'.ad[k]? = some x
theorem Le.refl (W : Wd) : Le W W := ⟨Ex.refl _, Ex.refl _, fun _ _ h _ => h, fun _ _ h => h⟩
theorem Le.trans {W W1 W2 : Wd} (a : Le W W1) (b : Le W1 W2) : Le W W2 :=
  ⟨a.g.trans b.g, a.f.trans b.f, fun x h1 h2 h3 => b.n x (fun z => by
      cases q : W.F x with
      | none => exact h1 q
      | some o => rw [a.f x o q] at z; cases z) (a.n x h1 h2 h3) (fun xs z => by
      cases q : W.F x with
      | none => exact h1 q
      | some o => rw [a.f x o q] at z; cases z; exact h3 xs q), fun k x h => b.a k x (a.a k x h)⟩
def CellOk (K : PySem.W.Frag) (G : Hp) : HO → Cell → Prop
  | .lst xs, .lst ds => DvAll K G xs ds
  | .dK kvs, .dct es => Paired (fun (p : Key × V) (q : Key × PyData) => p.1 = q.1 ∧ Dv K G p.2 q.2) kvs es
  | .dT kvs, .dctT es => Paired (fun (p : List Key × V) (q : List Key × PyData) => p.1 = q.1 ∧ Dv K G p.2 q.2) kvs es
  | _, .gone => False
  | _, _ => False
theorem CellOk.mono {K : PySem.W.Frag} {G G' : Hp} (e : Ex G G') {o : HO} {c : Cell} (h : CellOk K G o c) : CellOk K G' o c := by
  cases c with
  | gone => cases o <;> exact False.elim h
  | lst ds => cases o <;> first | exact DvAll.mono (show DvAll K G _ ds from h) e | exact False.elim h
  | dct es => cases o <;> first | exact Paired.mapP (show Paired _ _ es from h) (fun p q z => ⟨z.1, z.2.mono e⟩) | exact False.elim h
  | dctT es => cases o <;> first | exact Paired.mapP (show Paired _ _ es from h) (fun p q z => ⟨z.1, z.2.mono e⟩) | exact False.elim h
structure Rep (K : PySem.W.Frag) (W : Wd) (H : Hp) (μ : Mu) : Prop where
  gf : Ex W.G W.F
  fh : Ex W.F H
  len : W.ad.length = μ.length
  nd : ∀ (i j : Nat) (a : Addr), W.ad[i]? = some a → W.ad[j]? = some a → i = j
  cell : ∀ (k : Nat) (a : Addr) (c : Cell), W.ad[k]? = some a → μ[k]? = some c → W.F a = none ∧ ∃ o, H a = some o ∧ CellOk K W.G o c
theorem Rep.gh {K : PySem.W.Frag} {W : Wd} {H : Hp} {μ : Mu} (r : Rep K W H μ) : Ex W.G H := r.gf.trans r.fh
def SlOk (K : PySem.W.Frag) (W : Wd) (v : V) : Sl → Prop
  | .dat d => Dv K W.G v d
  | .vw d => Dv K W.F v d
  | .cell k => ∃ a, W.ad[k]? = some a ∧ v = .ref a
  | .raw w => v = w
theorem SlOk.mono {K : PySem.W.Frag} {W W' : Wd} (l : Le W W') {v : V} {s : Sl} (h : SlOk K W v s) : SlOk K W' v s := by
  cases s with
  | dat d => exact Dv.mono (show Dv K W.G v d from h) l.g
  | vw d => exact Dv.mono (show Dv K W.F v d from h) l.f
  | cell k => obtain ⟨a, h1, h2⟩ := h; exact ⟨a, l.a k a h1, h2⟩
  | raw w => exact h
inductive SlAll (K : PySem.W.Frag) (W : Wd) : List V → List Sl → Prop
  | nil : SlAll K W [] []
  | cons {v : V} {vs : List V} {s : Sl} {ss : List Sl} : SlOk K W v s → SlAll K W vs ss → SlAll K W (v :: vs) (s :: ss)
theorem SlAll.mono {K : PySem.W.Frag} {W W' : Wd} (l : Le W W') : ∀ {vs : List V} {ss : List Sl}, SlAll K W vs ss → SlAll K W' vs ss
  | _, _, .nil => .nil
  | _, _, .cons a t => .cons (a.mono l) (SlAll.mono l t)
theorem SlAll.length {K : PySem.W.Frag} {W : Wd} : ∀ {vs : List V} {ss : List Sl}, SlAll K W vs ss → vs.length = ss.length
  | _, _, .nil => rfl
  | _, _, .cons _ t => by simp [SlAll.length t]
theorem SlAll.get {K : PySem.W.Frag} {W : Wd} : ∀ {vs : List V} {ss : List Sl} {i : Nat} {s : Sl}, SlAll K W vs ss → ss[i]? = some s → ∃ v, vs[i]? = some v ∧ SlOk K W v s
  | _, _, _, _, .nil, e => by simp at e
  | _, _, 0, _, .cons a _, e => by simp at e; subst e; exact ⟨_, rfl, a⟩
  | _, _, i + 1, d, .cons _ t, e => by
    obtain ⟨v, h1, h2⟩ := SlAll.get (i := i) (s := d) t (by simpa using e)
    exact ⟨v, by simpa using h1, h2⟩
structure EnvOk (K : PySem.W.Frag) (W : Wd) (σ : L2.St) (ρ : Rho) : Prop where
  len : σ.length = ρ.length
  get : ∀ (i : Nat) (s : Sl), ρ[i]? = some (some s) → ∃ v, σ[i]? = some (some v) ∧ SlOk K W v s
theorem EnvOk.mono {K : PySem.W.Frag} {W W' : Wd} {σ : L2.St} {ρ : Rho} (h : EnvOk K W σ ρ) (l : Le W W') : EnvOk K W' σ ρ :=
  ⟨h.len, fun i s e => let ⟨v, h1, h2⟩ := h.get i s e; ⟨v, h1, h2.mono l⟩⟩
theorem EnvOk.set {K : PySem.W.Frag} {W : Wd} {σ : L2.St} {ρ : Rho} (h : EnvOk K W σ ρ) (i : Nat) {v : V} {s : Sl} (hs : SlOk K W v s) : EnvOk K W (σ.set i (some v)) (ρ.set i (some s)) := by
  refine ⟨by simp [h.len], fun j t e => ?_⟩
  by_cases hij : i = j
  · subst hij
    have hl : i < ρ.length := by
      have := (List.getElem?_eq_some_iff.mp e).1
      simpa using this
    rw [List.getElem?_set_self hl] at e
    cases e
    refine ⟨v, ?_, hs⟩
    rw [List.getElem?_set_self (by rw [h.len]; exact hl)]
  · rw [List.getElem?_set_ne hij] at e
    obtain ⟨w, h1, h2⟩ := h.get j t e
    refine ⟨w, ?_, h2⟩
    rw [List.getElem?_set_ne hij]
    exact h1

/-! ### reading -/
def rdC : Option Cell → Option PyData
  | some (.lst ds) => some (.list ds)
  | _ => none
def rd (μ : Mu) : Sl → Option PyData
  | .dat d => some d
  | .vw d => some d
  | .cell k => rdC μ[k]?
  | .raw _ => none
def mkVw : PyData → Sl
  | .none => .dat .none
  | .bool b => .dat (.bool b)
  | .int i => .dat (.int i)
  | .str z => .dat (.str z)
  | d => .vw d
def isV : Sl → Bool
  | .vw _ => true
  | _ => false
/-- data, or a view of data -/
def mk (b : Bool) (d : PyData) : Sl := if b then mkVw d else .dat d
/-- an item of what a slot holds -/
def elt (s : Sl) (d : PyData) : Sl := mk (isV s) d
def bh (W : Wd) (b : Bool) : Hp := if b then W.F else W.G
theorem slOk_mkVw {K : PySem.W.Frag} {W : Wd} {v : V} {d : PyData} (h : Dv K W.F v d) : SlOk K W v (mkVw d) := by
  cases d with
  | none => cases h; exact Dv.non
  | bool b => cases h; exact Dv.bl b
  | int i => cases h; exact Dv.int i
  | str z => cases h; exact Dv.str z
  | list ds => exact h
  | tuple ds => exact h
  | dict kvs => exact h
section
variable {K : PySem.W.Frag} {W : Wd} {H : Hp} {μ : Mu} {v : V} {s : Sl} {d : PyData}
theorem rd_dp (r : Rep K W H μ) (h : SlOk K W v s) (e : rd μ s = some d) : Dv K H v d := by
  cases s with
  | dat d' => cases e; exact Dv.mono (show Dv K W.G v _ from h) r.gh
  | vw d' => cases e; exact Dv.mono (show Dv K W.F v _ from h) r.fh
  | raw w => cases e
  | cell k =>
    obtain ⟨a, h1, rfl⟩ := h
    replace e : rdC μ[k]? = _ := e
    cases q : μ[k]? with
    | none => rw [q] at e; cases e
    | some c =>
      rw [q] at e
      cases c with
      | lst ds =>
        cases e
        obtain ⟨_, o, ho, hc⟩ := r.cell k a _ h1 q
        cases o <;> first | exact False.elim hc | skip
        exact .lst (.inl (.inl ho)) (DvAll.mono hc r.gh)
      | dct es => cases e
      | dctT es => cases e
      | gone => cases e
theorem slOk_mk {b : Bool} (h : Dv K (bh W b) v d) : SlOk K W v (mk b d) := by
  cases b with
  | true => exact slOk_mkVw h
  | false => exact h
theorem bh_ff {b : Bool} (e : Ex W.G W.F) : Ex (bh W b) W.F := by
  cases b with
  | true => exact Ex.refl _
  | false => exact e
theorem bh_or1 {b c : Bool} (e : Ex W.G W.F) : Ex (bh W b) (bh W (b || c)) := by
  cases b with
  | true => exact Ex.refl _
  | false =>
    cases c with
    | true => exact e
    | false => exact Ex.refl _
theorem bh_or2 {b c : Bool} (e : Ex W.G W.F) : Ex (bh W c) (bh W (b || c)) := by
  rw [Bool.or_comm]
  exact bh_or1 e
theorem bh_le {W' : Wd} (l : Le W W') (b : Bool) : Ex (bh W b) (bh W' b) := by
  cases b with
  | true => exact l.f
  | false => exact l.g
/-- the items of a list, of a tuple: where they stand, as slots -/
def Its (K : PySem.W.Frag) (W : Wd) (s : Sl) (xs : List V) (ds : List PyData) : Prop := DvAll K (bh W (isV s)) xs ds
theorem Its.get {xs : List V} {ds : List PyData} {i : Nat} (h : Its K W s xs ds) (e : ds[i]? = some d) : ∃ v, xs[i]? = some v ∧ SlOk K W v (elt s d) := by
  obtain ⟨v, h1, h2⟩ := DvAll.get h e
  exact ⟨v, h1, slOk_mk h2⟩
theorem Its.length {xs : List V} {ds : List PyData} (h : Its K W s xs ds) : xs.length = ds.length := DvAll.length h
theorem Its.mono {W' : Wd} (l : Le W W') {xs : List V} {ds : List PyData} (h : Its K W s xs ds) : Its K W' s xs ds := DvAll.mono h (bh_le l _)
theorem rd_lst {ds : List PyData} (r : Rep K W H μ) (h : SlOk K W v s) (e : rd μ s = some (.list ds)) : ∃ a xs, v = .ref a ∧ SqL K H a xs ∧ Its K W s xs ds := by
  cases s with
  | dat d' =>
    cases e
    cases (show Dv K W.G v (.list ds) from h) with
    | lst hs ha => exact ⟨_, _, rfl, ex_l r.gh hs, ha⟩
  | vw d' =>
    cases e
    cases (show Dv K W.F v (.list ds) from h) with
    | lst hs ha => exact ⟨_, _, rfl, ex_l r.fh hs, ha⟩
  | raw w => cases e
  | cell k =>
    obtain ⟨a, h1, rfl⟩ := h
    replace e : rdC μ[k]? = _ := e
    cases q : μ[k]? with
    | none => rw [q] at e; cases e
    | some c =>
      rw [q] at e
      cases c with
      | lst ds' =>
        cases e
        obtain ⟨_, o, ho, hc⟩ := r.cell k a _ h1 q
        cases o <;> first | exact False.elim hc | skip
        exact ⟨a, _, rfl, .inl (.inl ho), hc⟩
      | dct es => cases e
      | dctT es => cases e
      | gone => cases e
theorem rd_tup {ds : List PyData} (r : Rep K W H μ) (h : SlOk K W v s) (e : rd μ s = some (.tuple ds)) : ∃ a xs, v = .ref a ∧ SqT K H a xs ∧ Its K W s xs ds := by
  cases s with
  | dat d' =>
    cases e
    cases (show Dv K W.G v (.tuple ds) from h) with
    | tup hs ha => exact ⟨_, _, rfl, ex_t r.gh hs, ha⟩
  | vw d' =>
    cases e
    cases (show Dv K W.F v (.tuple ds) from h) with
    | tup hs ha => exact ⟨_, _, rfl, ex_t r.fh hs, ha⟩
  | raw w => cases e
  | cell k =>
    replace e : rdC μ[k]? = _ := e
    cases q : μ[k]? with
    | none => rw [q] at e; cases e
    | some c => rw [q] at e; cases c <;> cases e
theorem rd_int {i : Int} (r : Rep K W H μ) (h : SlOk K W v s) (e : rd μ s = some (.int i)) : v = .int i := by cases rd_dp r h e; rfl
theorem rd_bool {i : Bool} (r : Rep K W H μ) (h : SlOk K W v s) (e : rd μ s = some (.bool i)) : v = .bl i := by cases rd_dp r h e; rfl
theorem rd_str {i : Str} (r : Rep K W H μ) (h : SlOk K W v s) (e : rd μ s = some (.str i)) : v = .str i := by cases rd_dp r h e; rfl
theorem rd_none (r : Rep K W H μ) (h : SlOk K W v s) (e : rd μ s = some .none) : v = .non := by cases rd_dp r h e; rfl
end

/-! ### a new object of data -/
def Wd.new (W : Wd) (p : Addr) (o : HO) : Wd := ⟨upd W.G p o, upd W.F p o, W.ad⟩
section
variable {K : PySem.W.Frag} {W : Wd} {H : Hp} {μ : Mu} {p : Addr} {o : HO}
theorem Rep.fresh (r : Rep K W H μ) (hp : H p = none) : W.F p = none ∧ W.G p = none := by
  have h1 := fresh_back r.fh hp
  exact ⟨h1, fresh_back r.gf h1⟩
theorem Le.new (r : Rep K W H μ) (hp : H p = none) : Le W (W.new p o) := by
  obtain ⟨h1, h2⟩ := r.fresh hp
  refine ⟨Ex.new h2, Ex.new h1, fun b hb hg _ => ?_, fun _ _ h => h⟩
  show upd W.G p o b = none
  rw [upd_ne (show b ≠ p from fun z => hb (z ▸ h1))]
  exact hg
theorem ex_upd {A B : Hp} (e : Ex A B) : Ex (upd A p o) (upd B p o) := fun a u h => by
  by_cases q : a = p
  · subst q; rw [upd_same] at h ⊢; exact h
  · rw [upd_ne q] at h ⊢; exact e a u h
theorem Rep.new (r : Rep K W H μ) (hp : H p = none) : Rep K (W.new p o) (upd H p o) μ := by
  obtain ⟨h1, h2⟩ := r.fresh hp
  refine ⟨ex_upd r.gf, ex_upd r.fh, r.len, r.nd, fun k a c ha hc => ?_⟩
  obtain ⟨q1, o', q2, q3⟩ := r.cell k a c ha hc
  have ne : a ≠ p := fun z => by rw [z, hp] at q2; cases q2
  refine ⟨?_, o', ?_, q3.mono (Ex.new h2)⟩
  · show upd W.F p o a = none
    rw [upd_ne ne]; exact q1
  · rw [upd_ne ne]; exact q2
end
end DL
namespace DL
open PySem PySem.Spec PyProof.Rows L2 Evl

abbrev DQ := Sl → Mu → Prop
abbrev DE := Rho → Mu → DQ → Prop
abbrev DT := Rho → Mu → (Bool → Mu → Prop) → Prop
abbrev DA := Rho → Mu → (List Sl → Mu → Prop) → Prop
structure DEnds where
  nx : Rho → Mu → Prop
  rt : Sl → Mu → Prop
  bk : Rho → Mu → Prop := fun _ _ => False
  ct : Rho → Mu → Prop := fun _ _ => False
abbrev DS := DEnds → Rho → Mu → Prop

section
variable (K : PySem.W.Frag)
def VOk (W : Wd) (Q' : DQ) (Q : VK) : Prop := ∀ v s W' H' μ', Le W W' → Rep K W' H' μ' → SlOk K W' v s → Q' s μ' → Q v H'
def BOk (W : Wd) (Q' : Bool → Mu → Prop) (Q : Bool → Hp → Prop) : Prop := ∀ b W' H' μ', Le W W' → Rep K W' H' μ' → Q' b μ' → Q b H'
def AOk (W : Wd) (Q' : List Sl → Mu → Prop) (Q : List V → Hp → Prop) : Prop := ∀ vs ss W' H' μ', Le W W' → Rep K W' H' μ' → SlAll K W' vs ss → Q' ss μ' → Q vs H'
def NOk (W : Wd) (Q' : Rho → Mu → Prop) (Q : L2.St → Hp → Prop) : Prop := ∀ σ' ρ' W' H' μ', Le W W' → Rep K W' H' μ' → EnvOk K W' σ' ρ' → Q' ρ' μ' → Q σ' H'
structure EndsOk (W : Wd) (D' : DEnds) (D : Ends) : Prop where
  nx : NOk K W D'.nx D.nx
  rt : VOk K W D'.rt D.rt
  bk : NOk K W D'.bk D.bk
  ct : NOk K W D'.ct D.ct
def LE (t : TE) (d : DE) : Prop := ∀ ρ μ Q', d ρ μ Q' → ∀ W σ H, EnvOk K W σ ρ → Rep K W H μ → ∀ Q : VK, VOk K W Q' Q → t σ H Q
def LT (t : TT) (d : DT) : Prop := ∀ ρ μ Q', d ρ μ Q' → ∀ W σ H, EnvOk K W σ ρ → Rep K W H μ → ∀ Q : Bool → Hp → Prop, BOk K W Q' Q → t σ H Q
def LA (t : TA) (d : DA) : Prop := ∀ ρ μ Q', d ρ μ Q' → ∀ W σ H, EnvOk K W σ ρ → Rep K W H μ → ∀ Q : List V → Hp → Prop, AOk K W Q' Q → t σ H Q
def LS (t : TS) (d : DS) : Prop := ∀ D' ρ μ, d D' ρ μ → ∀ W σ H, EnvOk K W σ ρ → Rep K W H μ → ∀ D : Ends, EndsOk K W D' D → t D σ H
end
section
variable {K : PySem.W.Frag} {W W' : Wd}
theorem VOk.le (l : Le W W') {Q' : DQ} {Q : VK} (h : VOk K W Q' Q) : VOk K W' Q' Q := fun v s W2 H2 μ2 l2 => h v s W2 H2 μ2 (l.trans l2)
theorem BOk.le (l : Le W W') {Q' : Bool → Mu → Prop} {Q : Bool → Hp → Prop} (h : BOk K W Q' Q) : BOk K W' Q' Q := fun b W2 H2 μ2 l2 => h b W2 H2 μ2 (l.trans l2)
theorem AOk.le (l : Le W W') {Q' : List Sl → Mu → Prop} {Q : List V → Hp → Prop} (h : AOk K W Q' Q) : AOk K W' Q' Q := fun v s W2 H2 μ2 l2 => h v s W2 H2 μ2 (l.trans l2)
theorem NOk.le (l : Le W W') {Q' : Rho → Mu → Prop} {Q : L2.St → Hp → Prop} (h : NOk K W Q' Q) : NOk K W' Q' Q := fun v s W2 H2 μ2 l2 => h v s W2 H2 μ2 (l.trans l2)
theorem EndsOk.le (l : Le W W') {D' : DEnds} {D : Ends} (h : EndsOk K W D' D) : EndsOk K W' D' D := ⟨h.nx.le l, h.rt.le l, h.bk.le l, h.ct.le l⟩
end

structure PD (X : Cx) (e : Expr) (d : DE) : Prop where
  ex : ∃ t, PE X e t ∧ LE X.K t d
structure PDT (X : Cx) (e : Expr) (d : DT) : Prop where
  ex : ∃ t, PT X e t ∧ LT X.K t d
structure PDW (X : Cx) (e : Expr) (d : DT) : Prop where
  ex : ∃ t, PW X e t ∧ LT X.K t d
structure PDA (X : Cx) (es : List Expr) (d : DA) : Prop where
  ex : ∃ t, PA X es t ∧ LA X.K t d
structure PDS (X : Cx) (st : Stmt) (d : DS) : Prop where
  ex : ∃ t, PS X st t ∧ LS X.K t d
structure PDSs (X : Cx) (st : List Stmt) (d : DS) : Prop where
  ex : ∃ t, PSs X st t ∧ LS X.K t d

/-! ### values made -/
section
variable {K : PySem.W.Frag} {W : Wd} {H : Hp} {μ : Mu} {Q' : DQ} {Q : VK}
theorem VOk.dat (h : VOk K W Q' Q) (r : Rep K W H μ) {v : V} {d : PyData} (hd : Dv K W.G v d) (q : Q' (.dat d) μ) : Q v H := h v (.dat d) W H μ (Le.refl W) r hd q
theorem VOk.int (h : VOk K W Q' Q) (r : Rep K W H μ) {i : Int} (q : Q' (.dat (.int i)) μ) : Q (.int i) H := h.dat r (.int i) q
theorem VOk.bl (h : VOk K W Q' Q) (r : Rep K W H μ) {i : Bool} (q : Q' (.dat (.bool i)) μ) : Q (.bl i) H := h.dat r (.bl i) q
theorem VOk.str (h : VOk K W Q' Q) (r : Rep K W H μ) {i : Str} (q : Q' (.dat (.str i)) μ) : Q (.str i) H := h.dat r (.str i) q
theorem VOk.here (h : VOk K W Q' Q) (r : Rep K W H μ) {v : V} {s : Sl} (hs : SlOk K W v s) (q : Q' s μ) : Q v H := h v s W H μ (Le.refl W) r hs q
/-- a new tuple, a new list -/
theorem VOk.newT (h : VOk K W Q' Q) (r : Rep K W H μ) {b : Bool} {xs : List V} {ds : List PyData} (hx : DvAll K (bh W b) xs ds) (q : Q' (mk b (.tuple ds)) μ) (p : Addr) (hp : H p = none) : Q (.ref p) (upd H p (.tup xs)) := by
  refine h _ _ (W.new p (.tup xs)) _ μ (Le.new r hp) (r.new hp) (slOk_mk ?_) q
  have l : Le W (W.new p (.tup xs)) := Le.new r hp
  refine .tup (.inl (.inl ?_)) (hx.mono (bh_le l b))
  cases b with
  | true => exact upd_same
  | false => exact upd_same
theorem VOk.newL (h : VOk K W Q' Q) (r : Rep K W H μ) {b : Bool} {xs : List V} {ds : List PyData} (hx : DvAll K (bh W b) xs ds) (q : Q' (mk b (.list ds)) μ) (p : Addr) (hp : H p = none) : Q (.ref p) (upd H p (.lst xs)) := by
  refine h _ _ (W.new p (.lst xs)) _ μ (Le.new r hp) (r.new hp) (slOk_mk ?_) q
  have l : Le W (W.new p (.lst xs)) := Le.new r hp
  refine .lst (.inl (.inl ?_)) (hx.mono (bh_le l b))
  cases b with
  | true => exact upd_same
  | false => exact upd_same
/-- a new cell -/
def Wd.cellNew (W : Wd) (p : Addr) : Wd := ⟨W.G, W.F, W.ad ++ [p]⟩
theorem Le.cellNew (W : Wd) (p : Addr) : Le W (W.cellNew p) := ⟨Ex.refl _, Ex.refl _, fun _ _ h _ => h, fun k x h => by
  show (W.ad ++ [p])[k]? = some x
  rw [List.getElem?_append_left (List.getElem?_eq_some_iff.mp h).1]
  exact h⟩
theorem Rep.cellNew (r : Rep K W H μ) {p : Addr} (hp : H p = none) {o : HO} {c : Cell} (hc : CellOk K W.G o c) : Rep K (W.cellNew p) (upd H p o) (μ ++ [c]) := by
  obtain ⟨h1, h2⟩ := r.fresh hp
  refine ⟨r.gf, r.fh.trans (Ex.new hp), ?_, ?_, ?_⟩
  · show (W.ad ++ [p]).length = (μ ++ [c]).length
    rw [List.length_append, List.length_append, r.len]
    rfl
  · have old : ∀ (k : Nat), W.ad[k]? = some p → False := fun k hk => by
      have hl : k < μ.length := by rw [← r.len]; exact (List.getElem?_eq_some_iff.mp hk).1
      obtain ⟨_, o', q, _⟩ := r.cell k p _ hk (List.getElem?_eq_getElem hl)
      rw [hp] at q; cases q
    intro i j a hi hj
    have split : ∀ (k : Nat) (a : Addr), (W.ad ++ [p])[k]? = some a → (W.ad[k]? = some a) ∨ (k = W.ad.length ∧ a = p) := fun k a hk => by
      by_cases hl : k < W.ad.length
      · rw [List.getElem?_append_left hl] at hk; exact .inl hk
      · rw [List.getElem?_append_right (by omega)] at hk
        have e := (List.getElem?_eq_some_iff.mp hk).1
        have e' : k - W.ad.length = 0 := by simpa using e
        rw [e'] at hk
        exact .inr ⟨by omega, (Option.some.inj hk).symm⟩
    rcases split i a hi with q1 | ⟨q1, q2⟩
    · rcases split j a hj with q3 | ⟨q3, q4⟩
      · exact r.nd i j a q1 q3
      · subst q4; exact (old i q1).elim
    · subst q2
      rcases split j a hj with q3 | ⟨q3, q4⟩
      · exact (old j q3).elim
      · omega
  · intro k a c' ha hc'
    by_cases hl : k < W.ad.length
    · rw [show (W.cellNew p).ad = W.ad ++ [p] from rfl, List.getElem?_append_left hl] at ha
      rw [List.getElem?_append_left (by rw [← r.len]; exact hl)] at hc'
      obtain ⟨q1, o', q2, q3⟩ := r.cell k a c' ha hc'
      have ne : a ≠ p := fun z => by rw [z, hp] at q2; cases q2
      exact ⟨q1, o', by rw [upd_ne ne]; exact q2, q3⟩
    · rw [show (W.cellNew p).ad = W.ad ++ [p] from rfl, List.getElem?_append_right (by omega)] at ha
      rw [List.getElem?_append_right (by rw [← r.len]; omega)] at hc'
      have e := (List.getElem?_eq_some_iff.mp ha).1
      have e' : k - W.ad.length = 0 := by simpa using e
      rw [e'] at ha
      rw [show k - μ.length = 0 by rw [← r.len]; exact e'] at hc'
      have ea : p = a := Option.some.inj ha
      have ec : c = c' := Option.some.inj hc'
      subst ea; subst ec
      exact ⟨h1, o, upd_same, hc⟩
theorem VOk.newCell (h : VOk K W Q' Q) (r : Rep K W H μ) {xs : List V} {ds : List PyData} (hx : DvAll K W.G xs ds) (q : Q' (.cell μ.length) (μ ++ [.lst ds])) (p : Addr) (hp : H p = none) : Q (.ref p) (upd H p (.lst xs)) := by
  refine h _ (.cell μ.length) (W.cellNew p) _ (μ ++ [.lst ds]) (Le.cellNew W p) (r.cellNew hp (show CellOk K W.G (.lst xs) (.lst ds) from hx)) ⟨p, ?_, rfl⟩ q
  show (W.ad ++ [p])[μ.length]? = some p
  rw [List.getElem?_append_right (by rw [r.len]; exact Nat.le_refl _), r.len, Nat.sub_self]
  rfl
/-- a cell changes -/
theorem Rep.write (r : Rep K W H μ) {k : Nat} {a : Addr} (ha : W.ad[k]? = some a) {o : HO} {c : Cell} (hc : CellOk K W.G o c) : Rep K W (upd H a o) (μ.set k c) := by
  have hk : k < μ.length := by rw [← r.len]; exact (List.getElem?_eq_some_iff.mp ha).1
  obtain ⟨q1, o1, q2, _⟩ := r.cell k a _ ha (List.getElem?_eq_getElem hk)
  refine ⟨r.gf, Ex.mut r.fh q1, by rw [List.length_set]; exact r.len, r.nd, fun j b c' hb hc' => ?_⟩
  by_cases hj : k = j
  · subst hj
    rw [ha] at hb; cases hb
    rw [List.getElem?_set_self hk] at hc'; cases hc'
    exact ⟨q1, o, upd_same, hc⟩
  · rw [List.getElem?_set_ne hj] at hc'
    obtain ⟨q3, o3, q4, q5⟩ := r.cell j b c' hb hc'
    have ne : b ≠ a := fun z => hj (r.nd k j a ha (z ▸ hb))
    exact ⟨q3, o3, by rw [upd_ne ne]; exact q4, q5⟩
end

/-! ### names, constants -/
section
variable {X : Cx} {K : PySem.W.Frag}
def dVar (i : Nat) : DE := fun ρ μ Q => match ρ[i]? with
  | some (some s) => Q s μ
  | _ => False
def dC (d : PyData) : DE := fun _ μ Q => Q (.dat d) μ
theorem le_var (i : Nat) : LE K (tVar i) (dVar i) := fun ρ μ Q' h W σ H he r Q q => by
  unfold dVar at h
  cases e : ρ[i]? with
  | none => rw [e] at h; exact h.elim
  | some o =>
    rw [e] at h
    cases o with
    | none => exact h.elim
    | some s =>
      obtain ⟨v, h1, h2⟩ := he.get i s e
      exact ⟨v, h1, q.here r h2 h⟩
theorem pd_var (i : Nat) {x : Str} {pos : Pos} (hN : X.N[i]? = some x := by rfl) (hv : Vis X.env.scope x := by first | exact Or.inl rfl | exact Or.inr (Or.inl rfl) | exact Or.inr (Or.inr rfl)) (hd : (x == ("__debug__" : Str)) = false := by decide)
    (hcd : (x == ("__classdict__" : Str)) = false := by decide) : PD X (.Name x pos) (dVar i) := ⟨_, pe_var hN hv hd hcd, le_var i⟩
theorem le_c {v : V} {d : PyData} (hd : ∀ G, Dv K G v d) : LE K (tC v) (dC d) := fun ρ μ Q' h W σ H he r Q q => q.dat r (hd _) h
theorem pd_int {i : Int} {j pos} : PD X (.Constant (.int i) j pos) (dC (.int i)) := ⟨_, pe_int, le_c fun _ => .int i⟩
theorem pd_bl {b : Bool} {j pos} : PD X (.Constant (.bool b) j pos) (dC (.bool b)) := ⟨_, pe_bl, le_c fun _ => .bl b⟩
theorem pd_non {j pos} : PD X (.Constant .none j pos) (dC .none) := ⟨_, pe_non, le_c fun _ => .non⟩
theorem pd_str {x : String} {j pos} : PD X (.Constant (.str x) j pos) (dC (.str x)) := ⟨_, pe_str, le_c fun _ => .str _⟩
/-- a module's constant -/
theorem pd_glob {x : Str} {v : V} {u : Value} {d : PyData} {pos : Pos} (hg : Gl X x) (hm : X.mg x = some u) (r : RelV v u) (hd : ∀ G, Dv X.K G v d) (hdb : (x == ("__debug__" : Str)) = false := by decide) : PD X (.Name x pos) (dC d) :=
  ⟨_, pe_glob hg hm r hdb, le_c hd⟩
end

/-! ### arguments -/
section
variable {X : Cx} {K : PySem.W.Frag}
def aNil : DA := fun _ μ Q => Q [] μ
def aCons (d : DE) (a : DA) : DA := fun ρ μ Q => d ρ μ fun s μ1 => a ρ μ1 fun ss μ2 => Q (s :: ss) μ2
theorem la_nil : LA K tNil aNil := fun ρ μ Q' h W σ H he r Q q => q [] [] W H μ (Le.refl W) r .nil h
theorem la_cons {te : TE} {ta : TA} {d : DE} {a : DA} (h1 : LE K te d) (h2 : LA K ta a) : LA K (tCons te ta) (aCons d a) := fun ρ μ Q' h W σ H he r Q q =>
  h1 ρ μ _ h W σ H he r _ fun v s W1 H1 μ1 l1 r1 hs h' => h2 ρ μ1 _ h' W1 σ H1 (he.mono l1) r1 _ fun vs ss W2 H2 μ2 l2 r2 hss h'' =>
    q (v :: vs) (s :: ss) W2 H2 μ2 (l1.trans l2) r2 (.cons (hs.mono l2) hss) h''
theorem pda_nil : PDA X [] aNil := ⟨_, pa_nil, la_nil⟩
theorem pda_cons {e : Expr} {es : List Expr} {d : DE} {a : DA} (h1 : PD X e d) (h2 : PDA X es a) (hs : starEach (e :: es) X.env = (false, eval e X.env) :: starEach es X.env := by rfl) : PDA X (e :: es) (aCons d a) := by
  obtain ⟨t1, p1, l1⟩ := h1
  obtain ⟨t2, p2, l2⟩ := h2
  exact ⟨_, pa_cons p1 p2 hs, la_cons l1 l2⟩
end

/-! ### operators by slots -/
abbrev DR2 := Sl → Sl → Mu → DQ → Prop
abbrev DR1 := Sl → Mu → DQ → Prop
abbrev DRA := List Sl → Mu → DQ → Prop
def LR2 (K : PySem.W.Frag) (r : R2) (d : DR2) : Prop := ∀ x y μ Q', d x y μ Q' → ∀ W H vx vy, Rep K W H μ → SlOk K W vx x → SlOk K W vy y → ∀ Q : VK, VOk K W Q' Q → r vx vy H Q
def LR1 (K : PySem.W.Frag) (r : V → Hp → VK → Prop) (d : DR1) : Prop := ∀ x μ Q', d x μ Q' → ∀ W H vx, Rep K W H μ → SlOk K W vx x → ∀ Q : VK, VOk K W Q' Q → r vx H Q
def LRA (K : PySem.W.Frag) (r : List V → Hp → VK → Prop) (d : DRA) : Prop := ∀ xs μ Q', d xs μ Q' → ∀ W H vs, Rep K W H μ → SlAll K W vs xs → ∀ Q : VK, VOk K W Q' Q → r vs H Q
section
variable {X : Cx} {K : PySem.W.Frag} {a b : Expr} {pos : Pos}
def dOp (r : DR2) (da db : DE) : DE := fun ρ μ Q => da ρ μ fun x μ1 => db ρ μ1 fun y μ2 => r x y μ2 Q
def dUn (r : DR1) (da : DE) : DE := fun ρ μ Q => da ρ μ fun x μ1 => r x μ1 Q
def dCB (r : DRA) (da : DA) : DE := fun ρ μ Q => da ρ μ fun xs μ1 => r xs μ1 Q
theorem le_op {r : R2} {d : DR2} {ta tb : TE} {da db : DE} (hr : LR2 K r d) (ha : LE K ta da) (hb : LE K tb db) : LE K (tOp r ta tb) (dOp d da db) := fun ρ μ Q' h W σ H he rp Q q =>
  ha ρ μ _ h W σ H he rp _ fun vx x W1 H1 μ1 l1 r1 hx h1 => hb ρ μ1 _ h1 W1 σ H1 (he.mono l1) r1 _ fun vy y W2 H2 μ2 l2 r2 hy h2 =>
    hr x y μ2 Q' h2 W2 H2 vx vy r2 (hx.mono l2) hy Q (q.le (l1.trans l2))
theorem le_un {r : V → Hp → VK → Prop} {d : DR1} {ta : TE} {da : DE} (hr : LR1 K r d) (ha : LE K ta da) : LE K (tUn r ta) (dUn d da) := fun ρ μ Q' h W σ H he rp Q q =>
  ha ρ μ _ h W σ H he rp _ fun vx x W1 H1 μ1 l1 r1 hx h1 => hr x μ1 Q' h1 W1 H1 vx r1 hx Q (q.le l1)
theorem le_cb {r : List V → Hp → VK → Prop} {d : DRA} {ta : TA} {da : DA} (hr : LRA K r d) (ha : LA K ta da) : LE K (tCB r ta) (dCB d da) := fun ρ μ Q' h W σ H he rp Q q =>
  ha ρ μ _ h W σ H he rp _ fun vs xs W1 H1 μ1 l1 r1 hx h1 => hr xs μ1 Q' h1 W1 H1 vs r1 hx Q (q.le l1)
theorem pd_op {op : Operator} {r : R2} {d : DR2} {da db : DE} (ho : OpR X (binaryOp op) r) (hr : LR2 X.K r d) (ha : PD X a da) (hb : PD X b db) : PD X (.BinOp a op b pos) (dOp d da db) := by
  obtain ⟨ta, p1, l1⟩ := ha
  obtain ⟨tb, p2, l2⟩ := hb
  exact ⟨_, pe_op ho p1 p2, le_op hr l1 l2⟩
theorem pd_un {op : UnaryOp} {r : V → Hp → VK → Prop} {d : DR1} {da : DE} (ho : UnR X (unaryOp op) r) (hr : LR1 X.K r d) (ha : PD X a da) : PD X (.UnaryOp op a pos) (dUn d da) := by
  obtain ⟨ta, p1, l1⟩ := ha
  exact ⟨_, pe_un ho p1, le_un hr l1⟩
theorem pd_cmp {op : CmpOp} {r : R2} {d : DR2} {da db : DE} (ho : OpR X (compareOp op) r) (hr : LR2 X.K r d) (ha : PD X a da) (hb : PD X b db) (hm : behindInMarks op b = false) : PD X (.Compare a [op] [b] pos) (dOp d da db) := by
  obtain ⟨ta, p1, l1⟩ := ha
  obtain ⟨tb, p2, l2⟩ := hb
  exact ⟨_, pe_cmpR ho p1 p2 hm, le_op hr l1 l2⟩
/-- a value that is a bool, as a test -/
def dTest (d : DE) : DT := fun ρ μ Q => d ρ μ fun x μ1 => match x with
  | .dat (.bool b) => Q b μ1
  | _ => False
theorem lt_test {t : TE} {d : DE} (h : LE K t d) : LT K (tTest t) (dTest d) := fun ρ μ Q' hd W σ H he rp Q q =>
  h ρ μ _ hd W σ H he rp _ fun vx x W1 H1 μ1 l1 r1 hx h1 => by
    cases x with
    | dat d' =>
      cases d' with
      | bool b =>
        cases (show Dv K W1.G vx (.bool b) from hx)
        exact ⟨b, rfl, q b W1 H1 μ1 l1 r1 h1⟩
      | _ => exact False.elim h1
    | _ => exact False.elim h1
theorem lt_B {t : TE} {d : DE} (h : LE K t d) : LT K (tB t) (dTest d) := fun ρ μ Q' hd W σ H he rp Q q =>
  h ρ μ _ hd W σ H he rp _ fun vx x W1 H1 μ1 l1 r1 hx h1 => by
    cases x with
    | dat d' =>
      cases d' with
      | bool b =>
        cases (show Dv K W1.G vx (.bool b) from hx)
        exact ⟨b, rfl, q b W1 H1 μ1 l1 r1 h1⟩
      | _ => exact False.elim h1
    | _ => exact False.elim h1
theorem pdt_cmp {op : CmpOp} {r : R2} {d : DR2} {da db : DE} (ho : OpR X (compareOp op) r) (hr : LR2 X.K r d) (ha : PD X a da) (hb : PD X b db) (hm : behindInMarks op b = false) : PDT X (.Compare a [op] [b] pos) (dTest (dOp d da db)) := by
  obtain ⟨ta, p1, l1⟩ := ha
  obtain ⟨tb, p2, l2⟩ := hb
  exact ⟨_, pt_cmpR ho p1 p2 hm, lt_test (le_op hr l1 l2)⟩
/-- a op b op' c -/
def dChain (r r' : DR2) (da db dc : DE) : DE := fun ρ μ Q => da ρ μ fun x μ1 => db ρ μ1 fun y μ2 => r x y μ2 fun z μ3 => match z with
  | .dat (.bool k) => if k = true then dc ρ μ3 (fun w μ4 => r' y w μ4 Q) else Q (.dat (.bool false)) μ3
  | _ => False
theorem le_chain {r r' : R2} {d d' : DR2} {ta tb tc : TE} {da db dc : DE} (hr : LR2 K r d) (hr' : LR2 K r' d') (ha : LE K ta da) (hb : LE K tb db) (hc : LE K tc dc) : LE K (tChain r r' ta tb tc) (dChain d d' da db dc) := fun ρ μ Q' h W σ H he rp Q q =>
  ha ρ μ _ h W σ H he rp _ fun vx x W1 H1 μ1 l1 r1 hx h1 => hb ρ μ1 _ h1 W1 σ H1 (he.mono l1) r1 _ fun vy y W2 H2 μ2 l2 r2 hy h2 =>
    hr x y μ2 _ h2 W2 H2 vx vy r2 (hx.mono l2) hy _ fun vz z W3 H3 μ3 l3 r3 hz h3 => by
      cases z with
      | dat d' =>
        cases d' with
        | bool b =>
          cases (show Dv K W3.G vz (.bool b) from hz)
          refine ⟨b, rfl, ?_⟩
          cases b with
          | true =>
            exact hc ρ μ3 _ h3 W3 σ H3 (he.mono ((l1.trans l2).trans l3)) r3 _ fun vw w W4 H4 μ4 l4 r4 hw h4 =>
              hr' y w μ4 Q' h4 W4 H4 vy vw r4 ((hy.mono l3).mono l4) hw Q (q.le (((l1.trans l2).trans l3).trans l4))
          | false => exact (q.le ((l1.trans l2).trans l3)).bl r3 h3
        | _ => exact False.elim h3
      | _ => exact False.elim h3
theorem pdt_chain {c : Expr} {op op' : CmpOp} {r r' : R2} {d d' : DR2} {da db dc : DE} (ho : OpR X (compareOp op) r) (ho' : OpR X (compareOp op') r') (hr : LR2 X.K r d) (hr' : LR2 X.K r' d') (ha : PD X a da) (hb : PD X b db) (hc : PD X c dc)
    (hm : lastMarks [op, op'] [b, c] = false := by with_unfolding_all rfl) : PDT X (.Compare a [op, op'] [b, c] pos) (dTest (dChain d d' da db dc)) := by
  obtain ⟨ta, p1, l1⟩ := ha
  obtain ⟨tb, p2, l2⟩ := hb
  obtain ⟨tc, p3, l3⟩ := hc
  exact ⟨_, pt_chain ho ho' p1 p2 p3 hm, lt_test (le_chain hr hr' l1 l2 l3)⟩
theorem pd_chain {c : Expr} {op op' : CmpOp} {r r' : R2} {d d' : DR2} {da db dc : DE} (ho : OpR X (compareOp op) r) (ho' : OpR X (compareOp op') r') (hr : LR2 X.K r d) (hr' : LR2 X.K r' d') (ha : PD X a da) (hb : PD X b db) (hc : PD X c dc)
    (hm : lastMarks [op, op'] [b, c] = false := by with_unfolding_all rfl) : PD X (.Compare a [op, op'] [b, c] pos) (dChain d d' da db dc) := by
  obtain ⟨ta, p1, l1⟩ := ha
  obtain ⟨tb, p2, l2⟩ := hb
  obtain ⟨tc, p3, l3⟩ := hc
  exact ⟨_, pe_chain ho ho' p1 p2 p3 hm, le_chain hr hr' l1 l2 l3⟩
end
end DL
namespace DL
open PySem PySem.Spec PyProof.Rows L2 Evl
section
variable {X : Cx} {K : PySem.W.Frag}

/-! ### operators over data -/
def ints2 (f : Int → Int → PyData) (c : Int → Int → Prop) : DR2 := fun x y μ Q => match rd μ x, rd μ y with
  | some (.int i), some (.int j) => c i j ∧ Q (.dat (f i j)) μ
  | _, _ => False
theorem ints2_of {f : Int → Int → PyData} {c : Int → Int → Prop} {x y : Sl} {μ : Mu} {Q : DQ} (h : ints2 f c x y μ Q) : ∃ i j, rd μ x = some (.int i) ∧ rd μ y = some (.int j) ∧ c i j ∧ Q (.dat (f i j)) μ := by
  unfold ints2 at h
  split at h
  · rename_i i j e1 e2
    exact ⟨i, j, e1, e2, h.1, h.2⟩
  · exact h.elim
theorem lr_I {C : Int → Int → Prop} {g : Int → Int → V} {f : Int → Int → PyData} (hd : ∀ i j G, Dv K G (g i j) (f i j)) : LR2 K (rI C g) (ints2 f C) := fun x y μ Q' h W H vx vy r hx hy Q q => by
  obtain ⟨i, j, e1, e2, hc, h⟩ := ints2_of h
  cases rd_int r hx e1
  cases rd_int r hy e2
  exact ⟨i, j, rfl, rfl, hc, q.dat r (hd i j _) h⟩
theorem lr_I0 {g : Int → Int → V} {f : Int → Int → PyData} (hd : ∀ i j G, Dv K G (g i j) (f i j)) : LR2 K (rI0 g) (ints2 f fun _ _ => True) := fun x y μ Q' h W H vx vy r hx hy Q q => by
  obtain ⟨i, j, e1, e2, hc, h⟩ := ints2_of h
  cases rd_int r hx e1
  cases rd_int r hy e2
  exact ⟨i, j, rfl, rfl, q.dat r (hd i j _) h⟩
/-- // by anything but 0 below 2 ^ 9000 -/
def CDv (_ j : Int) : Prop := j ≠ 0 ∧ j.natAbs.log2 < 9000
theorem op_dv : OpR X (binaryOp .FloorDiv) (rI CDv fun i j => .int (i.fdiv j)) := opI fun _ _ _ _ _ _ _ hc q => floordiv_int hc.1 q (.inl (PyProof.noPylong_of_log2 hc.2))
def rSub : DR2 := ints2 (fun i j => .int (i - j)) fun _ _ => True
def rMulI : DR2 := ints2 (fun i j => .int (i * j)) CMulW
def rDv : DR2 := ints2 (fun i j => .int (i.fdiv j)) CDv
def rMd : DR2 := ints2 (fun i j => .int (i.fmod j)) fun _ j => j ≠ 0
def rPw : DR2 := ints2 (fun i j => .int (i ^ j.toNat)) CPow
section
variable {a b : Expr} {da db : DE} {pos : Pos}
theorem pd_sub (ha : PD X a da) (hb : PD X b db) : PD X (.BinOp a .Sub b pos) (dOp rSub da db) := pd_op op_sub (lr_I0 fun _ _ _ => .int _) ha hb
theorem pd_dv (ha : PD X a da) (hb : PD X b db) : PD X (.BinOp a .FloorDiv b pos) (dOp rDv da db) := pd_op op_dv (lr_I fun _ _ _ => .int _) ha hb
theorem pd_md (ha : PD X a da) (hb : PD X b db) : PD X (.BinOp a .Mod b pos) (dOp rMd da db) := pd_op op_modN (lr_I fun _ _ _ => .int _) ha hb
theorem pd_pw (ha : PD X a da) (hb : PD X b db) : PD X (.BinOp a .Pow b pos) (dOp rPw da db) := pd_op op_pow (lr_I fun _ _ _ => .int _) ha hb
theorem pd_mulI (ha : PD X a da) (hb : PD X b db) : PD X (.BinOp a .Mult b pos) (dOp rMulI da db) := pd_op op_mulW (lr_I fun _ _ _ => .int _) ha hb
end

/-! ### + of ints, texts, tuples, lists -/
def rAdd : DR2 := fun x y μ Q => match rd μ x, rd μ y with
  | some (.int i), some (.int j) => Q (.dat (.int (i + j))) μ
  | some (.str i), some (.str j) => i.length + j.length ≤ sizeLine ∧ Q (.dat (.str (i ++ j))) μ
  | some (.tuple xs), some (.tuple ys) => xs.length + ys.length ≤ sizeLine ∧ Q (mk (isV x || isV y) (.tuple (xs ++ ys))) μ
  | some (.list xs), some (.list ys) => xs.length + ys.length ≤ sizeLine ∧ Q (mk (isV x || isV y) (.list (xs ++ ys))) μ
  | _, _ => False
/-- lists however they stand -/
def rCatS (K : PySem.W.Frag) : R2 := fun x y H Q => ∃ l b xs zs, x = .ref l ∧ y = .ref b ∧ SqL K H l xs ∧ SqL K H b zs ∧ xs.length + zs.length ≤ sizeLine ∧ ∀ p, H p = none → Q (.ref p) (upd H p (.lst (xs ++ zs)))
theorem op_catS : OpR X (binaryOp .Add) (rCatS X.K) := by
  intro pins s σ H x y v u Q I rx ry h
  obtain ⟨l, b, xs, zs, rfl, rfl, hH, hB, hz, q⟩ := h
  cases rx
  cases ry
  obtain ⟨its, r, ⟨⟨c1, d1, dt1, s1⟩, n, e, hc, hdn, hdt⟩, hl⟩ := I.list hH
  obtain ⟨its2, r2, ⟨⟨c2, d2, dt2, s2⟩, n2, e2, hc2, hdn2, hdt2⟩, hl2⟩ := I.list hB
  simp only at hc hdn hdt hc2 hdn2 hdt2
  subst hc hdn hdt hc2 hdn2 hdt2
  have z1 := r.length
  have z2 := r2.length
  have fits : its.toArray.size + its2.toArray.size ≤ sizeLine := by rw [List.size_toArray, List.size_toArray]; omega
  refine concat_meets ⟨_, e, rfl⟩ ⟨_, e2, rfl⟩ noFill_list_add seq_list_add PySem.F.slot_list_add PySem.F.entry_list_add (PySem.F.args_list_add_2 _ _)
    (list_addW l b its.toArray its2.toArray n n2 none none s1 s2 fits) ⟨e, e2, ?_⟩
  have ea : its.toArray ++ its2.toArray = (its ++ its2).toArray := by simp
  rw [ea]
  exact ⟨.ref _, _, I.lnew (t' := s.toks) (r.append r2) (by rw [List.length_append]; omega), rfl, q _ I.fresh⟩
abbrev rAddV (K : PySem.W.Frag) : R2 := fun x y H Q => rI0 (fun i j => .int (i + j)) x y H Q ∨ ((∃ i j, x = .str i ∧ y = .str j ∧ i.length + j.length ≤ sizeLine ∧ Q (.str (i ++ j)) H) ∨ (rCatA K x y H Q ∨ rCatS K x y H Q))
theorem op_addV : OpR X (binaryOp .Add) (rAddV X.K) := op_add.or (op_add_str.or (op_catA.or op_catS))
theorem its_app {W : Wd} {H : Hp} {μ : Mu} {s t : Sl} {xs ys : List V} {ds es : List PyData} (r : Rep K W H μ) (h1 : Its K W s xs ds) (h2 : Its K W t ys es) : DvAll K (bh W (isV s || isV t)) (xs ++ ys) (ds ++ es) :=
  (DvAll.mono h1 (bh_or1 r.gf)).app (DvAll.mono h2 (bh_or2 r.gf))
theorem lr_add : LR2 K (rAddV K) rAdd := fun x y μ Q' h W H vx vy r hx hy Q q => by
  unfold rAdd at h
  split at h
  · rename_i i j e1 e2
    cases rd_int r hx e1
    cases rd_int r hy e2
    exact .inl ⟨i, j, rfl, rfl, q.int r h⟩
  · rename_i i j e1 e2
    cases rd_str r hx e1
    cases rd_str r hy e2
    exact .inr (.inl ⟨i, j, rfl, rfl, h.1, q.str r h.2⟩)
  · rename_i ds es e1 e2
    obtain ⟨a, xs, rfl, ha, ia⟩ := rd_tup r hx e1
    obtain ⟨b, ys, rfl, hb, ib⟩ := rd_tup r hy e2
    have app := its_app r ia ib
    have l1 := ia.length
    have l2 := ib.length
    refine .inr (.inr (.inl ⟨a, b, xs, ys, rfl, rfl, ha, hb, by rw [l1, l2]; exact h.1, fun z => ?_, fun _ z => ?_, fun _ _ p hp => q.newT r app h.2 p hp⟩))
    · subst z
      have z0 : ds = [] := List.length_eq_zero_iff.mp (by rw [← l1]; rfl)
      subst z0
      refine q _ _ W H μ (Le.refl W) r (slOk_mk ?_) h.2
      rw [List.nil_append]
      have hd := rd_dp r hy e2
      cases y with
      | dat d' => cases e2; exact Dv.mono (show Dv K W.G _ _ from hy) (bh_or2 (b := isV x) (c := false) r.gf)
      | vw d' => cases e2; exact Dv.mono (show Dv K W.F _ _ from hy) (bh_or2 (b := isV x) (c := true) r.gf)
      | raw w => cases e2
      | cell k =>
        replace e2 : rdC μ[k]? = _ := e2
        cases qq : μ[k]? with
        | none => rw [qq] at e2; cases e2
        | some c => rw [qq] at e2; cases c <;> cases e2
    · subst z
      have z0 : es = [] := List.length_eq_zero_iff.mp (by rw [← l2]; rfl)
      subst z0
      refine q _ _ W H μ (Le.refl W) r (slOk_mk ?_) h.2
      rw [List.append_nil]
      cases x with
      | dat d' => cases e1; exact Dv.mono (show Dv K W.G _ _ from hx) (bh_or1 (b := false) (c := isV y) r.gf)
      | vw d' => cases e1; exact Dv.mono (show Dv K W.F _ _ from hx) (bh_or1 (b := true) (c := isV y) r.gf)
      | raw w => cases e1
      | cell k =>
        replace e1 : rdC μ[k]? = _ := e1
        cases qq : μ[k]? with
        | none => rw [qq] at e1; cases e1
        | some c => rw [qq] at e1; cases c <;> cases e1
  · rename_i ds es e1 e2
    obtain ⟨a, xs, rfl, ha, ia⟩ := rd_lst r hx e1
    obtain ⟨b, ys, rfl, hb, ib⟩ := rd_lst r hy e2
    refine .inr (.inr (.inr ⟨a, b, xs, ys, rfl, rfl, ha, hb, by rw [ia.length, ib.length]; exact h.1, fun p hp => q.newL r (its_app r ia ib) h.2 p hp⟩))
  · exact h.elim
theorem pd_add {a b : Expr} {da db : DE} {pos : Pos} (ha : PD X a da) (hb : PD X b db) : PD X (.BinOp a .Add b pos) (dOp rAdd da db) := pd_op op_addV lr_add ha hb

/-! ### * of ints; a tuple of one item times an int; a list times an int -/
def rMul : DR2 := fun x y μ Q => match rd μ x, rd μ y with
  | some (.int i), some (.int j) => CMulW i j ∧ Q (.dat (.int (i * j))) μ
  | some (.tuple xs), some (.int k) => (xs ≠ [] ∧ 2 ≤ k ∧ k ≤ 1000 ∧ xs.length ≤ 1000) ∧ Q (mk (isV x) (.tuple (List.replicate k.toNat xs).flatten)) μ
  | _, _ => False
theorem dpAll_rep {H : Hp} {xs : List V} {ds : List PyData} (h : DvAll K H xs ds) : ∀ n : Nat, DvAll K H (List.replicate n xs).flatten (List.replicate n ds).flatten
  | 0 => .nil
  | n + 1 => by
    rw [List.replicate_succ, List.replicate_succ, List.flatten_cons, List.flatten_cons]
    exact h.app (dpAll_rep h n)
abbrev rMulV (K : PySem.W.Frag) : R2 := fun x y H Q => rI CMulW (fun i j => .int (i * j)) x y H Q ∨ rRepT K x y H Q
theorem lr_mul : LR2 K (rMulV K) rMul := fun x y μ Q' h W H vx vy r hx hy Q q => by
  unfold rMul at h
  split at h
  · rename_i i j e1 e2
    cases rd_int r hx e1
    cases rd_int r hy e2
    exact .inl ⟨i, j, rfl, rfl, h.1, q.int r h.2⟩
  · rename_i ds k e1 e2
    obtain ⟨a, xs, rfl, ha, ia⟩ := rd_tup r hx e1
    cases rd_int r hy e2
    obtain ⟨⟨h1, h2, h3, h4⟩, h5⟩ := h
    refine .inr ⟨a, k, xs, rfl, rfl, ha, fun z => h1 ?_, h2, h3, by rw [ia.length]; exact h4, fun p hp => q.newT r (dpAll_rep ia k.toNat) h5 p hp⟩
    subst z
    exact List.length_eq_zero_iff.mp (by rw [← ia.length]; rfl)
  · exact h.elim
theorem pd_mul {a b : Expr} {da db : DE} {pos : Pos} (ha : PD X a da) (hb : PD X b db) : PD X (.BinOp a .Mult b pos) (dOp rMul da db) := pd_op (op_mulW.or op_repT) lr_mul ha hb

/-! ### minus -/
def rNeg : DR1 := fun x μ Q => match rd μ x with
  | some (.int i) => Q (.dat (.int (-i))) μ
  | _ => False
theorem lr_neg : LR1 K (rU fun i => .int (-i)) rNeg := fun x μ Q' h W H vx r hx Q q => by
  unfold rNeg at h
  split at h
  · rename_i i e
    cases rd_int r hx e
    exact ⟨i, rfl, q.int r h⟩
  · exact h.elim
theorem pd_neg {a : Expr} {da : DE} {pos : Pos} (ha : PD X a da) : PD X (.UnaryOp .USub a pos) (dUn rNeg da) := pd_un un_neg lr_neg ha

/-! ### == and != of data -/
def eqD (f : Bool → Bool) : DR2 := fun x y μ Q => match rd μ x, rd μ y with
  | some (.int i), some (.int j) => Q (.dat (.bool (f (decide (i = j))))) μ
  | some (.str i), some (.str j) => Q (.dat (.bool (f (decide (i = j))))) μ
  | some (.bool i), some (.bool j) => Q (.dat (.bool (f (decide (i = j))))) μ
  | some d, some e => (SeqAt.shaped d = true ∧ SeqAt.shaped e = true) ∧ Q (.dat (.bool (f (PyData.eqv d e)))) μ
  | _, _ => False
def rEq : DR2 := eqD fun b => b
def rNe : DR2 := eqD fun b => !b
theorem eqD_of {f : Bool → Bool} {W : Wd} {H : Hp} {μ : Mu} {x y : Sl} {vx vy : V} {Q' : DQ} (h : eqD f x y μ Q') (r : Rep K W H μ) (hx : SlOk K W vx x) (hy : SlOk K W vy y) :
    (scal vx vy = true ∧ Q' (.dat (.bool (f (decide (vx = vy))))) μ) ∨ ∃ d e, Dv K H vx d ∧ Dv K H vy e ∧ (SeqAt.shaped d = true ∧ SeqAt.shaped e = true) ∧ Q' (.dat (.bool (f (PyData.eqv d e)))) μ := by
  unfold eqD at h
  split at h
  · rename_i i j e1 e2
    cases rd_int r hx e1
    cases rd_int r hy e2
    refine .inl ⟨rfl, ?_⟩
    rw [show decide (V.int i = V.int j) = decide (i = j) from decide_eq_decide.mpr ⟨V.int.inj, congrArg V.int⟩]
    exact h
  · rename_i i j e1 e2
    cases rd_str r hx e1
    cases rd_str r hy e2
    refine .inl ⟨rfl, ?_⟩
    rw [show decide (V.str i = V.str j) = decide (i = j) from decide_eq_decide.mpr ⟨V.str.inj, congrArg V.str⟩]
    exact h
  · rename_i i j e1 e2
    cases rd_bool r hx e1
    cases rd_bool r hy e2
    refine .inl ⟨rfl, ?_⟩
    rw [show decide (V.bl i = V.bl j) = decide (i = j) from decide_eq_decide.mpr ⟨V.bl.inj, congrArg V.bl⟩]
    exact h
  · rename_i d e _ _ _ e1 e2
    exact .inr ⟨d, e, rd_dp r hx e1, rd_dp r hy e2, h.1, h.2⟩
  · exact h.elim
theorem lr_eq : LR2 K (fun x y H Q => L2.rEq x y H Q ∨ rEqD K x y H Q) rEq := fun x y μ Q' h W H vx vy r hx hy Q q => by
  rcases eqD_of h r hx hy with ⟨h1, h2⟩ | ⟨d, e, h1, h2, h3, h4⟩
  · exact .inl ⟨h1, q.bl r h2⟩
  · exact .inr ⟨d, e, h1.dpS h3.1, h2.dpS h3.2, h3.1, h3.2, q.bl r h4⟩
theorem lr_ne : LR2 K (fun x y H Q => L2.rNe x y H Q ∨ rNeD K x y H Q) rNe := fun x y μ Q' h W H vx vy r hx hy Q q => by
  rcases eqD_of h r hx hy with ⟨h1, h2⟩ | ⟨d, e, h1, h2, h3, h4⟩
  · exact .inl ⟨h1, q.bl r h2⟩
  · exact .inr ⟨d, e, h1.dpS h3.1, h2.dpS h3.2, h3.1, h3.2, q.bl r h4⟩
theorem op_eqV (hu : X.A.units + 64 < cLine) : OpR X (compareOp .Eq) (fun x y H Q => L2.rEq x y H Q ∨ rEqD X.K x y H Q) := op_eq.or (op_eqD hu)
theorem op_neV (hu : X.A.units + 64 < cLine) : OpR X (compareOp .NotEq) (fun x y H Q => L2.rNe x y H Q ∨ rNeD X.K x y H Q) := op_ne.or (op_neD hu)
theorem op_isV : OpR X (compareOp .Is) (fun x y H Q => (y = .non ∧ Q (.bl (decide (x = .non))) H) ∨ (∃ a b, x = .bl a ∧ y = .bl b ∧ Q (.bl (decide (a = b))) H)) := op_isN.or op_is_bl
theorem op_isnotV : OpR X (compareOp .IsNot) (fun x y H Q => (y = .non ∧ Q (.bl (!decide (x = .non))) H) ∨ (∃ a b, x = .bl a ∧ y = .bl b ∧ Q (.bl (!decide (a = b))) H)) := op_notN.or op_isnot_bl

/-! ### order of ints, of texts -/
def ltS (i j : Str) : Bool := decide (i.cps.toList < j.cps.toList)
def ord2 (f : Int → Int → Bool) (g : Str → Str → Bool) : DR2 := fun x y μ Q => match rd μ x, rd μ y with
  | some (.int i), some (.int j) => Q (.dat (.bool (f i j))) μ
  | some (.str i), some (.str j) => Q (.dat (.bool (g i j))) μ
  | _, _ => False
theorem lr_ord {f : Int → Int → Bool} {g : Str → Str → Bool} : LR2 K (fun x y H Q => rI0 (fun i j => .bl (f i j)) x y H Q ∨ ∃ i j, x = .str i ∧ y = .str j ∧ Q (.bl (g i j)) H) (ord2 f g) := fun x y μ Q' h W H vx vy r hx hy Q q => by
  unfold ord2 at h
  split at h
  · rename_i i j e1 e2
    cases rd_int r hx e1
    cases rd_int r hy e2
    exact .inl ⟨i, j, rfl, rfl, q.bl r h⟩
  · rename_i i j e1 e2
    cases rd_str r hx e1
    cases rd_str r hy e2
    exact .inr ⟨i, j, rfl, rfl, q.bl r h⟩
  · exact h.elim
def rLt : DR2 := ord2 (fun i j => decide (i < j)) ltS
def rLe : DR2 := ord2 (fun i j => decide (i ≤ j)) fun i j => !ltS j i
def rGt : DR2 := ord2 (fun i j => decide (j < i)) fun i j => ltS j i
def rGe : DR2 := ord2 (fun i j => decide (j ≤ i)) fun i j => !ltS i j
theorem op_ltV : OpR X (compareOp .Lt) (fun x y H Q => rI0 (fun i j => .bl (decide (i < j))) x y H Q ∨ ∃ i j, x = .str i ∧ y = .str j ∧ Q (.bl (ltS i j)) H) := op_lt.or op_lt_str
theorem op_leV : OpR X (compareOp .LtE) (fun x y H Q => rI0 (fun i j => .bl (decide (i ≤ j))) x y H Q ∨ ∃ i j, x = .str i ∧ y = .str j ∧ Q (.bl (!ltS j i)) H) := op_le.or op_le_str
theorem op_gtV : OpR X (compareOp .Gt) (fun x y H Q => rI0 (fun i j => .bl (decide (j < i))) x y H Q ∨ ∃ i j, x = .str i ∧ y = .str j ∧ Q (.bl (ltS j i)) H) := op_gt.or op_gt_str
theorem op_geV : OpR X (compareOp .GtE) (fun x y H Q => rI0 (fun i j => .bl (decide (j ≤ i))) x y H Q ∨ ∃ i j, x = .str i ∧ y = .str j ∧ Q (.bl (!ltS i j)) H) := op_ge.or op_ge_str

/-! ### is None, is True -/
def isNon : PyData → Bool
  | .none => true
  | _ => false
def rIs (neg : Bool) : DR2 := fun x y μ Q => match rd μ x, y with
  | some d, .dat .none => Q (.dat (.bool (neg != isNon d))) μ
  | some (.bool b), .dat (.bool c) => Q (.dat (.bool (neg != decide (b = c)))) μ
  | _, _ => False
theorem dp_non {H : Hp} {v : V} {d : PyData} (h : Dv K H v d) : decide (v = .non) = isNon d := by
  cases h <;> rfl
theorem lr_is : LR2 K (fun x y H Q => (y = .non ∧ Q (.bl (decide (x = .non))) H) ∨ (∃ a b, x = .bl a ∧ y = .bl b ∧ Q (.bl (decide (a = b))) H)) (rIs false) := fun x y μ Q' h W H vx vy r hx hy Q q => by
  unfold rIs at h
  split at h
  · rename_i d e1
    have hd := rd_dp r hx e1
    cases (show Dv K W.G vy .none from hy)
    refine .inl ⟨rfl, ?_⟩
    rw [dp_non hd]
    have := q.bl r h
    simpa using this
  · rename_i b c e1
    cases rd_bool r hx e1
    cases (show Dv K W.G vy (.bool c) from hy)
    refine .inr ⟨b, c, rfl, rfl, ?_⟩
    have := q.bl r h
    simpa using this
  · exact h.elim
theorem lr_isnot : LR2 K (fun x y H Q => (y = .non ∧ Q (.bl (!decide (x = .non))) H) ∨ (∃ a b, x = .bl a ∧ y = .bl b ∧ Q (.bl (!decide (a = b))) H)) (rIs true) := fun x y μ Q' h W H vx vy r hx hy Q q => by
  unfold rIs at h
  split at h
  · rename_i d e1
    have hd := rd_dp r hx e1
    cases (show Dv K W.G vy .none from hy)
    refine .inl ⟨rfl, ?_⟩
    rw [dp_non hd]
    have := q.bl r h
    simpa using this
  · rename_i b c e1
    cases rd_bool r hx e1
    cases (show Dv K W.G vy (.bool c) from hy)
    refine .inr ⟨b, c, rfl, rfl, ?_⟩
    have := q.bl r h
    simpa using this
  · exact h.elim
end
end DL
namespace DL
open PySem PySem.Spec PyProof.Rows L2 Evl

/-! ### tests -/
def truD : PyData → Bool
  | .none => false
  | .bool b => b
  | .int i => i != 0
  | .str y => (y.length : Int) != 0
  | .list xs => !xs.isEmpty
  | .tuple xs => !xs.isEmpty
  | .dict _ => true
def okT : PyData → Prop
  | .str y => y.length ≤ sizeLine
  | .dict _ => False
  | _ => True
def dTru (d : DE) : DT := fun ρ μ Q => d ρ μ fun x μ1 => match rd μ1 x with
  | some z => okT z ∧ Q (truD z) μ1
  | _ => False
def dAnd (t u : DT) : DT := fun ρ μ Q => t ρ μ fun c μ1 => if c = true then u ρ μ1 Q else Q false μ1
def dOr (t u : DT) : DT := fun ρ μ Q => t ρ μ fun c μ1 => if c = true then Q true μ1 else u ρ μ1 Q
def dNot (t : DT) : DT := fun ρ μ Q => t ρ μ fun c μ1 => Q (!c) μ1
def dIf (t : DT) (a b : DE) : DE := fun ρ μ Q => t ρ μ fun c μ1 => if c = true then a ρ μ1 Q else b ρ μ1 Q
def dAndV (a b : DE) : DE := fun ρ μ Q => a ρ μ fun x μ1 => match x with
  | .dat (.bool c) => if c = true then b ρ μ1 Q else Q (.dat (.bool false)) μ1
  | _ => False
def dOrV (a b : DE) : DE := fun ρ μ Q => a ρ μ fun x μ1 => match x with
  | .dat (.bool c) => if c = true then Q (.dat (.bool true)) μ1 else b ρ μ1 Q
  | _ => False
def dNotV (a : DE) : DE := fun ρ μ Q => a ρ μ fun x μ1 => match x with
  | .dat (.bool c) => Q (.dat (.bool (!c))) μ1
  | _ => False
theorem bool_of {K : PySem.W.Frag} {W : Wd} {v : V} {c : Bool} (h : SlOk K W v (.dat (.bool c))) : v = .bl c := by
  cases (show Dv K W.G v (.bool c) from h)
  rfl
section
variable {X : Cx} {K : PySem.W.Frag} {a b : Expr} {pos : Pos} {rest : List Expr}
theorem isEmpty_len {α β : Type} {xs : List α} {ys : List β} (h : xs.length = ys.length) : xs.isEmpty = ys.isEmpty := by
  cases xs <;> cases ys <;> first | rfl | simp at h
theorem truV_of {W : Wd} {H : Hp} {μ : Mu} {v : V} {s : Sl} {z : PyData} (r : Rep K W H μ) (h : SlOk K W v s) (e : rd μ s = some z) (ho : okT z) : TruV K v H (truD z) := by
  cases z with
  | none => cases rd_none r h e; exact (rfl : false = false)
  | bool b => cases rd_bool r h e; exact (rfl : b = b)
  | int i => cases rd_int r h e; exact (rfl : (i != 0) = (i != 0))
  | str y => cases rd_str r h e; exact ⟨ho, rfl⟩
  | list ds =>
    obtain ⟨p, xs, rfl, hx, hi⟩ := rd_lst r h e
    exact .inl ⟨xs, hx, by rw [isEmpty_len hi.length]; rfl⟩
  | tuple ds =>
    obtain ⟨p, xs, rfl, hx, hi⟩ := rd_tup r h e
    exact .inr (.inl ⟨xs, hx, by rw [isEmpty_len hi.length]; rfl⟩)
  | dict kvs => exact ho.elim
theorem lt_tru {t : TE} {d : DE} (h : LE K t d) : LT K (fun σ H Q => t σ H fun x H' => ∃ k, TruV K x H' k ∧ Q k H') (dTru d) := fun ρ μ Q' hd W σ H he rp Q q =>
  h ρ μ _ hd W σ H he rp _ fun vx x W1 H1 μ1 l1 r1 hx h1 => by
    replace h1 : (match rd μ1 x with | some z => okT z ∧ Q' (truD z) μ1 | _ => False) := h1
    cases e : rd μ1 x with
    | none => rw [e] at h1; exact h1.elim
    | some z =>
      rw [e] at h1
      exact ⟨truD z, truV_of r1 hx e h1.1, q _ W1 H1 μ1 l1 r1 h1.2⟩
theorem pdt_tru {d : DE} (h : PD X a d) (he : ∀ whole, isTrue a X.env whole = (do let v ← whole; standAt a.pos; holding [v] (truthy v)) := by exact fun _ => rfl) : PDT X a (dTru d) := by
  obtain ⟨t, p, l⟩ := h
  exact ⟨_, pt_truth p he, lt_tru l⟩
theorem lt_and {t u : TT} {d e : DT} (h1 : LT K t d) (h2 : LT K u e) : LT K (tAnd t u) (dAnd d e) := fun ρ μ Q' hd W σ H he rp Q q =>
  h1 ρ μ _ hd W σ H he rp _ fun b W1 H1 μ1 l1 r1 q1 => by
    cases b with
    | true => exact h2 ρ μ1 Q' q1 W1 σ H1 (he.mono l1) r1 Q (q.le l1)
    | false => exact q false W1 H1 μ1 l1 r1 q1
theorem lt_or {t u : TT} {d e : DT} (h1 : LT K t d) (h2 : LT K u e) : LT K (tOr t u) (dOr d e) := fun ρ μ Q' hd W σ H he rp Q q =>
  h1 ρ μ _ hd W σ H he rp _ fun b W1 H1 μ1 l1 r1 q1 => by
    cases b with
    | false => exact h2 ρ μ1 Q' q1 W1 σ H1 (he.mono l1) r1 Q (q.le l1)
    | true => exact q true W1 H1 μ1 l1 r1 q1
theorem pdw_and1 {d : DT} (h : PDT X a d) : PDW X (.BoolOp .And [a] pos) d := by
  obtain ⟨t, p, l⟩ := h
  exact ⟨_, pw_and1 p, l⟩
theorem pdw_or1 {d : DT} (h : PDT X a d) : PDW X (.BoolOp .Or [a] pos) d := by
  obtain ⟨t, p, l⟩ := h
  exact ⟨_, pw_or1 p, l⟩
theorem pdw_and {d e : DT} (h : PDT X a d) (h2 : PDW X (.BoolOp .And (b :: rest) pos) e) : PDW X (.BoolOp .And (a :: b :: rest) pos) (dAnd d e) := by
  obtain ⟨t, p, l⟩ := h
  obtain ⟨t2, p2, l2⟩ := h2
  exact ⟨_, pw_and p p2, lt_and l l2⟩
theorem pdw_or {d e : DT} (h : PDT X a d) (h2 : PDW X (.BoolOp .Or (b :: rest) pos) e) : PDW X (.BoolOp .Or (a :: b :: rest) pos) (dOr d e) := by
  obtain ⟨t, p, l⟩ := h
  obtain ⟨t2, p2, l2⟩ := h2
  exact ⟨_, pw_or p p2, lt_or l l2⟩
theorem PDW.pdt {d : DT} (h : PDW X a d) : PDT X a d := by
  obtain ⟨t, p, l⟩ := h
  exact ⟨_, p.pt, l⟩
theorem pdt_not {d : DT} (h : PDT X a d) : PDT X (.UnaryOp .Not a pos) (dNot d) := by
  obtain ⟨t, p, l⟩ := h
  exact ⟨_, pt_not p, fun ρ μ Q' hd W σ H he rp Q q => l ρ μ _ hd W σ H he rp _ fun b W1 H1 μ1 l1 r1 q1 => q _ W1 H1 μ1 l1 r1 q1⟩
theorem pd_ifExp {c : Expr} {d : DT} {da db : DE} (hc : PDT X c d) (ha : PD X a da) (hb : PD X b db) : PD X (.IfExp c a b pos) (dIf d da db) := by
  obtain ⟨t, p, l⟩ := hc
  obtain ⟨ta, p1, l1⟩ := ha
  obtain ⟨tb, p2, l2⟩ := hb
  refine ⟨_, pe_ifExp p p1 p2, fun ρ μ Q' hd W σ H he rp Q q => l ρ μ _ hd W σ H he rp _ fun b W1 H1 μ1 le1 r1 q1 => ?_⟩
  cases b with
  | true => exact l1 ρ μ1 Q' q1 W1 σ H1 (he.mono le1) r1 Q (q.le le1)
  | false => exact l2 ρ μ1 Q' q1 W1 σ H1 (he.mono le1) r1 Q (q.le le1)
theorem pd_one {op} {d : DE} (h : PD X a d) : PD X (.BoolOp op [a] pos) d := by
  obtain ⟨t, p, l⟩ := h
  exact ⟨_, pe_one p, l⟩
theorem pd_and {da db : DE} (ha : PD X a da) (hb : PD X (.BoolOp .And (b :: rest) pos) db) : PD X (.BoolOp .And (a :: b :: rest) pos) (dAndV da db) := by
  obtain ⟨ta, p1, l1⟩ := ha
  obtain ⟨tb, p2, l2⟩ := hb
  refine ⟨_, pe_and p1 p2, fun ρ μ Q' hd W σ H he rp Q q => l1 ρ μ _ hd W σ H he rp _ fun v s W1 H1 μ1 le1 r1 hs h1 => ?_⟩
  cases s with
  | dat d =>
    cases d with
    | bool c =>
      cases bool_of hs
      refine ⟨c, rfl, ?_⟩
      cases c with
      | true => exact l2 ρ μ1 Q' h1 W1 σ H1 (he.mono le1) r1 Q (q.le le1)
      | false => exact (q.le le1).bl r1 h1
    | _ => exact False.elim h1
  | _ => exact False.elim h1
theorem pd_or {da db : DE} (ha : PD X a da) (hb : PD X (.BoolOp .Or (b :: rest) pos) db) : PD X (.BoolOp .Or (a :: b :: rest) pos) (dOrV da db) := by
  obtain ⟨ta, p1, l1⟩ := ha
  obtain ⟨tb, p2, l2⟩ := hb
  refine ⟨_, pe_or p1 p2, fun ρ μ Q' hd W σ H he rp Q q => l1 ρ μ _ hd W σ H he rp _ fun v s W1 H1 μ1 le1 r1 hs h1 => ?_⟩
  cases s with
  | dat d =>
    cases d with
    | bool c =>
      cases bool_of hs
      refine ⟨c, rfl, ?_⟩
      cases c with
      | false => exact l2 ρ μ1 Q' h1 W1 σ H1 (he.mono le1) r1 Q (q.le le1)
      | true => exact (q.le le1).bl r1 h1
    | _ => exact False.elim h1
  | _ => exact False.elim h1
theorem pd_not {da : DE} (ha : PD X a da) : PD X (.UnaryOp .Not a pos) (dNotV da) := by
  obtain ⟨ta, p1, l1⟩ := ha
  refine ⟨_, pe_not p1, fun ρ μ Q' hd W σ H he rp Q q => l1 ρ μ _ hd W σ H he rp _ fun v s W1 H1 μ1 le1 r1 hs h1 => ?_⟩
  cases s with
  | dat d =>
    cases d with
    | bool c =>
      cases bool_of hs
      exact ⟨c, rfl, (q.le le1).bl r1 h1⟩
    | _ => exact False.elim h1
  | _ => exact False.elim h1

/-! ### displays -/
def datsOf : List Sl → Option (Bool × List PyData)
  | [] => some (false, [])
  | .dat d :: r => match datsOf r with
    | some (b, ds) => some (b, d :: ds)
    | none => none
  | .vw d :: r => match datsOf r with
    | some (_, ds) => some (true, d :: ds)
    | none => none
  | _ :: _ => none
theorem datsOf_ok {W : Wd} (e : Ex W.G W.F) : ∀ {ss : List Sl} {vs : List V} {b : Bool} {ds : List PyData}, SlAll K W vs ss → datsOf ss = some (b, ds) → DvAll K (bh W b) vs ds
  | [], _, _, _, h, e1 => by
    cases h
    cases e1
    exact .nil
  | .dat d :: r, _, b, ds, h, e1 => by
    cases h with
    | cons h1 h2 =>
      unfold datsOf at e1
      cases q : datsOf r with
      | none => rw [q] at e1; cases e1
      | some z =>
        rw [q] at e1
        obtain ⟨b', ds'⟩ := z
        cases e1
        exact .cons (Dv.mono (show Dv K W.G _ d from h1) (bh_or1 (b := false) (c := b) e)) (datsOf_ok e h2 q)
  | .vw d :: r, _, b, ds, h, e1 => by
    cases h with
    | cons h1 h2 =>
      unfold datsOf at e1
      cases q : datsOf r with
      | none => rw [q] at e1; cases e1
      | some z =>
        rw [q] at e1
        obtain ⟨b', ds'⟩ := z
        cases e1
        exact .cons h1 (DvAll.mono (datsOf_ok e h2 q) (bh_ff e))
  | .cell k :: r, _, _, _, _, e1 => by cases e1
  | .raw v :: r, _, _, _, _, e1 => by cases e1
def dTup (a : DA) : DE := fun ρ μ Q => a ρ μ fun ss μ1 => match datsOf ss with
  | some (b, ds) => ds.length ≤ sizeLine ∧ Q (mk b (.tuple ds)) μ1
  | none => False
def dLst (a : DA) : DE := fun ρ μ Q => a ρ μ fun ss μ1 => match datsOf ss with
  | some (b, ds) => ds.length ≤ sizeLine ∧ Q (mk b (.list ds)) μ1
  | none => False
/-- a list that is to change -/
def dLstC (a : DA) : DE := fun ρ μ Q => a ρ μ fun ss μ1 => match datsOf ss with
  | some (false, ds) => ds.length ≤ sizeLine ∧ Q (.cell μ1.length) (μ1 ++ [.lst ds])
  | _ => False
variable {es : List Expr}
theorem pd_tup {x1} {a : DA} (h : PDA X es a) : PD X (.Tuple es x1 pos) (dTup a) := by
  obtain ⟨t, p, l⟩ := h
  refine ⟨_, pe_tup p, fun ρ μ Q' hd W σ H he rp Q q => l ρ μ _ hd W σ H he rp _ fun vs ss W1 H1 μ1 l1 r1 hs h1 => ?_⟩
  replace h1 : (match datsOf ss with | some (b, ds) => ds.length ≤ sizeLine ∧ Q' (mk b (.tuple ds)) μ1 | none => False) := h1
  cases e : datsOf ss with
  | none => rw [e] at h1; exact h1.elim
  | some z =>
    rw [e] at h1
    obtain ⟨b, ds⟩ := z
    have hx := datsOf_ok r1.gf hs e
    exact ⟨by rw [hx.length]; exact h1.1, (q.le l1).newT r1 hx h1.2⟩
theorem pd_lst {a : DA} (h : PDA X es a) : PD X (.List es pos) (dLst a) := by
  obtain ⟨t, p, l⟩ := h
  refine ⟨_, pe_lst p, fun ρ μ Q' hd W σ H he rp Q q => l ρ μ _ hd W σ H he rp _ fun vs ss W1 H1 μ1 l1 r1 hs h1 => ?_⟩
  replace h1 : (match datsOf ss with | some (b, ds) => ds.length ≤ sizeLine ∧ Q' (mk b (.list ds)) μ1 | none => False) := h1
  cases e : datsOf ss with
  | none => rw [e] at h1; exact h1.elim
  | some z =>
    rw [e] at h1
    obtain ⟨b, ds⟩ := z
    have hx := datsOf_ok r1.gf hs e
    exact ⟨by rw [hx.length]; exact h1.1, (q.le l1).newL r1 hx h1.2⟩
theorem pd_lstC {a : DA} (h : PDA X es a) : PD X (.List es pos) (dLstC a) := by
  obtain ⟨t, p, l⟩ := h
  refine ⟨_, pe_lst p, fun ρ μ Q' hd W σ H he rp Q q => l ρ μ _ hd W σ H he rp _ fun vs ss W1 H1 μ1 l1 r1 hs h1 => ?_⟩
  replace h1 : (match datsOf ss with | some (false, ds) => ds.length ≤ sizeLine ∧ Q' (.cell μ1.length) (μ1 ++ [.lst ds]) | _ => False) := h1
  cases e : datsOf ss with
  | none => rw [e] at h1; exact h1.elim
  | some z =>
    rw [e] at h1
    obtain ⟨b, ds⟩ := z
    cases b with
    | true => exact False.elim h1
    | false =>
      have hx := datsOf_ok r1.gf hs e
      exact ⟨by rw [hx.length]; exact h1.1, (q.le l1).newCell r1 hx h1.2⟩

/-! ### places -/
def rIx : DR2 := fun x y μ Q => match rd μ x, rd μ y with
  | some (.list ds), some (.int i) => ∃ d, atI ds i = some d ∧ Q (elt x d) μ
  | some (.tuple ds), some (.int i) => ∃ d, atI ds i = some d ∧ Q (elt x d) μ
  | some (.str z), some (.int i) => z.length ≤ sizeLine ∧ ∃ c, atI z.cps.toList i = some c ∧ Q (.dat (.str ⟨#[c]⟩)) μ
  | _, _ => False
theorem its_at {W : Wd} {s : Sl} {xs : List V} {ds : List PyData} {i : Int} {d : PyData} (h : Its K W s xs ds) (e : atI ds i = some d) : ∃ v, atI xs i = some v ∧ SlOk K W v (elt s d) := by
  unfold atI at e ⊢
  rw [h.length]
  cases q : ixN ds.length i with
  | none => rw [q] at e; cases e
  | some j =>
    rw [q] at e
    exact h.get e
theorem lr_ix : LR2 K (fun x y H Q => rIxL K x y H Q ∨ (rIxT K x y H Q ∨ rIxS x y H Q)) rIx := fun x y μ Q' h W H vx vy r hx hy Q q => by
  unfold rIx at h
  split at h
  · rename_i ds i e1 e2
    obtain ⟨d, h1, h2⟩ := h
    obtain ⟨p, xs, rfl, hp, hi⟩ := rd_lst r hx e1
    cases rd_int r hy e2
    obtain ⟨v, hv, hs⟩ := its_at hi h1
    exact .inl ⟨p, xs, i, v, rfl, rfl, hp, hv, q.here r hs h2⟩
  · rename_i ds i e1 e2
    obtain ⟨d, h1, h2⟩ := h
    obtain ⟨p, xs, rfl, hp, hi⟩ := rd_tup r hx e1
    cases rd_int r hy e2
    obtain ⟨v, hv, hs⟩ := its_at hi h1
    exact .inr (.inl ⟨p, xs, i, v, rfl, rfl, hp, hv, q.here r hs h2⟩)
  · rename_i z i e1 e2
    obtain ⟨hz, c, h1, h2⟩ := h
    cases rd_str r hx e1
    cases rd_int r hy e2
    exact .inr (.inr ⟨z, i, c, rfl, rfl, hz, h1, q.str r h2⟩)
  · exact h.elim
theorem pd_ix {da db : DE} (ha : PD X a da) (hb : PD X b db) (hs : PlainIx b := by exact fun _ _ => rfl) : PD X (.Subscript a b pos) (dOp rIx da db) := by
  obtain ⟨ta, p1, l1⟩ := ha
  obtain ⟨tb, p2, l2⟩ := hb
  exact ⟨_, pe_ix (ix_list.or (ix_tup.or ix_str)) p1 p2 hs, le_op lr_ix l1 l2⟩

/-! ### cuts -/
abbrev DO := Rho → Mu → (Option Int → Mu → Prop) → Prop
def LO (K : PySem.W.Frag) (t : TO) (d : DO) : Prop := ∀ ρ μ Q', d ρ μ Q' → ∀ W σ H, EnvOk K W σ ρ → Rep K W H μ → ∀ Q : Option Int → Hp → Prop, (∀ o W' H' μ', Le W W' → Rep K W' H' μ' → Q' o μ' → Q o H') → t σ H Q
structure PDO (X : Cx) (e : Option Expr) (d : DO) : Prop where
  ex : ∃ t, PO X e t ∧ LO X.K t d
def oNone : DO := fun _ μ Q => Q none μ
def oSome (d : DE) : DO := fun ρ μ Q => d ρ μ fun x μ1 => match x with
  | .dat (.int i) => Q (some i) μ1
  | _ => False
theorem pdo_none : PDO X none oNone := ⟨_, po_none, fun ρ μ Q' h W σ H he r Q q => q none W H μ (Le.refl W) r h⟩
theorem pdo_some {d : DE} (h : PD X a d) : PDO X (some a) (oSome d) := by
  obtain ⟨t, p, l⟩ := h
  refine ⟨_, po_some p, fun ρ μ Q' hd W σ H he rp Q q => l ρ μ _ hd W σ H he rp _ fun v s W1 H1 μ1 l1 r1 hs h1 => ?_⟩
  cases s with
  | dat d =>
    cases d with
    | int i =>
      cases (show Dv X.K W1.G v (.int i) from hs)
      exact ⟨i, rfl, q _ W1 H1 μ1 l1 r1 h1⟩
    | _ => exact False.elim h1
  | _ => exact False.elim h1
def cutD (ds : List PyData) (lo hi : Option Int) : List PyData := (ds.drop (HT.sIx ds.length 0 lo)).take (HT.sIx ds.length ds.length hi - HT.sIx ds.length 0 lo)
def rSl (x : Sl) (lo hi : Option Int) (μ : Mu) (Q : DQ) : Prop := match rd μ x with
  | some (.tuple ds) => Q (mk (isV x) (.tuple (cutD ds lo hi))) μ
  | some (.list ds) => Q (mk (isV x) (.list (cutD ds lo hi))) μ
  | some (.str z) => z.length ≤ sizeLine ∧ Q (.dat (.str (cutS z lo hi))) μ
  | _ => False
def dSl (da : DE) (dl dh : DO) : DE := fun ρ μ Q => da ρ μ fun x μ1 => dl ρ μ1 fun l μ2 => dh ρ μ2 fun u μ3 => rSl x l u μ3 Q
theorem its_cut {W : Wd} {s : Sl} {xs : List V} {ds : List PyData} (h : Its K W s xs ds) (lo hi : Option Int) : DvAll K (bh W (isV s)) (cutV xs lo hi) (cutD ds lo hi) := by
  unfold cutV cutD
  rw [h.length]
  exact (DvAll.drop _ h).take _
theorem rd_tup_v {W : Wd} {v : V} {μ : Mu} {s : Sl} {ds : List PyData} (h : SlOk K W v s) (e : rd μ s = some (.tuple ds)) : Dv K (bh W (isV s)) v (.tuple ds) := by
  cases s with
  | dat d' => cases e; exact h
  | vw d' => cases e; exact h
  | raw w => cases e
  | cell k =>
    replace e : rdC μ[k]? = _ := e
    cases qq : μ[k]? with
    | none => rw [qq] at e; cases e
    | some c => rw [qq] at e; cases c <;> cases e
theorem pd_sl {lo hi : Option Expr} {p2 : Pos} {da : DE} {dl dh : DO} (ha : PD X a da) (hl : PDO X lo dl) (hh : PDO X hi dh) : PD X (.Subscript a (.Slice lo hi none p2) pos) (dSl da dl dh) := by
  obtain ⟨ta, p1, l1⟩ := ha
  obtain ⟨tl, p2, l2⟩ := hl
  obtain ⟨th, p3, l3⟩ := hh
  refine ⟨_, pe_slice (sl_list.or (sl_tupA.or sl_str)) p1 p2 p3, fun ρ μ Q' hd W σ H he rp Q q => l1 ρ μ _ hd W σ H he rp _ fun v x W1 H1 μ1 le1 r1 hx h1 =>
    l2 ρ μ1 _ h1 W1 σ H1 (he.mono le1) r1 _ fun l W2 H2 μ2 le2 r2 h2 => l3 ρ μ2 _ h2 W2 σ H2 (he.mono (le1.trans le2)) r2 _ fun u W3 H3 μ3 le3 r3 h3 => ?_⟩
  have hx3 := (hx.mono le2).mono le3
  have q3 := q.le ((le1.trans le2).trans le3)
  unfold rSl at h3
  split at h3
  · rename_i ds e
    obtain ⟨p, xs, rfl, hp, hi⟩ := rd_tup r3 hx3 e
    refine .inr (.inl ⟨p, xs, rfl, hp, fun z => ?_, fun _ a ha => q3.newT r3 (its_cut hi l u) h3 a ha⟩)
    have hc : cutD ds l u = ds := by
      unfold cutD
      rw [hi.length] at z
      rw [z.1, z.2, List.drop_zero, Nat.sub_zero, List.take_length]
    rw [hc] at h3
    exact q3 _ _ W3 H3 μ3 (Le.refl _) r3 (slOk_mk (rd_tup_v hx3 e)) h3
  · rename_i ds e
    obtain ⟨p, xs, rfl, hp, hi⟩ := rd_lst r3 hx3 e
    exact .inl ⟨p, xs, rfl, hp, fun a ha => q3.newL r3 (its_cut hi l u) h3 a ha⟩
  · rename_i z e
    cases rd_str r3 hx3 e
    exact .inr (.inr ⟨z, rfl, h3.1, q3.str r3 h3.2⟩)
  · exact h3.elim
end
end DL
namespace DL
open PySem PySem.Spec PyProof.Rows L2 Evl
section
variable {X : Cx} {K : PySem.W.Frag} {e : Expr} {es : List Expr} {x : Str} {p pos : Pos}

/-! ### built-in functions by slots -/
theorem pd_cb {id : String} {r : List V → Hp → VK → Prop} {d : DRA} {a : DA} (hc : CallR X (.builtin id) r) (hr : LRA X.K r d) (hv : bootBuiltins x = some (.builtin id)) (ha : PDA X (e :: es) a) (hm : X.mg x = none) (hg : Gl X x := by rfl)
    (hn : x ≠ "__name__" := by decide) (hdb : (x == ("__debug__" : Str)) = false := by decide)
    (he : starEach (e :: es) X.env = (false, eval e X.env) :: starEach es X.env := by rfl) (hpl : (backTo pos (starEach es X.env)).any (·.1) = false := by rfl) : PD X (.Call (.Name x p) (e :: es) [] pos) (dCB d a) := by
  obtain ⟨t, p1, l1⟩ := ha
  exact ⟨_, pe_callB hc hg hm hv p1 hn hdb he hpl, le_cb hr l1⟩
theorem pd_ct {T : String} {r : List V → Hp → VK → Prop} {d : DRA} {a : DA} (hc : CallR X (.type T) r) (hr : LRA X.K r d) (hv : bootBuiltins x = some (.type T)) (ha : PDA X (e :: es) a) (hm : X.mg x = none) (hg : Gl X x := by rfl)
    (hn : x ≠ "__name__" := by decide) (hdb : (x == ("__debug__" : Str)) = false := by decide)
    (he : starEach (e :: es) X.env = (false, eval e X.env) :: starEach es X.env := by rfl) (hpl : (backTo pos (starEach es X.env)).any (·.1) = false := by rfl) : PD X (.Call (.Name x p) (e :: es) [] pos) (dCB d a) := by
  obtain ⟨t, p1, l1⟩ := ha
  exact ⟨_, pe_callTy hc hg hm hv p1 hn hdb he hpl, le_cb hr l1⟩
theorem pd_cf {id : String} {r : List V → Hp → VK → Prop} {d : DRA} {a : DA} (hc : CallR X (.builtin id) r) (hr : LRA X.K r d) (ha : PDA X (e :: es) a) (hm : X.mg x = some (.builtin id)) (hg : Gl X x := by rfl)
    (hdb : (x == ("__debug__" : Str)) = false := by decide)
    (he : starEach (e :: es) X.env = (false, eval e X.env) :: starEach es X.env := by rfl) (hpl : (backTo pos (starEach es X.env)).any (·.1) = false := by rfl) : PD X (.Call (.Name x p) (e :: es) [] pos) (dCB d a) := by
  obtain ⟨t, p1, l1⟩ := ha
  exact ⟨_, pe_callBfun hc hg hm p1 hdb he hpl, le_cb hr l1⟩

def arg1 (f : PyData → Sl → Mu → DQ → Prop) : DRA := fun xs μ Q => match xs with
  | [x] => match rd μ x with
    | some d => f d x μ Q
    | none => False
  | _ => False
theorem arg1_of {f : PyData → Sl → Mu → DQ → Prop} {xs : List Sl} {μ : Mu} {Q : DQ} (h : arg1 f xs μ Q) : ∃ x d, xs = [x] ∧ rd μ x = some d ∧ f d x μ Q := by
  unfold arg1 at h
  split at h
  · rename_i x
    split at h
    · rename_i d e
      exact ⟨x, d, rfl, e, h⟩
    · exact h.elim
  · exact h.elim
theorem slAll1 {W : Wd} {vs : List V} {x : Sl} (h : SlAll K W vs [x]) : ∃ v, vs = [v] ∧ SlOk K W v x := by
  cases h with
  | cons a t =>
    cases t
    exact ⟨_, rfl, a⟩
theorem slAll2 {W : Wd} {vs : List V} {x y : Sl} (h : SlAll K W vs [x, y]) : ∃ v u, vs = [v, u] ∧ SlOk K W v x ∧ SlOk K W u y := by
  cases h with
  | cons a t =>
    obtain ⟨u, rfl, b⟩ := slAll1 t
    exact ⟨_, _, rfl, a, b⟩
def ints2A (f : Int → Int → PyData) (c : Int → Int → Prop) : DRA := fun xs μ Q => match xs with
  | [x, y] => ints2 f c x y μ Q
  | _ => False
theorem ints2A_of {f : Int → Int → PyData} {c : Int → Int → Prop} {xs : List Sl} {μ : Mu} {Q : DQ} (h : ints2A f c xs μ Q) {W : Wd} {H : Hp} {vs : List V} (r : Rep K W H μ) (hs : SlAll K W vs xs) : ∃ i j, vs = [.int i, .int j] ∧ c i j ∧ Q (.dat (f i j)) μ := by
  unfold ints2A at h
  split at h
  · obtain ⟨i, j, e1, e2, hc, h⟩ := ints2_of h
    obtain ⟨v, u, rfl, h1, h2⟩ := slAll2 hs
    cases rd_int r h1 e1
    cases rd_int r h2 e2
    exact ⟨i, j, rfl, hc, h⟩
  · exact h.elim

/-! #### len -/
def fLen : DRA := arg1 fun d _ μ Q => match d with
  | .list ds => Q (.dat (.int ds.length)) μ
  | .tuple ds => Q (.dat (.int ds.length)) μ
  | .str z => z.length ≤ sizeLine ∧ Q (.dat (.int z.length)) μ
  | _ => False
theorem pd_len {a : DA} (ha : PDA X (e :: es) a) (hm : X.mg "len" = none) (hg : Gl X "len" := by rfl)
    (he : starEach (e :: es) X.env = (false, eval e X.env) :: starEach es X.env := by rfl) (hpl : (backTo pos (starEach es X.env)).any (·.1) = false := by rfl) : PD X (.Call (.Name "len" p) (e :: es) [] pos) (dCB fLen a) := by
  refine pd_cb (call_len_seq.or call_len_str) (fun xs μ Q' h W H vs r hs Q q => ?_) PySem.boot_len ha hm hg (by decide) (by decide) he hpl
  obtain ⟨x, d, rfl, e1, h⟩ := arg1_of h
  obtain ⟨v, rfl, hx⟩ := slAll1 hs
  cases d with
  | list ds =>
    obtain ⟨a, ys, rfl, hl, hi⟩ := rd_lst r hx e1
    exact .inl ⟨a, ys, rfl, .inl hl, by rw [hi.length]; exact q.int r h⟩
  | tuple ds =>
    obtain ⟨a, ys, rfl, hl, hi⟩ := rd_tup r hx e1
    exact .inl ⟨a, ys, rfl, .inr hl, by rw [hi.length]; exact q.int r h⟩
  | str z =>
    cases rd_str r hx e1
    exact .inr ⟨z, rfl, h.1, q.int r h.2⟩
  | _ => exact False.elim h

/-! #### abs, max, min, int, divmod, gcd, lcm -/
def fAbs : DRA := arg1 fun d _ μ Q => match d with
  | .int i => Q (.dat (.int (if i < 0 then -i else i))) μ
  | _ => False
theorem pd_abs {a : DA} (ha : PDA X (e :: es) a) (hm : X.mg "abs" = none) (hg : Gl X "abs" := by rfl)
    (he : starEach (e :: es) X.env = (false, eval e X.env) :: starEach es X.env := by rfl) (hpl : (backTo pos (starEach es X.env)).any (·.1) = false := by rfl) : PD X (.Call (.Name "abs" p) (e :: es) [] pos) (dCB fAbs a) := by
  refine pd_cb call_abs (fun xs μ Q' h W H vs r hs Q q => ?_) (by decide +kernel) ha hm hg (by decide) (by decide) he hpl
  obtain ⟨x, d, rfl, e1, h⟩ := arg1_of h
  obtain ⟨v, rfl, hx⟩ := slAll1 hs
  cases d with
  | int i =>
    cases rd_int r hx e1
    exact ⟨i, rfl, q.int r h⟩
  | _ => exact False.elim h
def fMax2 : DRA := ints2A (fun i j => .int (if j > i then j else i)) fun _ _ => True
def fMin2 : DRA := ints2A (fun i j => .int (if j < i then j else i)) fun _ _ => True
theorem pd_max2 {a : DA} (hc : X.calm = true) (ha : PDA X (e :: es) a) (hm : X.mg "max" = none) (hg : Gl X "max" := by rfl)
    (he : starEach (e :: es) X.env = (false, eval e X.env) :: starEach es X.env := by rfl) (hpl : (backTo pos (starEach es X.env)).any (·.1) = false := by rfl) : PD X (.Call (.Name "max" p) (e :: es) [] pos) (dCB fMax2 a) :=
  pd_cb (call_max2 hc) (fun xs μ Q' h W H vs r hs Q q => let ⟨i, j, e1, _, h⟩ := ints2A_of h r hs; ⟨i, j, e1, q.int r h⟩) (by decide +kernel) ha hm hg (by decide) (by decide) he hpl
theorem pd_min2 {a : DA} (hc : X.calm = true) (ha : PDA X (e :: es) a) (hm : X.mg "min" = none) (hg : Gl X "min" := by rfl)
    (he : starEach (e :: es) X.env = (false, eval e X.env) :: starEach es X.env := by rfl) (hpl : (backTo pos (starEach es X.env)).any (·.1) = false := by rfl) : PD X (.Call (.Name "min" p) (e :: es) [] pos) (dCB fMin2 a) :=
  pd_cb (call_min2 hc) (fun xs μ Q' h W H vs r hs Q q => let ⟨i, j, e1, _, h⟩ := ints2A_of h r hs; ⟨i, j, e1, q.int r h⟩) (by decide +kernel) ha hm hg (by decide) (by decide) he hpl
def fInt : DRA := arg1 fun d _ μ Q => match d with
  | .int i => Q (.dat (.int i)) μ
  | .bool b => Q (.dat (.int (if b then 1 else 0))) μ
  | .str a => ∃ n, PySem.intText? a = some n ∧ a.length ≤ 640 ∧ Q (.dat (.int n)) μ
  | _ => False
theorem pd_intc {a : DA} (ha : PDA X (e :: es) a) (hm : X.mg "int" = none) (hg : Gl X "int" := by rfl)
    (he : starEach (e :: es) X.env = (false, eval e X.env) :: starEach es X.env := by rfl) (hpl : (backTo pos (starEach es X.env)).any (·.1) = false := by rfl) : PD X (.Call (.Name "int" p) (e :: es) [] pos) (dCB fInt a) := by
  refine pd_ct (call_int1.or call_int_str) (fun xs μ Q' h W H vs r hs Q q => ?_) (by decide +kernel) ha hm hg (by decide) (by decide) he hpl
  obtain ⟨x, d, rfl, e1, h⟩ := arg1_of h
  obtain ⟨v, rfl, hx⟩ := slAll1 hs
  cases d with
  | int i =>
    cases rd_int r hx e1
    exact .inl (.inl ⟨i, rfl, q.int r h⟩)
  | bool b =>
    cases rd_bool r hx e1
    exact .inl (.inr ⟨b, rfl, q.int r h⟩)
  | str z =>
    cases rd_str r hx e1
    obtain ⟨n, h1, h2, h3⟩ := h
    exact .inr ⟨z, n, rfl, h1, h2, q.int r h3⟩
  | _ => exact False.elim h
/-- divmod by a positive divisor below 2 ^ 9000 -/
def CDm (_ j : Int) : Prop := 0 < j ∧ j.natAbs.log2 < 9000
def fDm : DRA := ints2A (fun i j => .tuple [.int (i / j), .int (i % j)]) CDm
theorem pd_dm {a : DA} (ha : PDA X (e :: es) a) (hm : X.mg "divmod" = none) (hg : Gl X "divmod" := by rfl)
    (he : starEach (e :: es) X.env = (false, eval e X.env) :: starEach es X.env := by rfl) (hpl : (backTo pos (starEach es X.env)).any (·.1) = false := by rfl) : PD X (.Call (.Name "divmod" p) (e :: es) [] pos) (dCB fDm a) := by
  refine pd_cb call_divmodW (fun xs μ Q' h W H vs r hs Q q => ?_) (by decide +kernel) ha hm hg (by decide) (by decide) he hpl
  obtain ⟨i, j, rfl, hc, h⟩ := ints2A_of h r hs
  exact ⟨i, j, rfl, ⟨hc.1, PyProof.noPylong_of_log2 hc.2⟩, q.newT (b := false) r (.cons (.int _) (.cons (.int _) .nil)) h⟩
def fGcd : DRA := ints2A (fun i j => .int ((Nat.gcd i.natAbs j.natAbs : Nat) : Int)) fun _ _ => True
theorem pd_gcd {a : DA} (ha : PDA X (e :: es) a) (hm : X.mg x = some (.builtin "math.gcd")) (hg : Gl X x := by rfl) (hdb : (x == ("__debug__" : Str)) = false := by decide)
    (he : starEach (e :: es) X.env = (false, eval e X.env) :: starEach es X.env := by rfl) (hpl : (backTo pos (starEach es X.env)).any (·.1) = false := by rfl) : PD X (.Call (.Name x p) (e :: es) [] pos) (dCB fGcd a) :=
  pd_cf cr_gcd (fun xs μ Q' h W H vs r hs Q q => let ⟨i, j, e1, _, h⟩ := ints2A_of h r hs; ⟨i, j, e1, q.int r h⟩) ha hm hg hdb he hpl
/-- lcm of what is below 2 ^ 9000 -/
def CLcm (i j : Int) : Prop := i.natAbs.log2 < 9000 ∧ j.natAbs.log2 < 9000
theorem log2_max {a b c : Nat} (h1 : a.log2 < c) (h2 : b.log2 < c) : (max a b).log2 < c := by
  rcases Nat.le_total a b with h | h
  · rw [Nat.max_eq_right h]; exact h2
  · rw [Nat.max_eq_left h]; exact h1
theorem lt_of_log2 {n k : Nat} (h : n.log2 < k) : n < 2 ^ k := by
  rcases Nat.eq_zero_or_pos n with z | z
  · rw [z]; exact Nat.pow_pos (by decide)
  · exact (Nat.log2_lt (by omega)).mp h
theorem lcm_fits {a b : Int} (h : CLcm a b) : ((((Nat.lcm 1 a.natAbs).lcm b.natAbs : Nat) : Int)).natAbs.log2 < bitsLine := by
  have e : bitsLine = 134217728 := by decide
  rw [Int.natAbs_natCast, Nat.lcm_comm 1, show Nat.lcm a.natAbs 1 = a.natAbs from Nat.lcm_one_right _]
  have h1 : a.natAbs < 2 ^ 9000 := lt_of_log2 h.1
  have h2 : b.natAbs < 2 ^ 9000 := lt_of_log2 h.2
  have h3 : a.natAbs.lcm b.natAbs ≤ a.natAbs * b.natAbs := by
    rcases Nat.eq_zero_or_pos (a.natAbs * b.natAbs) with z | z
    · rcases Nat.mul_eq_zero.mp z with q | q <;> rw [q] <;> simp
    · exact Nat.le_of_dvd z (Nat.lcm_dvd (Nat.dvd_mul_right _ _) (Nat.dvd_mul_left _ _))
  have h4 : a.natAbs * b.natAbs < 2 ^ (9000 + 9000) := by
    rw [Nat.pow_add]
    exact Nat.mul_lt_mul'' h1 h2
  have h5 := PySem.Flt.log2_lt_of (by decide : 0 < 9000 + 9000) (Nat.lt_of_le_of_lt h3 h4)
  omega
end
end DL
namespace DL
open PySem PySem.Spec PyProof.Rows L2 Evl
section
variable {X : Cx} {K : PySem.W.Frag} {e : Expr} {es : List Expr} {x : Str} {p pos : Pos}
def rLcmV : List V → Hp → VK → Prop := fun vs H Q => ∃ a b : Int, vs = [.int a, .int b] ∧ CLcm a b ∧ Q (.int ((Nat.lcm a.natAbs b.natAbs : Nat) : Int)) H
theorem cr_lcm : CallR X (.builtin "math.lcm") rLcmV := by
  intro pins s σ H vs us Q I r h
  obtain ⟨a, b, rfl, hc, q⟩ := h
  obtain ⟨t, u, rfl⟩ := Vals.int2 r
  have m1 : (max 1 a.natAbs).log2 < 9000 := log2_max (by decide) hc.1
  have m2 : (max a.natAbs b.natAbs).log2 < 9000 := log2_max hc.1 hc.2
  have g := PySem.W.mg_run_lcm a t b u (by omega) (by omega) (lcm_fits hc)
  have e1 : (Nat.lcm 1 a.natAbs).lcm b.natAbs = a.natAbs.lcm b.natAbs := by rw [Nat.lcm_comm 1, show Nat.lcm a.natAbs 1 = a.natAbs from Nat.lcm_one_right _]
  rw [e1] at g
  exact PySem.call_function_meets PySem.W.MGF.kind_lcm PySem.W.MGF.plain_lcm PySem.W.MGF.entry_lcm (PySem.W.MGF.args_lcm _ _) g.meets ⟨.int _, H, I.tok _, ⟨_, rfl⟩, q⟩
def fLcm : DRA := ints2A (fun i j => .int ((Nat.lcm i.natAbs j.natAbs : Nat) : Int)) CLcm
theorem pd_lcm {a : DA} (ha : PDA X (e :: es) a) (hm : X.mg x = some (.builtin "math.lcm")) (hg : Gl X x := by rfl) (hdb : (x == ("__debug__" : Str)) = false := by decide)
    (he : starEach (e :: es) X.env = (false, eval e X.env) :: starEach es X.env := by rfl) (hpl : (backTo pos (starEach es X.env)).any (·.1) = false := by rfl) : PD X (.Call (.Name x p) (e :: es) [] pos) (dCB fLcm a) :=
  pd_cf cr_lcm (fun xs μ Q' h W H vs r hs Q q => let ⟨i, j, e1, hc, h⟩ := ints2A_of h r hs; ⟨i, j, e1, hc, q.int r h⟩) ha hm hg hdb he hpl

/-! #### sum, all, any -/
def intsOf : List PyData → Option (List Int)
  | [] => some []
  | .int i :: r => (intsOf r).map (i :: ·)
  | _ :: _ => none
def boolsOf : List PyData → Option (List Bool)
  | [] => some []
  | .bool i :: r => (boolsOf r).map (i :: ·)
  | _ :: _ => none
theorem intsOf_map : ∀ (is : List Int), intsOf (is.map PyData.int) = some is
  | [] => rfl
  | i :: is => by
    show (intsOf (is.map PyData.int)).map (i :: ·) = _
    rw [intsOf_map is]; rfl
theorem boolsOf_map : ∀ (is : List Bool), boolsOf (is.map PyData.bool) = some is
  | [] => rfl
  | i :: is => by
    show (boolsOf (is.map PyData.bool)).map (i :: ·) = _
    rw [boolsOf_map is]; rfl
theorem of_intsOf : ∀ {ds : List PyData} {is : List Int}, intsOf ds = some is → ds = is.map PyData.int
  | [], _, h => by cases h; rfl
  | .int i :: r, _, h => by
    replace h : (intsOf r).map (i :: ·) = _ := h
    cases q : intsOf r with
    | none => rw [q] at h; cases h
    | some z => rw [q] at h; cases h; rw [of_intsOf q]; rfl
  | .none :: _, _, h => by cases h
  | .bool _ :: _, _, h => by cases h
  | .str _ :: _, _, h => by cases h
  | .list _ :: _, _, h => by cases h
  | .tuple _ :: _, _, h => by cases h
  | .dict _ :: _, _, h => by cases h
theorem of_boolsOf : ∀ {ds : List PyData} {is : List Bool}, boolsOf ds = some is → ds = is.map PyData.bool
  | [], _, h => by cases h; rfl
  | .bool i :: r, _, h => by
    replace h : (boolsOf r).map (i :: ·) = _ := h
    cases q : boolsOf r with
    | none => rw [q] at h; cases h
    | some z => rw [q] at h; cases h; rw [of_boolsOf q]; rfl
  | .none :: _, _, h => by cases h
  | .int _ :: _, _, h => by cases h
  | .str _ :: _, _, h => by cases h
  | .list _ :: _, _, h => by cases h
  | .tuple _ :: _, _, h => by cases h
  | .dict _ :: _, _, h => by cases h
def fSum : DRA := arg1 fun d _ μ Q => match d with
  | .list ds => match intsOf ds with
    | some is => Q (.dat (.int is.sum)) μ
    | none => False
  | _ => False
def fBools (f : List Bool → Bool) : DRA := arg1 fun d _ μ Q => match d with
  | .list ds => match boolsOf ds with
    | some is => Q (.dat (.bool (f is))) μ
    | none => False
  | _ => False
def fAll : DRA := fBools fun bs => bs.all id
def fAny : DRA := fBools fun bs => bs.any id
theorem pd_sum {a : DA} (hc : X.calm = true) (ha : PDA X (e :: es) a) (hm : X.mg "sum" = none) (hg : Gl X "sum" := by rfl)
    (he : starEach (e :: es) X.env = (false, eval e X.env) :: starEach es X.env := by rfl) (hpl : (backTo pos (starEach es X.env)).any (·.1) = false := by rfl) : PD X (.Call (.Name "sum" p) (e :: es) [] pos) (dCB fSum a) := by
  refine pd_cb (cr_sum hc) (fun xs μ Q' h W H vs r hs Q q => ?_) (by decide +kernel) ha hm hg (by decide) (by decide) he hpl
  obtain ⟨x, d, rfl, e1, h⟩ := arg1_of h
  obtain ⟨v, rfl, hx⟩ := slAll1 hs
  cases d with
  | list ds =>
    replace h : (match intsOf ds with | some is => Q' (.dat (.int is.sum)) μ | none => False) := h
    cases qq : intsOf ds with
    | none => rw [qq] at h; exact h.elim
    | some is =>
      rw [qq] at h
      cases of_intsOf qq
      obtain ⟨a, ys, rfl, hl, hi⟩ := rd_lst r hx e1
      cases DvAll.of_ints is hi
      exact ⟨a, is, rfl, hl, q.int r h⟩
  | _ => exact False.elim h
theorem pd_all {a : DA} (hc : X.calm = true) (ha : PDA X (e :: es) a) (hm : X.mg "all" = none) (hg : Gl X "all" := by rfl)
    (he : starEach (e :: es) X.env = (false, eval e X.env) :: starEach es X.env := by rfl) (hpl : (backTo pos (starEach es X.env)).any (·.1) = false := by rfl) : PD X (.Call (.Name "all" p) (e :: es) [] pos) (dCB fAll a) := by
  refine pd_cb (cr_all hc) (fun xs μ Q' h W H vs r hs Q q => ?_) (by decide +kernel) ha hm hg (by decide) (by decide) he hpl
  unfold fAll fBools at h
  obtain ⟨x, d, rfl, e1, h⟩ := arg1_of h
  obtain ⟨v, rfl, hx⟩ := slAll1 hs
  cases d with
  | list ds =>
    replace h : (match boolsOf ds with | some is => Q' (.dat (.bool (is.all id))) μ | none => False) := h
    cases qq : boolsOf ds with
    | none => rw [qq] at h; exact h.elim
    | some is =>
      rw [qq] at h
      cases of_boolsOf qq
      obtain ⟨a, ys, rfl, hl, hi⟩ := rd_lst r hx e1
      cases DvAll.of_bools is hi
      exact ⟨a, is, rfl, hl, q.bl r h⟩
  | _ => exact False.elim h
theorem pd_any {a : DA} (hc : X.calm = true) (ha : PDA X (e :: es) a) (hm : X.mg "any" = none) (hg : Gl X "any" := by rfl)
    (he : starEach (e :: es) X.env = (false, eval e X.env) :: starEach es X.env := by rfl) (hpl : (backTo pos (starEach es X.env)).any (·.1) = false := by rfl) : PD X (.Call (.Name "any" p) (e :: es) [] pos) (dCB fAny a) := by
  refine pd_cb (cr_any hc) (fun xs μ Q' h W H vs r hs Q q => ?_) (by decide +kernel) ha hm hg (by decide) (by decide) he hpl
  unfold fAny fBools at h
  obtain ⟨x, d, rfl, e1, h⟩ := arg1_of h
  obtain ⟨v, rfl, hx⟩ := slAll1 hs
  cases d with
  | list ds =>
    replace h : (match boolsOf ds with | some is => Q' (.dat (.bool (is.any id))) μ | none => False) := h
    cases qq : boolsOf ds with
    | none => rw [qq] at h; exact h.elim
    | some is =>
      rw [qq] at h
      cases of_boolsOf qq
      obtain ⟨a, ys, rfl, hl, hi⟩ := rd_lst r hx e1
      cases DvAll.of_bools is hi
      exact ⟨a, is, rfl, hl, q.bl r h⟩
  | _ => exact False.elim h

/-! #### tuple(xs), list(xs) -/
def fTuple : DRA := arg1 fun d x μ Q => match d with
  | .list ds => Q (mk (isV x) (.tuple ds)) μ
  | .tuple ds => Q (mk (isV x) (.tuple ds)) μ
  | _ => False
def fList : DRA := arg1 fun d x μ Q => match d with
  | .list ds => Q (mk (isV x) (.list ds)) μ
  | .tuple ds => Q (mk (isV x) (.list ds)) μ
  | _ => False
/-- a list that is to change -/
def fListC : DRA := arg1 fun d x μ Q => match d with
  | .list ds => isV x = false ∧ Q (.cell μ.length) (μ ++ [.lst ds])
  | .tuple ds => isV x = false ∧ Q (.cell μ.length) (μ ++ [.lst ds])
  | _ => False
theorem pd_tuple {a : DA} (ha : PDA X (e :: es) a) (hm : X.mg "tuple" = none) (hg : Gl X "tuple" := by rfl)
    (he : starEach (e :: es) X.env = (false, eval e X.env) :: starEach es X.env := by rfl) (hpl : (backTo pos (starEach es X.env)).any (·.1) = false := by rfl) : PD X (.Call (.Name "tuple" p) (e :: es) [] pos) (dCB fTuple a) := by
  refine pd_ct call_tuple_of (fun xs μ Q' h W H vs r hs Q q => ?_) (by decide +kernel) ha hm hg (by decide) (by decide) he hpl
  obtain ⟨x, d, rfl, e1, h⟩ := arg1_of h
  obtain ⟨v, rfl, hx⟩ := slAll1 hs
  cases d with
  | list ds =>
    obtain ⟨a, ys, rfl, hl, hi⟩ := rd_lst r hx e1
    exact ⟨a, ys, rfl, .inl ⟨hl, q.newT r hi h⟩⟩
  | tuple ds =>
    obtain ⟨a, ys, rfl, hl, hi⟩ := rd_tup r hx e1
    exact ⟨a, ys, rfl, .inr ⟨hl, q _ _ W H μ (Le.refl W) r (slOk_mk (rd_tup_v hx e1)) h⟩⟩
  | _ => exact False.elim h
theorem pd_list {a : DA} (ha : PDA X (e :: es) a) (hm : X.mg "list" = none) (hg : Gl X "list" := by rfl)
    (he : starEach (e :: es) X.env = (false, eval e X.env) :: starEach es X.env := by rfl) (hpl : (backTo pos (starEach es X.env)).any (·.1) = false := by rfl) : PD X (.Call (.Name "list" p) (e :: es) [] pos) (dCB fList a) := by
  refine pd_ct call_list_of (fun xs μ Q' h W H vs r hs Q q => ?_) (by decide +kernel) ha hm hg (by decide) (by decide) he hpl
  obtain ⟨x, d, rfl, e1, h⟩ := arg1_of h
  obtain ⟨v, rfl, hx⟩ := slAll1 hs
  cases d with
  | list ds =>
    obtain ⟨a, ys, rfl, hl, hi⟩ := rd_lst r hx e1
    exact ⟨a, ys, rfl, .inl hl, q.newL r hi h⟩
  | tuple ds =>
    obtain ⟨a, ys, rfl, hl, hi⟩ := rd_tup r hx e1
    exact ⟨a, ys, rfl, .inr hl, q.newL r hi h⟩
  | _ => exact False.elim h
theorem pd_listC {a : DA} (ha : PDA X (e :: es) a) (hm : X.mg "list" = none) (hg : Gl X "list" := by rfl)
    (he : starEach (e :: es) X.env = (false, eval e X.env) :: starEach es X.env := by rfl) (hpl : (backTo pos (starEach es X.env)).any (·.1) = false := by rfl) : PD X (.Call (.Name "list" p) (e :: es) [] pos) (dCB fListC a) := by
  refine pd_ct call_list_of (fun xs μ Q' h W H vs r hs Q q => ?_) (by decide +kernel) ha hm hg (by decide) (by decide) he hpl
  obtain ⟨x, d, rfl, e1, h⟩ := arg1_of h
  obtain ⟨v, rfl, hx⟩ := slAll1 hs
  cases d with
  | list ds =>
    obtain ⟨a, ys, rfl, hl, hi⟩ := rd_lst r hx e1
    unfold Its at hi
    rw [h.1] at hi
    exact ⟨a, ys, rfl, .inl hl, q.newCell r hi h.2⟩
  | tuple ds =>
    obtain ⟨a, ys, rfl, hl, hi⟩ := rd_tup r hx e1
    unfold Its at hi
    rw [h.1] at hi
    exact ⟨a, ys, rfl, .inr hl, q.newCell r hi h.2⟩
  | _ => exact False.elim h

/-! #### isinstance(e, T) -/
inductive Ty5 where
  | int | bool | str | tup | lst
def Ty5.nm : Ty5 → String
  | .int => "int"
  | .bool => "bool"
  | .str => "str"
  | .tup => "tuple"
  | .lst => "list"
def isTy : Ty5 → PyData → Bool
  | .int, .int _ => true
  | .int, .bool _ => true
  | .bool, .bool _ => true
  | .str, .str _ => true
  | .tup, .tuple _ => true
  | .lst, .list _ => true
  | _, _ => false
def tyN : PyData → String
  | .none => "NoneType"
  | .bool _ => "bool"
  | .int _ => "int"
  | .str _ => "str"
  | .list _ => "list"
  | .tuple _ => "tuple"
  | .dict _ => "dict"
theorem kit_of5 (T : Ty5) (d : PyData) : PySem.W.kitOne K (.type (tyN d)) (.type T.nm) = some (isTy T d) := by
  cases T <;> cases d <;> refine kit_ty ?_ <;> simp only [tyN, Ty5.nm, isTy] <;> decide +kernel
theorem tyX_of {H : Hp} {v : V} {d : PyData} (h : Dv K H v d) : TyX K H v (.type (tyN d)) := by
  cases h with
  | non => exact .base .non
  | bl b => exact .base (.bl b)
  | int i => exact .base (.int i)
  | str z => exact .base (.str z)
  | lst hs _ =>
    rcases hs with (hs | ⟨o, hs⟩) | ⟨o, its, n, hk, hc, _⟩
    · exact .base (.lst hs)
    · exact .base (.frz hs)
    · exact .kList hk hc
  | tup hs _ =>
    rcases hs with (hs | ⟨o, hs⟩) | ⟨o, its, n, hk, hc, _⟩
    · exact .base (.tup hs)
    · exact .fTuple hs
    · exact .kTuple hk hc
  | emp hs => exact .base (.dK hs)
def fIsi (T : Ty5) : DR1 := fun x μ Q => match rd μ x with
  | some d => Q (.dat (.bool (isTy T d))) μ
  | none => False
theorem pd_isi (T : Ty5) {c : Str} {cp : Pos} {d : DE} (ha : PD X e d) (hm : X.mg "isinstance" = none) (hmc : X.mg c = none) (hv : bootBuiltins c = some (.type T.nm)) (hg : Gl X "isinstance" := by rfl) (hgc : Gl X c := by rfl)
    (hn : c ≠ "__name__" := by decide) (hdb : (c == ("__debug__" : Str)) = false := by decide)
    (he : starEach [e, .Name c cp] X.env = (false, eval e X.env) :: starEach [.Name c cp] X.env := by rfl) (he2 : starEach [.Name c cp] X.env = (false, eval (.Name c cp) X.env) :: starEach [] X.env := by rfl)
    (hpl : (backTo pos (starEach [.Name c cp] X.env)).any (·.1) = false := by rfl) : PD X (.Call (.Name "isinstance" p) [e, .Name c cp] [] pos) (dUn (fIsi T) d) := by
  obtain ⟨t, p1, l1⟩ := ha
  refine ⟨_, pe_callB call_isi hg hm (by decide +kernel) (pa_cons p1 (pa_cons (pe_bltn (v := .ty T.nm) hgc hmc hv rfl hn hdb) pa_nil he2) he) (by decide) (by decide) he hpl, fun ρ μ Q' h W σ H henv rp Q q =>
    l1 ρ μ _ h W σ H henv rp _ fun v s W1 H1 μ1 le1 r1 hs h1 => ?_⟩
  replace h1 : (match rd μ1 s with | some d => Q' (.dat (.bool (isTy T d))) μ1 | none => False) := h1
  cases ee : rd μ1 s with
  | none => rw [ee] at h1; exact h1.elim
  | some z =>
    rw [ee] at h1
    exact ⟨v, .ty T.nm, .type (tyN z), .type T.nm, isTy T z, rfl, .ty _, tyX_of (rd_dp r1 hs ee), kit_of5 T z, (q.le le1).bl r1 h1⟩
end
end DL
namespace DL
open PySem PySem.Spec PyProof.Rows L2 Evl

/-! ### small statements -/
def dNext : DS := fun D ρ μ => D.nx ρ μ
def dSeq (a b : DS) : DS := fun D ρ μ => a { D with nx := b D } ρ μ
def dAsg (d : DE) (i : Nat) : DS := fun D ρ μ => d ρ μ fun s μ1 => D.nx (ρ.set i (some s)) μ1
def dRet (d : DE) : DS := fun D ρ μ => d ρ μ D.rt
def dRetN : DS := fun D _ μ => D.rt (.dat .none) μ
def dIfS (t : DT) (a b : DS) : DS := fun D ρ μ => t ρ μ fun c μ1 => if c = true then a D ρ μ1 else b D ρ μ1
def dDrop (d : DE) : DS := fun D ρ μ => d ρ μ fun _ μ1 => D.nx ρ μ1
def dNever : DS := fun _ _ _ => False
def dCont : DS := fun D ρ μ => D.ct ρ μ
def dBreak : DS := fun D ρ μ => D.bk ρ μ
def dAug (i : Nat) (r : DR2) (d : DE) : DS := fun D ρ μ => dVar i ρ μ fun x μ0 => d ρ μ0 fun y μ1 => r x y μ1 fun z μ2 => D.nx (ρ.set i (some z)) μ2
def dPar (i j : Nat) (a : DA) : DS := fun D ρ μ => a ρ μ fun ss μ1 => match ss with
  | [s, t] => D.nx ((ρ.set i (some s)).set j (some t)) μ1
  | _ => False
section
variable {K : PySem.W.Frag} {W : Wd}
theorem EndsOk.with_nx {D' : DEnds} {D : Ends} (h : EndsOk K W D' D) {nx' : Rho → Mu → Prop} {nx : L2.St → Hp → Prop} (hn : NOk K W nx' nx) : EndsOk K W { D' with nx := nx' } { D with nx := nx } := ⟨hn, h.rt, h.bk, h.ct⟩
end
section
variable {X : Cx} {K : PySem.W.Frag} {st : Stmt} {rest : List Stmt} {e : Expr} {pos : Pos} {d : DE} {t : DT} {a b : DS}
theorem pds_nil : PDSs X [] dNext := ⟨_, pss_nil, fun D' ρ μ h W σ H he r D hd => hd.nx σ ρ W H μ (Le.refl W) r he h⟩
theorem pds_cons (h1 : PDS X st a) (h2 : PDSs X rest b) : PDSs X (st :: rest) (dSeq a b) := by
  obtain ⟨t1, p1, l1⟩ := h1
  obtain ⟨t2, p2, l2⟩ := h2
  exact ⟨_, pss_cons p1 p2, fun D' ρ μ h W σ H he r D hd => l1 _ ρ μ h W σ H he r _ (hd.with_nx fun σ1 ρ1 W1 H1 μ1 le1 r1 he1 q => l2 D' ρ1 μ1 q W1 σ1 H1 he1 r1 D (hd.le le1))⟩
theorem pds_one (h1 : PDS X st a) : PDSs X [st] a := by
  obtain ⟨t1, p1, l1⟩ := h1
  exact ⟨_, pss_one p1, l1⟩
theorem pd_pass : PDS X (.Pass pos) dNext := ⟨_, ps_pass, fun D' ρ μ h W σ H he r D hd => hd.nx σ ρ W H μ (Le.refl W) r he h⟩
theorem pd_cont : PDS X (.Continue pos) dCont := ⟨_, ps_continue, fun D' ρ μ h W σ H he r D hd => hd.ct σ ρ W H μ (Le.refl W) r he h⟩
theorem pd_break : PDS X (.Break pos) dBreak := ⟨_, ps_break, fun D' ρ μ h W σ H he r D hd => hd.bk σ ρ W H μ (Le.refl W) r he h⟩
theorem pd_never : PDS X st dNever := ⟨_, ps_never, fun D' ρ μ h W σ H he r D hd => h.elim⟩
theorem pds_never {sts : List Stmt} : PDSs X sts dNever := ⟨_, pss_never, fun D' ρ μ h W σ H he r D hd => h.elim⟩
theorem pd_ret (h : PD X e d) : PDS X (.Return (some e) pos) (dRet d) := by
  obtain ⟨t, p, l⟩ := h
  exact ⟨_, ps_ret p, fun D' ρ μ h W σ H he r D hd => l ρ μ _ h W σ H he r _ hd.rt⟩
theorem pd_retN : PDS X (.Return none pos) dRetN := ⟨_, ps_retN, fun D' ρ μ h W σ H he r D hd => hd.rt.dat r .non h⟩
theorem pd_expr (h : PD X e d) (hs : swapsWith e none pos.line X.env = pure false := by rfl) : PDS X (.Expr e pos) (dDrop d) := by
  obtain ⟨t, p, l⟩ := h
  exact ⟨_, ps_expr p hs, fun D' ρ μ h W σ H he r D hd => l ρ μ _ h W σ H he r _ fun v s W1 H1 μ1 le1 r1 hs q => hd.nx σ ρ W1 H1 μ1 le1 r1 (he.mono le1) q⟩
theorem pd_set {i : Nat} {x : Str} {pos' : Pos} (hN : X.N.Nodup) (h : PD X e d) (hi : X.N[i]? = some x := by rfl) (hx : Loc X.env.scope x := by exact Or.inl rfl) (hs : swapsWith e (some (.Name x pos')) pos.line X.env = pure false := by rfl)
    (hf : X.fn x = true ∨ X.env.scope.names.lookup x = some .local := by exact .inl rfl) : PDS X (.Assign [.Name x pos'] e pos) (dAsg d i) := by
  obtain ⟨t, p, l⟩ := h
  exact ⟨_, ps_set hN hi hx p hs hf, fun D' ρ μ h W σ H he r D hd => l ρ μ _ h W σ H he r _ fun v s W1 H1 μ1 le1 r1 hs q => hd.nx _ _ W1 H1 μ1 le1 r1 ((he.mono le1).set i hs) q⟩
theorem pd_if {c : Expr} {sa sb : List Stmt} (hc : PDT X c t) (ha : PDSs X sa a) (hb : PDSs X sb b) : PDS X (.If c sa sb pos) (dIfS t a b) := by
  obtain ⟨tc, p, l⟩ := hc
  obtain ⟨t1, p1, l1⟩ := ha
  obtain ⟨t2, p2, l2⟩ := hb
  refine ⟨_, ps_if p p1 p2, fun D' ρ μ h W σ H he r D hd => l ρ μ _ h W σ H he r _ fun k W1 H1 μ1 le1 r1 q => ?_⟩
  cases k with
  | true => exact l1 D' ρ μ1 q W1 σ H1 (he.mono le1) r1 D (hd.le le1)
  | false => exact l2 D' ρ μ1 q W1 σ H1 (he.mono le1) r1 D (hd.le le1)
theorem pd_par {i j : Nat} {x y : Str} {e1 e2 : Expr} {ar : DA} {px py pt : Pos} {kt k2 pt2} (hc : X.calm = true) (hN : X.N.Nodup) (ha : PDA X [e1, e2] ar) (hi : X.N[i]? = some x := by rfl) (hj : X.N[j]? = some y := by rfl) (hij : i ≠ j := by decide)
    (hx : X.env.scope.names.lookup x = some .local := by rfl) (hy : X.env.scope.names.lookup y = some .local := by rfl)
    (hw : swappedStores [.Tuple [.Name x px, .Name y py] kt pt] (.Tuple [e1, e2] k2 pt2) X.env = pure (some [x, y]) := by rfl)
    (hs : swapsWithSole [.Tuple [.Name x px, .Name y py] kt pt] (.Tuple [e1, e2] k2 pt2) pos.line X.env = pure false := by rfl) :
    PDS X (.Assign [.Tuple [.Name x px, .Name y py] kt pt] (.Tuple [e1, e2] k2 pt2) pos) (dPar i j ar) := by
  obtain ⟨t, p, l⟩ := ha
  refine ⟨_, ps_par hc hN hi hj hij hx hy p hw hs, fun D' ρ μ h W σ H he r D hd => l ρ μ _ h W σ H he r _ fun vs ss W1 H1 μ1 le1 r1 hss q => ?_⟩
  match ss, hss, q with
  | [s, t], hss, q =>
    obtain ⟨v, u, rfl, h1, h2⟩ := slAll2 hss
    exact ⟨v, u, rfl, hd.nx _ _ W1 H1 μ1 le1 r1 (((he.mono le1).set i h1).set j h2) q⟩
theorem pd_aug {i : Nat} {x : Str} {op : Operator} {pos' : Pos} {r : R2} {dr : DR2} (ho : OpR X (inplaceOp op) r) (hr : LR2 X.K r dr) (hN : X.N.Nodup) (h : PD X e d) (hi : X.N[i]? = some x := by rfl) (hx : Loc X.env.scope x := by exact Or.inl rfl)
    (hf : X.fn x = true ∨ X.env.scope.names.lookup x = some .local := by exact .inl rfl) : PDS X (.AugAssign (.Name x pos') op e pos) (dAug i dr d) := by
  obtain ⟨t, p, l⟩ := h
  refine ⟨_, ps_aug hN hi hx p ho hf, fun D' ρ μ h W σ H he rp D hd => ?_⟩
  replace h : dVar i ρ μ _ := h
  unfold dVar at h
  cases e1 : ρ[i]? with
  | none => rw [e1] at h; exact h.elim
  | some o =>
    rw [e1] at h
    cases o with
    | none => exact h.elim
    | some s =>
      obtain ⟨v, h1, h2⟩ := he.get i s e1
      exact ⟨v, h1, l ρ μ _ h W σ H he rp _ fun u y W1 H1 μ1 le1 r1 hy q => hr s y μ1 _ q W1 H1 v u r1 (h2.mono le1) hy _ fun w z W2 H2 μ2 le2 r2 hz q2 =>
        hd.nx _ _ W2 H2 μ2 (le1.trans le2) r2 ((he.mono (le1.trans le2)).set i hz) q2⟩
theorem iop_addV : OpR X (inplaceOp .Add) (fun x y H Q => rI0 (fun i j => .int (i + j)) x y H Q ∨ ∃ i j, x = .str i ∧ y = .str j ∧ i.length + j.length ≤ sizeLine ∧ Q (.str (i ++ j)) H) := iop_add.or iop_add_str
def rIadd : DR2 := fun x y μ Q => match rd μ x, rd μ y with
  | some (.int i), some (.int j) => Q (.dat (.int (i + j))) μ
  | some (.str i), some (.str j) => i.length + j.length ≤ sizeLine ∧ Q (.dat (.str (i ++ j))) μ
  | _, _ => False
theorem lr_iadd : LR2 K (fun x y H Q => rI0 (fun i j => .int (i + j)) x y H Q ∨ ∃ i j, x = .str i ∧ y = .str j ∧ i.length + j.length ≤ sizeLine ∧ Q (.str (i ++ j)) H) rIadd := fun x y μ Q' h W H vx vy r hx hy Q q => by
  unfold rIadd at h
  split at h
  · rename_i i j e1 e2
    cases rd_int r hx e1
    cases rd_int r hy e2
    exact .inl ⟨i, j, rfl, rfl, q.int r h⟩
  · rename_i i j e1 e2
    cases rd_str r hx e1
    cases rd_str r hy e2
    exact .inr ⟨i, j, rfl, rfl, h.1, q.str r h.2⟩
  · exact h.elim
theorem pd_augAdd {i : Nat} {x : Str} {pos' : Pos} (hN : X.N.Nodup) (h : PD X e d) (hi : X.N[i]? = some x := by rfl) (hx : Loc X.env.scope x := by exact Or.inl rfl)
    (hf : X.fn x = true ∨ X.env.scope.names.lookup x = some .local := by exact .inl rfl) : PDS X (.AugAssign (.Name x pos') .Add e pos) (dAug i rIadd d) := pd_aug iop_addV lr_iadd hN h hi hx hf
theorem pd_augSub {i : Nat} {x : Str} {pos' : Pos} (hN : X.N.Nodup) (h : PD X e d) (hi : X.N[i]? = some x := by rfl) (hx : Loc X.env.scope x := by exact Or.inl rfl)
    (hf : X.fn x = true ∨ X.env.scope.names.lookup x = some .local := by exact .inl rfl) : PDS X (.AugAssign (.Name x pos') .Sub e pos) (dAug i rSub d) := pd_aug iop_sub (lr_I0 fun _ _ _ => .int _) hN h hi hx hf
end

/-! ### targets -/
abbrev DG := Sl → Rho → Mu → (Rho → Mu → Prop) → Prop
abbrev DGs := List Sl → Rho → Mu → (Rho → Mu → Prop) → Prop
def LG (K : PySem.W.Frag) (g : TG) (d : DG) : Prop := ∀ s ρ μ Q', d s ρ μ Q' → ∀ W σ H v, EnvOk K W σ ρ → Rep K W H μ → SlOk K W v s → ∀ Q, NOk K W Q' Q → g v σ H Q
def LGs (K : PySem.W.Frag) (g : TGs) (d : DGs) : Prop := ∀ ss ρ μ Q', d ss ρ μ Q' → ∀ W σ H vs, EnvOk K W σ ρ → Rep K W H μ → SlAll K W vs ss → ∀ Q, NOk K W Q' Q → g vs σ H Q
structure PDG (X : Cx) (t : Expr) (d : DG) : Prop where
  ex : ∃ g, PG X t g ∧ LG X.K g d
structure PDGs (X : Cx) (ts : List Expr) (d : DGs) : Prop where
  ex : ∃ g, PGs X ts g ∧ LGs X.K g d
def gN (i : Nat) : DG := fun s ρ μ Q => Q (ρ.set i (some s)) μ
def gsNil : DGs := fun ss ρ μ Q => match ss with
  | [] => Q ρ μ
  | _ => False
def gsCons (g : DG) (gs : DGs) : DGs := fun ss ρ μ Q => match ss with
  | s :: r => g s ρ μ fun ρ1 μ1 => gs r ρ1 μ1 Q
  | [] => False
def gT (n : Nat) (gs : DGs) : DG := fun s ρ μ Q => match rd μ s with
  | some (.tuple ds) => ds.length = n ∧ gs (ds.map (elt s)) ρ μ Q
  | _ => False
/-- o[i] = v, o a cell -/
def wrL (o i v : Sl) (μ : Mu) (Q : Mu → Prop) : Prop := match o, i, v with
  | .cell k, .dat (.int j), .dat d => match μ[k]? with
    | some (.lst ds) => ∃ m, ixN ds.length j = some m ∧ Q (μ.set k (.lst (ds.set m d)))
    | _ => False
  | _, _, _ => False
def gS (o i : DE) : DG := fun s ρ μ Q => o ρ μ fun x μ1 => i ρ μ1 fun y μ2 => wrL x y s μ2 fun μ3 => Q ρ μ3
def dAsgG (d : DE) (g : DG) : DS := fun D ρ μ => d ρ μ fun s μ1 => g s ρ μ1 D.nx
section
variable {X : Cx} {K : PySem.W.Frag} {pos : Pos} {e : Expr} {es : List Expr} {d : DE}
theorem its_sl {W : Wd} {s : Sl} : ∀ {xs : List V} {ds : List PyData}, DvAll K (bh W (isV s)) xs ds → SlAll K W xs (ds.map (elt s))
  | _, _, .nil => .nil
  | _, _, .cons a t => .cons (slOk_mk a) (its_sl t)
theorem pdg_name {i : Nat} {x : Str} (hN : X.N.Nodup) (hi : X.N[i]? = some x := by rfl) (hx : Loc X.env.scope x := by exact Or.inl rfl) (hf : X.fn x = true ∨ X.env.scope.names.lookup x = some .local := by first | exact .inl rfl | exact .inr rfl) : PDG X (.Name x pos) (gN i) :=
  ⟨_, pg_name hN hi hx hf, fun s ρ μ Q' h W σ H v he r hs Q q => q _ _ W H μ (Le.refl W) r (he.set i hs) h⟩
theorem pdgs_nil : PDGs X [] gsNil := ⟨_, pgs_nil, fun ss ρ μ Q' h W σ H vs he r hs Q q => by
  cases ss with
  | nil => cases hs; exact ⟨rfl, q _ _ W H μ (Le.refl W) r he h⟩
  | cons s r => exact False.elim h⟩
theorem pdgs_cons {g : DG} {gs : DGs} (h1 : PDG X e g) (h2 : PDGs X es gs) (hs : (assignEach (e :: es) X.env).map (·.2) = assign e X.env :: (assignEach es X.env).map (·.2) := by rfl) : PDGs X (e :: es) (gsCons g gs) := by
  obtain ⟨t1, p1, l1⟩ := h1
  obtain ⟨t2, p2, l2⟩ := h2
  refine ⟨_, pgs_cons p1 p2 hs, fun ss ρ μ Q' h W σ H vs he r hss Q q => ?_⟩
  cases hss with
  | nil => exact False.elim h
  | cons a t =>
    exact ⟨_, _, rfl, l1 _ ρ μ _ h W σ H _ he r a _ fun σ1 ρ1 W1 H1 μ1 le1 r1 he1 h1 => l2 _ ρ1 μ1 Q' h1 W1 σ1 H1 _ he1 r1 (SlAll.mono le1 t) Q (q.le le1)⟩
theorem pdg_tup {k n : Nat} {gs : DGs} (hc : X.calm = true) (h : PDGs X es gs) (hn : (assignEach es X.env).length = n := by rfl) (hst : (assignEach es X.env).findIdx? (·.1) = none := by rfl) : PDG X (.Tuple es k pos) (gT n gs) := by
  obtain ⟨t1, p1, l1⟩ := h
  refine ⟨_, pg_tup hc p1 hn hst, fun s ρ μ Q' h W σ H v he r hs Q q => ?_⟩
  unfold gT at h
  split at h
  · rename_i ds e1
    obtain ⟨a, xs, rfl, hx, hi⟩ := rd_tup r hs e1
    exact ⟨a, xs, rfl, hx, by rw [hi.length]; exact h.1, l1 _ ρ μ Q' h.2 W σ H xs he r (its_sl hi) Q q⟩
  · exact h.elim
theorem pdg_sub {o i : Expr} {od id : DE} (ho : PD X o od) (hi : PD X i id) (ha : ∀ v, assign (.Subscript o i pos) X.env v = (do
      let ov ← holding [v] (eval o X.env)
      let iv ← holding [v, ov] (eval i X.env)
      standAt pos
      holding [v, ov, iv] (setItem ov iv v)
      release [v, ov, iv] []) := by intro _; rfl) : PDG X (.Subscript o i pos) (gS od id) := by
  obtain ⟨t1, p1, l1⟩ := ho
  obtain ⟨t2, p2, l2⟩ := hi
  refine ⟨_, pg_sub p1 p2 set_list ha, fun s ρ μ Q' h W σ H v he r hs Q q => l1 ρ μ _ h W σ H he r _ fun ov o1 W1 H1 μ1 le1 r1 h1 q1 => l2 ρ μ1 _ q1 W1 σ H1 (he.mono le1) r1 _ fun iv i1 W2 H2 μ2 le2 r2 h2 q2 => ?_⟩
  replace q2 : wrL o1 i1 s μ2 (fun μ3 => Q' ρ μ3) := q2
  unfold wrL at q2
  split at q2
  · rename_i k j dd
    split at q2
    · rename_i ds e1
      obtain ⟨m, hm, hq⟩ := q2
      obtain ⟨a, ha, rfl⟩ := h1.mono le2
      obtain ⟨_, ob, hob, hc⟩ := r2.cell k a _ ha e1
      cases ob <;> first | exact False.elim hc | skip
      rename_i xs
      replace hc : DvAll X.K W2.G xs ds := hc
      cases (show Dv X.K W2.G iv (.int j) from h2)
      have hv : Dv X.K W2.G v dd := (hs.mono (le1.trans le2))
      refine ⟨a, xs, j, m, rfl, rfl, hob, by rw [hc.length]; exact hm, ?_⟩
      exact q _ _ W2 _ _ (le1.trans le2) (r2.write ha (show CellOk X.K W2.G (.lst (xs.set m v)) (.lst (ds.set m dd)) from hc.set m hv)) (he.mono (le1.trans le2)) hq
    · exact q2.elim
  · exact q2.elim
theorem pd_asgG {tg : Expr} {g : DG} (he : PD X e d) (hg : PDG X tg g) (hs : swapsWithSole [tg] e pos.line X.env = pure false := by rfl) (hw : swappedStores [tg] e X.env = pure none := by rfl)
    (h1 : (assignEach [tg] X.env).map (·.2) = [assign tg X.env] := by rfl) : PDS X (.Assign [tg] e pos) (dAsgG d g) := by
  obtain ⟨t1, p1, l1⟩ := he
  obtain ⟨t2, p2, l2⟩ := hg
  exact ⟨_, ps_asg p1 p2 hs hw h1, fun D' ρ μ h W σ H he r D hd => l1 ρ μ _ h W σ H he r _ fun v s W1 H1 μ1 le1 r1 hs q => l2 s ρ μ1 _ q W1 σ H1 v (he.mono le1) r1 hs _ (hd.nx.le le1)⟩
end
end DL
namespace DL
open PySem PySem.Spec PyProof.Rows L2 Evl

/-! ### while -/
def whileD (c : DT) (b : DS) (D : DEnds) : Nat → Rho → Mu → Prop
  | 0, _, _ => False
  | n + 1, ρ, μ => c ρ μ fun t μ1 => if t = true then b { D with nx := whileD c b D n, ct := whileD c b D n, bk := D.nx } ρ μ1 else D.nx ρ μ1
def dWhile (c : DT) (b : DS) : DS := fun D ρ μ => ∃ n, whileD c b D n ρ μ
section
variable {X : Cx} {K : PySem.W.Frag} {pos : Pos}
theorem ls_while {tc : TT} {tb : TS} {c : DT} {b : DS} (hc : LT K tc c) (hb : LS K tb b) : LS K (tWhile tc tb) (dWhile c b) := fun D' ρ μ h W σ H he r D hd => by
  obtain ⟨n, h⟩ := h
  refine ⟨fun m σ' H' => ∃ ρ' μ' W', Le W W' ∧ EnvOk K W' σ' ρ' ∧ Rep K W' H' μ' ∧ whileD c b D' m ρ' μ', ⟨n, ρ, μ, W, Le.refl W, he, r, h⟩, fun m σ' H' hW => ?_⟩
  obtain ⟨ρ', μ', W', le, he', r', h'⟩ := hW
  cases m with
  | zero => exact h'.elim
  | succ m =>
    refine hc ρ' μ' _ h' W' σ' H' he' r' _ fun k W1 H1 μ1 le1 r1 q => ?_
    cases k with
    | true =>
      refine ⟨fun σ2 H2 => ∃ ρ2 μ2 W2, Le W W2 ∧ EnvOk K W2 σ2 ρ2 ∧ Rep K W2 H2 μ2 ∧ whileD c b D' m ρ2 μ2, fun σ2 H2 h2 => ⟨m, Nat.lt_succ_self m, h2⟩, ?_⟩
      have turn : NOk K W1 (whileD c b D' m) (fun σ2 H2 => ∃ ρ2 μ2 W2, Le W W2 ∧ EnvOk K W2 σ2 ρ2 ∧ Rep K W2 H2 μ2 ∧ whileD c b D' m ρ2 μ2) := fun σ2 ρ2 W2 H2 μ2 le2 r2 he2 q2 => ⟨ρ2, μ2, W2, (le.trans le1).trans le2, he2, r2, q2⟩
      have hd1 := hd.le (le.trans le1)
      exact hb _ ρ' μ1 q W1 σ' H1 (he'.mono le1) r1 _ ⟨turn, hd1.rt, hd1.nx, turn⟩
    | false => exact hd.nx σ' ρ' W1 H1 μ1 (le.trans le1) r1 (he'.mono le1) q
theorem pd_while {c : Expr} {body : List Stmt} {dc : DT} {b : DS} (hp : PassesOwn (model X.prog X.w) X.A X.env X.xe) (hc : PDT X c dc) (hb : PDSs X body b) : PDS X (.While c body [] pos) (dWhile dc b) := by
  obtain ⟨t1, p1, l1⟩ := hc
  obtain ⟨t2, p2, l2⟩ := hb
  exact ⟨_, ps_while hp p1 p2, ls_while l1 l2⟩
end

/-! ### what is walked -/
/-- the iterator yields the items ss as long as C holds of the cells -/
def ItOk (K : PySem.W.Frag) (W : Wd) (J : It) (ss : List Sl) (C : Mu → Prop) : Prop :=
  ∀ W2 H2 μ2, Le W W2 → Rep K W2 H2 μ2 → C μ2 → ∀ i : Nat,
    (ss.length ≤ i → J.stop i H2) ∧ (∀ s, ss[i]? = some s → J.go i H2 ∧ ∀ x H', J.yld i H2 x H' → ∃ W3, Le W2 W3 ∧ Rep K W3 H' μ2 ∧ SlOk K W3 x s)
theorem ItOk.le {K : PySem.W.Frag} {W W' : Wd} (l : Le W W') {J : It} {ss : List Sl} {C : Mu → Prop} (h : ItOk K W J ss C) : ItOk K W' J ss C := fun W2 H2 μ2 l2 => h W2 H2 μ2 (l.trans l2)
abbrev DI := Rho → Mu → (List Sl → (Mu → Prop) → Mu → Prop) → Prop
def LI (K : PySem.W.Frag) (t : TI) (d : DI) : Prop := ∀ ρ μ R', d ρ μ R' → ∀ W σ H, EnvOk K W σ ρ → Rep K W H μ → ∀ R : It → Hp → Prop,
  (∀ J ss C W' H' μ', Le W W' → Rep K W' H' μ' → ItOk K W' J ss C → R' ss C μ' → R J H') → t σ H R
structure PDI (X : Cx) (tg iter : Expr) (d : DI) : Prop where
  ex : ∃ t, PI X tg iter t ∧ LI X.K t d
def iSeq (d : DE) : DI := fun ρ μ R => d ρ μ fun x μ1 => match rd μ1 x with
  | some (.list ds) => R (ds.map (elt x)) (fun ν => rd ν x = some (.list ds)) μ1
  | some (.tuple ds) => R (ds.map (elt x)) (fun _ => True) μ1
  | _ => False
section
variable {X : Cx} {K : PySem.W.Frag} {tg l : Expr} {d : DE} {p pos : Pos}
theorem rd_tup_keep {W W' : Wd} {v : V} {μ μ' : Mu} {s : Sl} {ds : List PyData} (h : SlOk K W v s) (e : rd μ s = some (.tuple ds)) : rd μ' s = some (.tuple ds) := by
  cases s with
  | dat d' => exact e
  | vw d' => exact e
  | raw w => exact e
  | cell k =>
    replace e : rdC μ[k]? = _ := e
    cases qq : μ[k]? with
    | none => rw [qq] at e; cases e
    | some c => rw [qq] at e; cases c <;> cases e
/-- the loop of a list and that of a tuple, the same kind of value -/
def iAny (K : PySem.W.Frag) (tl : TE) : TI := fun σ H R => tl σ H fun x H1 => ∃ a, x = .ref a ∧ (((∃ xs, SqL K H1 a xs) ∧ R (Itl K a) H1) ∨ ((∃ xs, SqT K H1 a xs) ∧ R (Itt K a) H1))
theorem pi_any {tl : TE} (hl : PE X l tl) : PI X tg l (iAny X.K tl) := by
  refine ⟨fun pins s σ H R I h => ?_⟩
  refine thn (hl.run pins s σ H _ I h) fun v s1 ⟨x, H1, I1, r1, q1⟩ => ?_
  obtain ⟨a, e, q1⟩ := q1
  subst e
  cases r1
  have old : s1.heap.objs.size ≤ s1.heap.objs.size := Nat.le_refl _
  rcases q1 with ⟨⟨xs, hq⟩, q⟩ | ⟨⟨xs, hq⟩, q⟩
  · obtain ⟨its, rv, p, hz⟩ := I1.list hq
    refine wpAny_pyIter_list p.isList ⟨s1.heap.objs.size, [s1.heap.objs.size], _, _, H1, rfl, I1.kept (t' := s1.toks) fun b o e => Heap.get?_push_of_some _ e, turn_list a _, ⟨_, Heap.get?_push_size _ rfl, rfl, rfl⟩, fun b hb => ?_, q⟩
    cases List.mem_singleton.mp hb
    exact I1.fpOk old (I1.hok.fresh old)
  · obtain ⟨its, rv, p, hz⟩ := I1.tuple hq
    refine wpAny_pyIter_tuple (show s1.heap.IsTuple a its.toArray from p) ⟨s1.heap.objs.size, [s1.heap.objs.size], _, _, H1, rfl, I1.kept (t' := s1.toks) fun b o e => Heap.get?_push_of_some _ e, turn_tuple a _, ⟨_, Heap.get?_push_size _ rfl, rfl, rfl⟩, fun b hb => ?_, q⟩
    cases List.mem_singleton.mp hb
    exact I1.fpOk old (I1.hok.fresh old)
theorem li_any {tl : TE} (h : LE K tl d) : LI K (iAny K tl) (iSeq d) := fun ρ μ R' hd W σ H he r R q => h ρ μ _ hd W σ H he r _ fun v x W1 H1 μ1 le1 r1 hs h1 => by
  replace h1 : (match rd μ1 x with | some (.list ds) => R' (ds.map (elt x)) (fun ν => rd ν x = some (.list ds)) μ1 | some (.tuple ds) => R' (ds.map (elt x)) (fun _ => True) μ1 | _ => False) := h1
  split at h1
  · rename_i ds e1
    obtain ⟨a, xs, rfl, hl, hi⟩ := rd_lst r1 hs e1
    refine ⟨a, rfl, .inl ⟨⟨xs, hl⟩, q _ _ _ W1 H1 μ1 le1 r1 (fun W2 H2 μ2 le2 r2 hC i => ?_) h1⟩⟩
    obtain ⟨a', ys, ea, hl2, hi2⟩ := rd_lst r2 (hs.mono le2) hC
    cases ea
    refine ⟨fun hle => ⟨ys, hl2, by rw [hi2.length]; simpa using hle⟩, fun s es => ?_⟩
    rw [List.getElem?_map] at es
    cases ed : ds[i]? with
    | none => rw [ed] at es; cases es
    | some dd =>
      rw [ed] at es
      cases es
      obtain ⟨w, hw, hok⟩ := hi2.get ed
      refine ⟨⟨ys, w, hl2, hw⟩, fun y H' hy => ?_⟩
      obtain ⟨rfl, fy⟩ := hy
      have := (fy _ hl2).symm.trans hw
      cases this
      exact ⟨W2, Le.refl W2, r2, hok⟩
  · rename_i ds e1
    obtain ⟨a, xs, rfl, hl, hi⟩ := rd_tup r1 hs e1
    refine ⟨a, rfl, .inr ⟨⟨xs, hl⟩, q _ _ _ W1 H1 μ1 le1 r1 (fun W2 H2 μ2 le2 r2 hC i => ?_) h1⟩⟩
    obtain ⟨a', ys, ea, hl2, hi2⟩ := rd_tup r2 (hs.mono le2) (rd_tup_keep (W' := W2) (μ' := μ2) hs e1)
    cases ea
    refine ⟨fun hle => ⟨ys, hl2, by rw [hi2.length]; simpa using hle⟩, fun s es => ?_⟩
    rw [List.getElem?_map] at es
    cases ed : ds[i]? with
    | none => rw [ed] at es; cases es
    | some dd =>
      rw [ed] at es
      cases es
      obtain ⟨w, hw, hok⟩ := hi2.get ed
      refine ⟨⟨ys, w, hl2, hw⟩, fun y H' hy => ?_⟩
      obtain ⟨rfl, fy⟩ := hy
      have := (fy _ hl2).symm.trans hw
      cases this
      exact ⟨W2, Le.refl W2, r2, hok⟩
  · exact h1.elim
theorem pdi_seq (h : PD X l d) : PDI X tg l (iSeq d) := by
  obtain ⟨t, p, lh⟩ := h
  exact ⟨_, pi_any p, li_any lh⟩

/-! #### range -/
def rgI (lo : Int) (n : Nat) : List Sl := (List.range n).map fun (i : Nat) => Sl.dat (.int (lo + (i : Int)))
def iRg1 (a : DA) : DI := fun ρ μ R => a ρ μ fun ss μ1 => match ss with
  | [.dat (.int j)] => (-(2 ^ 62) ≤ j ∧ j < 2 ^ 62) ∧ R (rgI 0 j.toNat) (fun _ => True) μ1
  | _ => False
def iRg2 (a : DA) : DI := fun ρ μ R => a ρ μ fun ss μ1 => match ss with
  | [.dat (.int i), .dat (.int j)] => (-(2 ^ 62) ≤ i ∧ i < 2 ^ 62 ∧ -(2 ^ 62) ≤ j ∧ j < 2 ^ 62) ∧ R (rgI i (j - i).toNat) (fun _ => True) μ1
  | _ => False
theorem itOk_rg {W : Wd} (lo : Int) (n : Nat) : ItOk K W (Itr lo n) (rgI lo n) (fun _ => True) := fun W2 H2 μ2 le2 r2 _ i => by
  refine ⟨fun h => show n ≤ i by simpa [rgI] using h, fun s es => ?_⟩
  unfold rgI at es
  rw [List.getElem?_map] at es
  cases ed : (List.range n)[i]? with
  | none => rw [ed] at es; cases es
  | some j =>
    rw [ed] at es
    cases es
    obtain ⟨hl, e⟩ := List.getElem?_eq_some_iff.mp ed
    have hi : i < n := by simpa using hl
    have ej : j = i := by rw [List.getElem_range] at e; exact e.symm
    subst ej
    exact ⟨hi, fun x H' hy => by obtain ⟨rfl, rfl⟩ := hy; exact ⟨W2, Le.refl W2, r2, Dv.int _⟩⟩
theorem pdi_range1 {a : Expr} {da : DA} (ha : PDA X [a] da) (hm : X.mg "range" = none) (hg : Gl X "range" := by rfl) (hs : starEach [a] X.env = [(false, eval a X.env)] := by rfl) : PDI X tg (.Call (.Name "range" p) [a] [] pos) (iRg1 da) := by
  obtain ⟨t, p1, l1⟩ := ha
  refine ⟨_, pi_range1 hg hm p1 hs, fun ρ μ R' hd W σ H he r R q => l1 ρ μ _ hd W σ H he r _ fun vs ss W1 H1 μ1 le1 r1 hss h1 => ?_⟩
  match ss, hss, h1 with
  | [.dat (.int j)], hss, h1 =>
    obtain ⟨v, rfl, hv⟩ := slAll1 hss
    cases (show Dv X.K W1.G v (.int j) from hv)
    exact ⟨j, rfl, h1.1.1, h1.1.2, q _ _ _ W1 H1 μ1 le1 r1 (itOk_rg 0 j.toNat) h1.2⟩
theorem pdi_range2 {a b : Expr} {da : DA} (ha : PDA X [a, b] da) (hm : X.mg "range" = none) (hg : Gl X "range" := by rfl) (hs : starEach [a, b] X.env = [(false, eval a X.env), (false, eval b X.env)] := by rfl) (hs2 : starEach [b] X.env = [(false, eval b X.env)] := by rfl) :
    PDI X tg (.Call (.Name "range" p) [a, b] [] pos) (iRg2 da) := by
  obtain ⟨t, p1, l1⟩ := ha
  refine ⟨_, pi_range2 hg hm p1 hs hs2, fun ρ μ R' hd W σ H he r R q => l1 ρ μ _ hd W σ H he r _ fun vs ss W1 H1 μ1 le1 r1 hss h1 => ?_⟩
  match ss, hss, h1 with
  | [.dat (.int i), .dat (.int j)], hss, h1 =>
    obtain ⟨v, u, rfl, hv, hu⟩ := slAll2 hss
    cases (show Dv X.K W1.G v (.int i) from hv)
    cases (show Dv X.K W1.G u (.int j) from hu)
    exact ⟨i, j, rfl, h1.1, q _ _ _ W1 H1 μ1 le1 r1 (itOk_rg i (j - i).toNat) h1.2⟩
end

/-! ### for -/
def forD (C : Mu → Prop) (g : DG) (b : DS) (D : DEnds) : List Sl → Rho → Mu → Prop
  | [], ρ, μ => C μ ∧ D.nx ρ μ
  | s :: ss, ρ, μ => C μ ∧ g s ρ μ fun ρ1 μ1 => b { D with nx := forD C g b D ss, ct := forD C g b D ss, bk := D.nx } ρ1 μ1
def dFor (i : DI) (g : DG) (b : DS) : DS := fun D ρ μ => i ρ μ fun ss C μ1 => forD C g b D ss ρ μ1
section
variable {X : Cx} {K : PySem.W.Frag} {pos : Pos}
theorem ls_for {ti : TI} {tg : TG} {tb : TS} {i : DI} {g : DG} {b : DS} (hi : LI K ti i) (hg : LG K tg g) (hb : LS K tb b) : LS K (tFor ti tg tb) (dFor i g b) := fun D' ρ μ h W σ H he r D hd =>
  hi ρ μ _ h W σ H he r _ fun J ss C W0 H0 μ0 le0 r0 hJ h0 => by
    refine ⟨fun j m σ' H' => ∃ ρ' μ' W', Le W0 W' ∧ EnvOk K W' σ' ρ' ∧ Rep K W' H' μ' ∧ j + m = ss.length ∧ forD C g b D' (ss.drop j) ρ' μ', ⟨ss.length, ρ, μ0, W0, Le.refl W0, he.mono le0, r0, Nat.zero_add _, h0⟩, fun j m σ' H' hW => ?_⟩
    obtain ⟨ρ', μ', W', le, he', r', em, h'⟩ := hW
    cases hs : ss.drop j with
    | nil =>
      rw [hs] at h'
      have hl : ss.length ≤ j := by
        have := congrArg List.length hs
        rw [List.length_drop] at this
        simp at this
        omega
      exact .inl ⟨(hJ W' H' μ' le r' h'.1 j).1 hl, hd.nx σ' ρ' W' H' μ' (le0.trans le) r' he' h'.2⟩
    | cons s rest =>
      rw [hs] at h'
      have hl : j < ss.length := by
        have := congrArg List.length hs
        rw [List.length_drop] at this
        simp at this
        omega
      have hget : ss[j]? = some s := by
        have := congrArg (fun l => l[0]?) hs
        simpa [List.getElem?_drop] using this
      have hrest : ss.drop (j + 1) = rest := by
        rw [← List.drop_drop, hs]
        rfl
      obtain ⟨hgo, hy⟩ := (hJ W' H' μ' le r' h'.1 j).2 s hget
      refine .inr ⟨hgo, fun σ2 H2 => ∃ ρ2 μ2 W2, Le W0 W2 ∧ EnvOk K W2 σ2 ρ2 ∧ Rep K W2 H2 μ2 ∧ forD C g b D' rest ρ2 μ2, fun σ2 H2 h2 => ?_, fun x H1 hx => ?_⟩
      · obtain ⟨ρ2, μ2, W2, a1, a2, a3, a4⟩ := h2
        exact ⟨m - 1, by omega, ρ2, μ2, W2, a1, a2, a3, by omega, by rw [hrest]; exact a4⟩
      · obtain ⟨W3, le3, r3, hs3⟩ := hy x H1 hx
        refine hg s ρ' μ' _ h'.2 W3 σ' H1 x (he'.mono le3) r3 hs3 _ fun σ4 ρ4 W4 H4 μ4 le4 r4 he4 q4 => ?_
        have turn : NOk K W4 (forD C g b D' rest) (fun σ2 H2 => ∃ ρ2 μ2 W2, Le W0 W2 ∧ EnvOk K W2 σ2 ρ2 ∧ Rep K W2 H2 μ2 ∧ forD C g b D' rest ρ2 μ2) := fun σ2 ρ2 W2 H2 μ2 le2 r2 he2 q2 => ⟨ρ2, μ2, W2, ((le.trans le3).trans le4).trans le2, he2, r2, q2⟩
        have hd1 := hd.le (((le0.trans le).trans le3).trans le4)
        exact hb _ ρ4 μ4 q4 W4 σ4 H4 he4 r4 _ ⟨turn, hd1.rt, hd1.nx, turn⟩
theorem pd_for {tg iter : Expr} {body : List Stmt} {i : DI} {g : DG} {b : DS} (hp : PassesOwn (model X.prog X.w) X.A X.env X.xe) (hc : X.calm = true) (hi : PDI X tg iter i) (hg : PDG X tg g) (hb : PDSs X body b)
    (hs : ∀ x, foldedSetIterable iter X.env x = pure x := by intro _; rfl) : PDS X (.For tg iter body [] pos) (dFor i g b) := by
  obtain ⟨t1, p1, l1⟩ := hi
  obtain ⟨t2, p2, l2⟩ := hg
  obtain ⟨t3, p3, l3⟩ := hb
  exact ⟨_, ps_for hp hc p1 p2 p3 hs, ls_for l1 l2 l3⟩
end
end DL
namespace DL
open PySem PySem.Spec PyProof.Rows L2 Evl

/-! ### a cell comes to rest: from then on it is data; what came behind it is forgotten -/
section
variable {K : PySem.W.Frag} {W : Wd} {H : Hp} {μ : Mu}
def Wd.cut (W : Wd) (n : Nat) : Wd := ⟨W.G, W.F, W.ad.take n⟩
def Wd.frz (W : Wd) (a : Addr) (o : HO) (n : Nat) : Wd := ⟨upd W.G a o, upd W.F a o, W.ad.take n⟩
theorem take_some {α : Type} {l : List α} {n k : Nat} {x : α} (h : (l.take n)[k]? = some x) : l[k]? = some x ∧ k < n := by
  have hk : k < (l.take n).length := (List.getElem?_eq_some_iff.mp h).1
  rw [List.length_take] at hk
  have hn : k < n := by omega
  rw [List.getElem?_take_of_lt hn] at h
  exact ⟨h, hn⟩
theorem Rep.cut (r : Rep K W H μ) (n : Nat) : Rep K (W.cut n) H (μ.take n) :=
  ⟨r.gf, r.fh, by show (W.ad.take n).length = _; rw [List.length_take, List.length_take, r.len], fun i j a hi hj => r.nd i j a (take_some hi).1 (take_some hj).1, fun k a c ha hc => r.cell k a c (take_some ha).1 (take_some hc).1⟩
theorem Le.cut {W0 : Wd} (l : Le W0 W) {n : Nat} (hn : W0.ad.length ≤ n) : Le W0 (W.cut n) := ⟨l.g, l.f, l.n, fun k x h => by
  have hk : k < W0.ad.length := (List.getElem?_eq_some_iff.mp h).1
  show (W.ad.take n)[k]? = some x
  rw [List.getElem?_take_of_lt (by omega)]
  exact l.a k x h⟩
theorem Rep.frz (r : Rep K W H μ) {k : Nat} {a : Addr} {xs : List V} (ha : W.ad[k]? = some a) (hH : H a = some (.lst xs)) (n : Nat) (hn : n ≤ k) : Rep K (W.frz a (.lst xs) n) H (μ.take n) := by
  have hk : k < μ.length := by rw [← r.len]; exact (List.getElem?_eq_some_iff.mp ha).1
  obtain ⟨q1, _, _, _⟩ := r.cell k a _ ha (List.getElem?_eq_getElem hk)
  refine ⟨ex_upd r.gf, fun b o e => ?_, by show (W.ad.take n).length = _; rw [List.length_take, List.length_take, r.len], fun i j a hi hj => r.nd i j a (take_some hi).1 (take_some hj).1, fun j b c hb hc => ?_⟩
  · by_cases q : b = a
    · subst q
      rw [show (W.frz b (.lst xs) n).F = upd W.F b (.lst xs) from rfl, upd_same] at e
      cases e
      exact hH
    · rw [show (W.frz a (.lst xs) n).F = upd W.F a (.lst xs) from rfl, upd_ne q] at e
      exact r.fh b o e
  · obtain ⟨hb1, hjn⟩ := take_some hb
    obtain ⟨z1, o, z2, z3⟩ := r.cell j b c hb1 (take_some hc).1
    have ne : b ≠ a := fun z => by
      subst z
      have := r.nd j k b hb1 ha
      omega
    refine ⟨?_, o, z2, z3.mono (Ex.new (fresh_back r.gf q1))⟩
    show upd W.F a (.lst xs) b = none
    rw [upd_ne ne]
    exact z1
theorem Le.frz {W0 : Wd} (l : Le W0 W) (r : Rep K W H μ) {k : Nat} {a : Addr} {xs : List V} (ha : W.ad[k]? = some a) {n : Nat} (hn : W0.ad.length ≤ n) (hF : W0.F a = none) : Le W0 (W.frz a (.lst xs) n) := by
  have hk : k < μ.length := by rw [← r.len]; exact (List.getElem?_eq_some_iff.mp ha).1
  obtain ⟨q1, _, _, _⟩ := r.cell k a _ ha (List.getElem?_eq_getElem hk)
  refine ⟨l.g.trans (Ex.new (fresh_back r.gf q1)), l.f.trans (Ex.new q1), fun b h1 h2 h3 => ?_, fun j x h => ?_⟩
  · show upd W.G a (.lst xs) b = none
    rw [upd_ne (show b ≠ a from fun z => h1 (z ▸ hF))]
    exact l.n b h1 h2 h3
  · have hj : j < W0.ad.length := (List.getElem?_eq_some_iff.mp h).1
    show (W.ad.take n)[j]? = some x
    rw [List.getElem?_take_of_lt (by omega)]
    exact l.a j x h
theorem fNone {W0 : Wd} (l : Le W0 W) (r : Rep K W H μ) {k : Nat} {a : Addr} (ha : W.ad[k]? = some a) : W0.F a = none := by
  have hk : k < μ.length := by rw [← r.len]; exact (List.getElem?_eq_some_iff.mp ha).1
  obtain ⟨q1, _, _, _⟩ := r.cell k a _ ha (List.getElem?_eq_getElem hk)
  exact fresh_back l.f q1
/-- the k-th cell as data -/
def frzQ (k : Nat) (Q : DQ) (μ : Mu) : Prop := match μ[k]? with
  | some (.lst ds) => Q (.dat (.list ds)) (μ.take k)
  | _ => False
theorem frz_ok {W0 : Wd} (l : Le W0 W) (r : Rep K W H μ) {k n : Nat} {a : Addr} {ds : List PyData} (ha : W.ad[k]? = some a) (hc : μ[k]? = some (.lst ds)) (hn : W0.ad.length ≤ n) (hk : n ≤ k) {Q' : DQ} {Q : VK} (q : VOk K W0 Q' Q) (h : Q' (.dat (.list ds)) (μ.take n)) : Q (.ref a) H := by
  obtain ⟨_, o, ho, hd⟩ := r.cell k a _ ha hc
  cases o <;> first | exact False.elim hd | skip
  rename_i xs
  replace hd : DvAll K W.G xs ds := hd
  refine q _ (.dat (.list ds)) (W.frz a (.lst xs) n) H _ (l.frz r ha hn (fNone l r ha)) (r.frz ha ho n hk) ?_ h
  exact .lst (.inl (.inl upd_same)) (hd.mono (Ex.new (fresh_back r.gf (r.cell k a _ ha hc).1)))
end

/-! ### list comprehensions -/
def wipeD (ρ : Rho) : List Nat → Rho
  | [] => ρ
  | v :: vs => (wipeD ρ vs).set v none
def addTo (k : Nat) (v : Sl) (μ : Mu) (Q : Mu → Prop) : Prop := match v, μ[k]? with
  | .dat d, some (.lst ds) => ds.length < sizeLine ∧ Q (μ.set k (.lst (ds ++ [d])))
  | _, _ => False
def lcD (C : Mu → Prop) (g : DG) (t : DT) (e : DE) (k : Nat) (Q : Mu → Prop) (ρ : Rho) : List Sl → Mu → Prop
  | [], μ => C μ ∧ Q μ
  | s :: ss, μ => C μ ∧ g s ρ μ fun ρ1 μ1 => t ρ1 μ1 fun b μ2 => if b = true then e ρ1 μ2 fun v μ3 => addTo k v μ3 (lcD C g t e k Q ρ ss) else lcD C g t e k Q ρ ss μ2
def dLcQ (F : Nat → DQ → Mu → Prop) (i : DI) (g : DG) (t : DT) (e : DE) (vs : List Nat) : DE := fun ρ μ Q => i ρ μ fun ss C μ1 => lcD C g t e μ1.length (F μ1.length Q) (wipeD ρ vs) ss (μ1 ++ [.lst []])
def dLc : DI → DG → DT → DE → List Nat → DE := dLcQ frzQ
/-- .. that is to change -/
def dLcC : DI → DG → DT → DE → List Nat → DE := dLcQ fun k Q μ => Q (.cell k) μ
def dYes : DT := fun _ μ Q => Q true μ
def teOf (K : PySem.W.Frag) (d : DE) : TE := fun σ H Q => ∃ W ρ μ Q', EnvOk K W σ ρ ∧ Rep K W H μ ∧ d ρ μ Q' ∧ VOk K W Q' Q
def ttOf (K : PySem.W.Frag) (d : DT) : TT := fun σ H Q => ∃ W ρ μ Q', EnvOk K W σ ρ ∧ Rep K W H μ ∧ d ρ μ Q' ∧ BOk K W Q' Q
theorem PD.of {X : Cx} {e : Expr} {d : DE} (h : PD X e d) : PE X e (teOf X.K d) := by
  obtain ⟨t, p, l⟩ := h
  exact ⟨fun pins s σ H Q I ⟨W, ρ, μ, Q', he, r, hd, q⟩ => p.run pins s σ H Q I (l ρ μ Q' hd W σ H he r Q q)⟩
theorem PDT.of {X : Cx} {e : Expr} {d : DT} (h : PDT X e d) : PT X e (ttOf X.K d) := by
  obtain ⟨t, p, l⟩ := h
  exact ⟨fun pins s σ H Q I ⟨W, ρ, μ, Q', he, r, hd, q⟩ => p.run pins s σ H Q I (l ρ μ Q' hd W σ H he r Q q)⟩
theorem le_of (K : PySem.W.Frag) (d : DE) : LE K (teOf K d) d := fun ρ μ Q' h W σ H he r Q q => ⟨W, ρ, μ, Q', he, r, h, q⟩
theorem lt_of (K : PySem.W.Frag) (d : DT) : LT K (ttOf K d) d := fun ρ μ Q' h W σ H he r Q q => ⟨W, ρ, μ, Q', he, r, h, q⟩
def Keeps (g : TG) (vs : List Nat) : Prop := ∀ v σ H Q Q2 σ0, wipe σ vs = wipe σ0 vs → (∀ σ2 H2, wipe σ2 vs = wipe σ0 vs → Q σ2 H2 → Q2 σ2 H2) → g v σ H Q → g v σ H Q2
def KeepsS (g : TGs) (vs : List Nat) : Prop := ∀ v σ H Q Q2 σ0, wipe σ vs = wipe σ0 vs → (∀ σ2 H2, wipe σ2 vs = wipe σ0 vs → Q σ2 H2 → Q2 σ2 H2) → g v σ H Q → g v σ H Q2
theorem wipe_set {j : Nat} {x : Option V} : ∀ {vs : List Nat} {σ : L2.St}, j ∈ vs → wipe (σ.set j x) vs = wipe σ vs
  | v :: vs, σ, h => by
    by_cases e : j ∈ vs
    · show (wipe (σ.set j x) vs).set v none = (wipe σ vs).set v none
      rw [wipe_set e]
    · have ej : j = v := by
        rcases List.mem_cons.mp h with h | h
        · exact h
        · exact absurd h e
      subst ej
      have out : ∀ (us : List Nat) (τ : L2.St), j ∉ us → wipe (τ.set j x) us = (wipe τ us).set j x := fun us => by
        induction us with
        | nil => intro τ _; rfl
        | cons u us ih =>
          intro τ hu
          have h1 : j ≠ u := fun z => hu (z ▸ List.mem_cons_self)
          show (wipe (τ.set j x) us).set u none = ((wipe τ us).set u none).set j x
          rw [ih τ (fun z => hu (List.mem_cons_of_mem _ z)), List.set_comm _ _ h1]
      show (wipe (σ.set j x) vs).set j none = (wipe σ vs).set j none
      rw [out vs σ e, List.set_set]
theorem keeps_name {j : Nat} {vs : List Nat} (h : j ∈ vs) : Keeps (gName j) vs := fun v σ H Q Q2 σ0 e f q => f _ _ ((wipe_set h).trans e) q
theorem keeps_nil {vs : List Nat} : KeepsS gNil vs := fun v σ H Q Q2 σ0 e f ⟨h1, h2⟩ => ⟨h1, f _ _ e h2⟩
theorem keeps_cons {g : TG} {gs : TGs} {vs : List Nat} (h1 : Keeps g vs) (h2 : KeepsS gs vs) : KeepsS (gCons g gs) vs := fun v σ H Q Q2 σ0 e f ⟨a, r, er, q⟩ =>
  ⟨a, r, er, h1 a σ H _ _ σ0 e (fun σ1 H1 e1 q1 => h2 r σ1 H1 Q Q2 σ0 e1 f q1) q⟩
theorem keeps_tup {K : PySem.W.Frag} {n : Nat} {gs : TGs} {vs : List Nat} (h : KeepsS gs vs) : Keeps (gTup K n gs) vs := fun v σ H Q Q2 σ0 e f ⟨a, xs, e1, h1, h2, q⟩ => ⟨a, xs, e1, h1, h2, h xs σ H Q Q2 σ0 e f q⟩
theorem wipe_wipe (σ : L2.St) (vs : List Nat) : wipe (wipe σ vs) vs = wipe σ vs := by
  have key : ∀ (us : List Nat) (τ : L2.St), (∀ u ∈ us, u ∈ vs) → wipe (wipe τ us) vs = wipe τ vs := fun us => by
    induction us with
    | nil => intro τ _; rfl
    | cons u us ih =>
      intro τ h
      show wipe ((wipe τ us).set u none) vs = _
      rw [wipe_set (h u List.mem_cons_self), ih τ (fun z hz => h z (List.mem_cons_of_mem _ hz))]
  exact key vs σ (fun _ h => h)
section
variable {X : Cx} {K : PySem.W.Frag}
theorem env_wipe {W : Wd} {σ : L2.St} {ρ : Rho} (h : EnvOk K W σ ρ) : ∀ vs : List Nat, EnvOk K W (wipe σ vs) (wipeD ρ vs)
  | [] => h
  | v :: vs => by
    have ih := env_wipe h vs
    refine ⟨by show ((wipe σ vs).set v none).length = ((wipeD ρ vs).set v none).length; rw [List.length_set, List.length_set, ih.len], fun i s e => ?_⟩
    replace e : ((wipeD ρ vs).set v none)[i]? = _ := e
    show ∃ u, ((wipe σ vs).set v none)[i]? = _ ∧ _
    by_cases q : v = i
    · subst q
      have hl : v < (wipeD ρ vs).length := by
        have := (List.getElem?_eq_some_iff.mp e).1
        simpa using this
      rw [List.getElem?_set_self hl] at e
      cases e
    · rw [List.getElem?_set_ne q] at e
      rw [List.getElem?_set_ne q]
      exact ih.get i s e
/-- a comprehension's target -/
structure CTg (X : Cx) (scope : Scope) (t : Expr) (vs : List Nat) (d : DG) : Prop where
  ex : ∃ g, (∀ (s : Shared) (H : Hp) (C : Addr) (cl : List (Str × Addr)) (fp : List Addr), PG (X.blk s H scope (compEnvC scope cl C X.env) fp) t g) ∧ LG X.K g d ∧ Keeps g vs
structure CTgs (X : Cx) (scope : Scope) (ts : List Expr) (vs : List Nat) (d : DGs) : Prop where
  ex : ∃ g, (∀ (s : Shared) (H : Hp) (C : Addr) (cl : List (Str × Addr)) (fp : List Addr), PGs (X.blk s H scope (compEnvC scope cl C X.env) fp) ts g) ∧ LGs X.K g d ∧ KeepsS g vs
/-- a comprehension's conditions -/
structure CTst (X : Cx) (scope : Scope) (ifs : List Expr) (d : DT) : Prop where
  ex : ∃ t, (∀ (s : Shared) (H : Hp) (C : Addr) (cl : List (Str × Addr)) (fp : List Addr), PTs (X.blk s H scope (compEnvC scope cl C X.env) fp) ifs t) ∧ LT X.K t d
theorem ctst_nil {scope : Scope} : CTst X scope [] dYes := ⟨tYes, fun _ _ _ _ _ => pts_nil, fun ρ μ Q' h W σ H he r Q q => q true W H μ (Le.refl W) r h⟩
theorem ctst_one {scope : Scope} {c : Expr} {d : DT} (h : ∀ (s : Shared) (H : Hp) (C : Addr) (cl : List (Str × Addr)) (fp : List Addr), PDT (X.blk s H scope (compEnvC scope cl C X.env) fp) c d) : CTst X scope [c] d :=
  ⟨ttOf X.K d, fun s H C cl fp => pts_one (h s H C cl fp).of, lt_of X.K d⟩
theorem ctg_name {scope : Scope} {x : Str} {pos : Pos} {vs : List Nat} (j : Nat) (hj : j ∈ vs) (h : ∀ (s : Shared) (H : Hp) (C : Addr) (cl : List (Str × Addr)) (fp : List Addr), PG (X.blk s H scope (compEnvC scope cl C X.env) fp) (.Name x pos) (gName j)) : CTg X scope (.Name x pos) vs (gN j) :=
  ⟨_, h, fun s ρ μ Q' h W σ H v he r hs Q q => q _ _ W H μ (Le.refl W) r (he.set j hs) h, keeps_name hj⟩
theorem lgs_cons {g1 : TG} {g2 : TGs} {g : DG} {gs : DGs} (l1 : LG K g1 g) (l2 : LGs K g2 gs) : LGs K (gCons g1 g2) (gsCons g gs) := fun ss ρ μ Q' h W σ H vs he r hss Q q => by
  cases hss with
  | nil => exact False.elim h
  | cons a t =>
    exact ⟨_, _, rfl, l1 _ ρ μ _ h W σ H _ he r a _ fun σ1 ρ1 W1 H1 μ1 le1 r1 he1 h1 => l2 _ ρ1 μ1 Q' h1 W1 σ1 H1 _ he1 r1 (SlAll.mono le1 t) Q (q.le le1)⟩
theorem ctgs_nil {scope : Scope} {vs : List Nat} : CTgs X scope [] vs gsNil := ⟨gNil, fun _ _ _ _ _ => pgs_nil, fun ss ρ μ Q' h W σ H us he r hs Q q => by
  cases ss with
  | nil => cases hs; exact ⟨rfl, q _ _ W H μ (Le.refl W) r he h⟩
  | cons s r => exact False.elim h, keeps_nil⟩
theorem ctgs_cons {scope : Scope} {e : Expr} {es : List Expr} {vs : List Nat} {g : DG} {gs : DGs} (h1 : CTg X scope e vs g) (h2 : CTgs X scope es vs gs)
    (hs : ∀ (s : Shared) (H : Hp) (C : Addr) (cl : List (Str × Addr)) (fp : List Addr), (assignEach (e :: es) (X.blk s H scope (compEnvC scope cl C X.env) fp).env).map (·.2) = assign e (X.blk s H scope (compEnvC scope cl C X.env) fp).env :: (assignEach es (X.blk s H scope (compEnvC scope cl C X.env) fp).env).map (·.2) := by intros; rfl) : CTgs X scope (e :: es) vs (gsCons g gs) := by
  obtain ⟨t1, p1, l1, k1⟩ := h1
  obtain ⟨t2, p2, l2, k2⟩ := h2
  exact ⟨_, fun s H C cl fp => pgs_cons (p1 s H C cl fp) (p2 s H C cl fp) (hs s H C cl fp), lgs_cons l1 l2, keeps_cons k1 k2⟩
theorem ctg_tup {scope : Scope} {es : List Expr} {pos : Pos} {k n : Nat} {vs : List Nat} {gs : DGs} (hc : X.calm = true) (h : CTgs X scope es vs gs)
    (hn : ∀ (s : Shared) (H : Hp) (C : Addr) (cl : List (Str × Addr)) (fp : List Addr), (assignEach es (X.blk s H scope (compEnvC scope cl C X.env) fp).env).length = n := by intros; rfl)
    (hst : ∀ (s : Shared) (H : Hp) (C : Addr) (cl : List (Str × Addr)) (fp : List Addr), (assignEach es (X.blk s H scope (compEnvC scope cl C X.env) fp).env).findIdx? (·.1) = none := by intros; rfl) : CTg X scope (.Tuple es k pos) vs (gT n gs) := by
  obtain ⟨t1, p1, l1, k1⟩ := h
  refine ⟨gTup X.K n t1, fun s H C cl fp => pg_tup hc (p1 s H C cl fp) (hn s H C cl fp) (hst s H C cl fp), fun s ρ μ Q' h W σ H v he r hs Q q => ?_, keeps_tup k1⟩
  unfold gT at h
  split at h
  · rename_i ds e1
    obtain ⟨a, xs, rfl, hx, hi⟩ := rd_tup r hs e1
    exact ⟨a, xs, rfl, hx, by rw [hi.length]; exact h.1, l1 _ ρ μ Q' h.2 W σ H xs he r (its_sl hi) Q q⟩
  · exact h.elim
/-- what becomes of the made list -/
def FinOk (K : PySem.W.Frag) (F : Nat → DQ → Mu → Prop) : Prop := ∀ (W0 W : Wd) (H : Hp) (μ : Mu) (k : Nat) (a : Addr) (Q' : DQ) (Q : VK), Le W0 W → Rep K W H μ → W0.ad.length = k → W.ad[k]? = some a → VOk K W0 Q' Q → F k Q' μ → Q (.ref a) H
theorem fin_frz : FinOk K frzQ := fun W0 W H μ k a Q' Q l r hk ha q h => by
  unfold frzQ at h
  split at h
  · rename_i ds e
    exact frz_ok l r ha e (Nat.le_of_eq hk) (Nat.le_refl k) q h
  · exact h.elim
theorem fin_cell : FinOk K (fun k Q μ => Q (.cell k) μ) := fun W0 W H μ k a Q' Q l r hk ha q h => q _ (.cell k) W H μ l r ⟨a, ha, rfl⟩ h
theorem le_lc {ti : TI} {tg : TG} {i : DI} {g : DG} {tt : TT} {t : DT} {te : TE} {e : DE} {vs : List Nat} {F : Nat → DQ → Mu → Prop} (hi : LI K ti i) (hg : LG K tg g) (hk : Keeps tg vs) (ht : LT K tt t) (hte : LE K te e) (hF : FinOk K F) :
    LE K (tLc ti tg tt te vs) (dLcQ F i g t e vs) := fun ρ μ Q' hd W σ H he r Q q =>
  hi ρ μ _ hd W σ H he r _ fun J ss C W0 H0 μ0 le0 r0 hJ h0 D hD => by
    have r1 := r0.cellNew (o := .lst []) (c := .lst []) hD (show CellOk K W0.G (.lst []) (.lst []) from .nil)
    have lc := Le.cellNew W0 D
    have hDk : (W0.cellNew D).ad[μ0.length]? = some D := by
      show (W0.ad ++ [D])[μ0.length]? = some D
      rw [List.getElem?_append_right (by rw [r0.len]; exact Nat.le_refl _), r0.len, Nat.sub_self]
      rfl
    have ew : EnvOk K W0 (wipe σ vs) (wipeD ρ vs) := env_wipe (he.mono le0) vs
    refine ⟨fun j m H' => ∃ μ' W', Le (W0.cellNew D) W' ∧ Rep K W' H' μ' ∧ j + m = ss.length ∧ lcD C g t e μ0.length (F μ0.length Q') (wipeD ρ vs) (ss.drop j) μ', ⟨ss.length, _, _, Le.refl _, r1, Nat.zero_add _, h0⟩, fun j m H' hW => ?_⟩
    obtain ⟨μ', W', le, r', em, h'⟩ := hW
    cases hs : ss.drop j with
    | nil =>
      rw [hs] at h'
      have hl : ss.length ≤ j := by
        have := congrArg List.length hs
        rw [List.length_drop] at this
        simp at this
        omega
      exact .inl ⟨(hJ W' H' μ' (lc.trans le) r' h'.1 j).1 hl, hF W0 W' H' μ' _ D Q' Q (lc.trans le) r' r0.len (le.a _ _ hDk) (q.le le0) h'.2⟩
    | cons s rest =>
      rw [hs] at h'
      have hl : j < ss.length := by
        have := congrArg List.length hs
        rw [List.length_drop] at this
        simp at this
        omega
      have hget : ss[j]? = some s := by
        have := congrArg (fun l => l[0]?) hs
        simpa [List.getElem?_drop] using this
      have hrest : ss.drop (j + 1) = rest := by
        rw [← List.drop_drop, hs]
        rfl
      obtain ⟨hgo, hy⟩ := (hJ W' H' μ' (lc.trans le) r' h'.1 j).2 s hget
      refine .inr ⟨hgo, fun H2 => ∃ μ2 W2, Le (W0.cellNew D) W2 ∧ Rep K W2 H2 μ2 ∧ lcD C g t e μ0.length (F μ0.length Q') (wipeD ρ vs) rest μ2, fun H2 h2 => ?_, fun x H1 hx => ?_⟩
      · obtain ⟨μ2, W2, a1, a2, a3⟩ := h2
        exact ⟨m - 1, by omega, μ2, W2, a1, a2, by omega, by rw [hrest]; exact a3⟩
      · obtain ⟨W3, le3, r3, hs3⟩ := hy x H1 hx
        have l3 := le.trans le3
        refine hk x (wipe σ vs) H1 _ _ σ (wipe_wipe σ vs) (fun σ2 H2 e2 q2 => ⟨e2, q2⟩) (hg s _ μ' _ h'.2 W3 (wipe σ vs) H1 x (ew.mono (lc.trans l3)) r3 hs3 _ fun σ4 ρ4 W4 H4 μ4 le4 r4 he4 q4 => ?_)
        refine ht ρ4 μ4 _ q4 W4 σ4 H4 he4 r4 _ fun b W5 H5 μ5 le5 r5 q5 => ?_
        cases b with
        | false => exact ⟨μ5, W5, (l3.trans le4).trans le5, r5, q5⟩
        | true =>
          refine hte ρ4 μ5 _ q5 W5 σ4 H5 (he4.mono le5) r5 _ fun y v W6 H6 μ6 le6 r6 hv q6 => ?_
          have l6 := ((l3.trans le4).trans le5).trans le6
          replace q6 : addTo μ0.length v μ6 _ := q6
          unfold addTo at q6
          split at q6
          · rename_i d ds ec
            have hD6 := l6.a _ _ hDk
            obtain ⟨_, o, ho, hc⟩ := r6.cell _ D _ hD6 ec
            cases o <;> first | exact False.elim hc | skip
            rename_i acc
            replace hc : DvAll K W6.G acc ds := hc
            refine ⟨acc, ho, by rw [hc.length]; exact q6.1, _, W6, l6, r6.write hD6 (show CellOk K W6.G (.lst (acc ++ [y])) (.lst (ds ++ [d])) from hc.app (.cons hv .nil)), q6.2⟩
          · exact q6.elim
variable {elt tg iter : Expr} {ifs : List Expr} {scope : Scope} {own : List (Str × Nat)} {pos : Pos} {i : DI} {g : DG} {t : DT} {e : DE}
theorem pd_lcQ {F : Nat → DQ → Mu → Prop} (hF : FinOk X.K F) (own : List (Str × Nat)) (hc : X.calm = true) (hN : X.N.Nodup) (hi : PDI X tg iter i) (ok : BlkOk X.N X.env.scope scope own) (hg : CTg X scope tg (own.map (·.2)) g) (ht : CTst X scope ifs t)
    (he : ∀ (s : Shared) (H : Hp) (C : Addr) (cl : List (Str × Addr)) (fp : List Addr), PD (X.blk s H scope (compEnvC scope cl C X.env) fp) elt e) (hs : ∀ x, foldedSetIterable iter X.env x = pure x := by intro _; rfl) :
    PD X (.ListComp elt [⟨tg, iter, ifs, 0⟩] scope pos) (dLcQ F i g t e (own.map (·.2))) := by
  obtain ⟨t1, p1, l1⟩ := hi
  obtain ⟨t2, p2, l2, k2⟩ := hg
  obtain ⟨t3, p3, l3⟩ := ht
  exact ⟨_, pe_lc hc hN p1 ok p2 p3 (fun s H C cl fp => (he s H C cl fp).of) hs, le_lc l1 l2 k2 l3 (le_of X.K e) hF⟩
theorem pd_setLcQ {F : Nat → DQ → Mu → Prop} (hF : FinOk X.K F) (own : List (Str × Nat)) {j : Nat} {y : Str} {py spos : Pos} (hc : X.calm = true) (hN : X.N.Nodup) (hi : PDI X tg iter i) (ok : BlkOk X.N X.env.scope scope own) (hg : CTg X scope tg (own.map (·.2)) g) (ht : CTst X scope ifs t)
    (he : ∀ (s : Shared) (H : Hp) (C : Addr) (cl : List (Str × Addr)) (fp : List Addr), PD (X.blk s H scope (compEnvC scope cl C X.env) fp) elt e)
    (hsw : swapsWith (.ListComp elt [⟨tg, iter, ifs, 0⟩] scope pos) (some (.Name y py)) spos.line X.env = pure true) (hy : X.N[j]? = some y := by rfl) (hyl : X.env.scope.names.lookup y = some .local := by rfl)
    (hs : ∀ x, foldedSetIterable iter X.env x = pure x := by intro _; rfl) : PDS X (.Assign [.Name y py] (.ListComp elt [⟨tg, iter, ifs, 0⟩] scope pos) spos) (dAsg (dLcQ F i g t e (own.map (·.2))) j) := by
  obtain ⟨t1, p1, l1⟩ := hi
  obtain ⟨t2, p2, l2, k2⟩ := hg
  obtain ⟨t3, p3, l3⟩ := ht
  have l := le_lc l1 l2 k2 l3 (le_of X.K e) hF
  exact ⟨_, ps_setLc hc hN hy hyl hsw p1 ok p2 p3 (fun s H C cl fp => (he s H C cl fp).of) hs, fun D' ρ μ h W σ H he r D hd => l ρ μ _ h W σ H he r _ fun v s W1 H1 μ1 le1 r1 hs q => hd.nx _ _ W1 H1 μ1 le1 r1 ((he.mono le1).set j hs) q⟩
end
end DL
namespace DL
open PySem PySem.Spec PyProof.Rows L2 Evl

/-! ### zip of two lists, of two tuples -/
def zipS (x y : Sl) : List PyData → List PyData → List Sl
  | d :: ds, e :: es => mk (isV x || isV y) (.tuple [d, e]) :: zipS x y ds es
  | _, _ => []
def iZp (a : DA) : DI := fun ρ μ R => a ρ μ fun ss μ1 => match ss with
  | [x, y] => match rd μ1 x, rd μ1 y with
    | some (.list ds), some (.list es) => R (zipS x y ds es) (fun ν => rd ν x = some (.list ds) ∧ rd ν y = some (.list es)) μ1
    | some (.tuple ds), some (.tuple es) => R (zipS x y ds es) (fun _ => True) μ1
    | _, _ => False
  | _ => False
theorem zipS_get {x y : Sl} : ∀ {ds es : List PyData} {i : Nat} {s : Sl}, (zipS x y ds es)[i]? = some s → ∃ d e, ds[i]? = some d ∧ es[i]? = some e ∧ s = mk (isV x || isV y) (.tuple [d, e])
  | d :: ds, e :: es, 0, s, h => ⟨d, e, rfl, rfl, (Option.some.inj h).symm⟩
  | d :: ds, e :: es, i + 1, s, h => zipS_get (ds := ds) (es := es) (i := i) (s := s) h
  | [], _, _, _, h => by simp [zipS] at h
  | _ :: _, [], _, _, h => by simp [zipS] at h
theorem zipS_len {x y : Sl} : ∀ {ds es : List PyData} {i : Nat}, (zipS x y ds es).length ≤ i → ds.length ≤ i ∨ es.length ≤ i
  | d :: ds, e :: es, 0, h => by simp [zipS] at h
  | d :: ds, e :: es, i + 1, h => by
    have := zipS_len (x := x) (y := y) (ds := ds) (es := es) (i := i) (by simpa [zipS] using h)
    simpa using this
  | [], _, _, _ => .inl (Nat.zero_le _)
  | _ :: _, [], _, _ => .inr (Nat.zero_le _)
section
variable {X : Cx} {K : PySem.W.Frag} {p pos : Pos}
theorem zip_item {W2 : Wd} {H2 : Hp} {μ2 : Mu} {x y : Sl} {xs ys : List V} {ds es : List PyData} {i : Nat} {s : Sl} (r2 : Rep K W2 H2 μ2) (hx : Its K W2 x xs ds) (hy : Its K W2 y ys es) (h : (zipS x y ds es)[i]? = some s) :
    ∃ v u, xs[i]? = some v ∧ ys[i]? = some u ∧ ∀ T, H2 T = none → ∃ W3, Le W2 W3 ∧ Rep K W3 (upd H2 T (.tup [v, u])) μ2 ∧ SlOk K W3 (.ref T) s := by
  obtain ⟨d, e, h1, h2, rfl⟩ := zipS_get h
  obtain ⟨v, hv, dv⟩ := DvAll.get hx h1
  obtain ⟨u, hu, du⟩ := DvAll.get hy h2
  refine ⟨v, u, hv, hu, fun T hT => ⟨W2.new T (.tup [v, u]), Le.new r2 hT, r2.new hT, slOk_mk ?_⟩⟩
  have l : Le W2 (W2.new T (.tup [v, u])) := Le.new r2 hT
  have two : DvAll K (bh W2 (isV x || isV y)) [v, u] [d, e] := .cons (dv.mono (bh_or1 r2.gf)) (.cons (du.mono (bh_or2 r2.gf)) .nil)
  refine .tup (.inl (.inl ?_)) (two.mono (bh_le l _))
  cases isV x || isV y
  · exact upd_same
  · exact upd_same
theorem pdi_zip {e e2 : Expr} {tpos : Pos} {elts : List Expr} {kk : Nat} {a : DA} (ha : PDA X [e, e2] a) (hm : X.mg "zip" = none) (hg : Gl X "zip" := by rfl)
    (hs : starEach [e, e2] X.env = (false, eval e X.env) :: starEach [e2] X.env := by rfl) (hpl : (backTo pos (starEach [e2] X.env)).any (·.1) = false := by rfl) : PDI X (.Tuple elts kk tpos) (.Call (.Name "zip" p) [e, e2] [] pos) (iZp a) := by
  obtain ⟨t, p1, l1⟩ := ha
  refine ⟨_, RZ.pi_zipA hg hm p1 hs hpl, fun ρ μ R' hd W σ H he r R q => l1 ρ μ _ hd W σ H he r _ fun vs ss W1 H1 μ1 le1 r1 hss h1 => ?_⟩
  match ss, hss, h1 with
  | [x, y], hss, h1 =>
    obtain ⟨v, u, rfl, hv, hu⟩ := slAll2 hss
    replace h1 : (match rd μ1 x, rd μ1 y with | some (.list ds), some (.list es) => R' (zipS x y ds es) (fun ν => rd ν x = some (.list ds) ∧ rd ν y = some (.list es)) μ1 | some (.tuple ds), some (.tuple es) => R' (zipS x y ds es) (fun _ => True) μ1 | _, _ => False) := h1
    split at h1
    · rename_i ds es e1 e2
      obtain ⟨a, xs, rfl, hl, hi⟩ := rd_lst r1 hv e1
      obtain ⟨b, ys, rfl, hl', hi'⟩ := rd_lst r1 hu e2
      refine ⟨a, b, xs, ys, rfl, .inl ⟨hl, hl', q _ _ _ W1 H1 μ1 le1 r1 (fun W2 H2 μ2 le2 r2 hC i => ?_) h1⟩⟩
      obtain ⟨a', xs', ea, m1, i1⟩ := rd_lst r2 (hv.mono le2) hC.1
      obtain ⟨b', ys', eb, m2, i2⟩ := rd_lst r2 (hu.mono le2) hC.2
      cases ea
      cases eb
      refine ⟨fun hle => ⟨xs', ys', m1, m2, by rw [i1.length, i2.length]; exact zipS_len hle⟩, fun s es' => ?_⟩
      obtain ⟨w1, w2, g1, g2, f⟩ := zip_item r2 i1 i2 es'
      refine ⟨⟨xs', ys', w1, w2, m1, m2, g1, g2⟩, fun z H' hz => ?_⟩
      obtain ⟨T, z1, z2, rfl, nT, rfl, k1, k2⟩ := hz
      have q1 : z1 = w1 := Option.some.inj ((k1 _ m1).symm.trans g1)
      have q2 : z2 = w2 := Option.some.inj ((k2 _ m2).symm.trans g2)
      subst q1; subst q2
      exact f T nT
    · rename_i ds es e1 e2
      obtain ⟨a, xs, rfl, hl, hi⟩ := rd_tup r1 hv e1
      obtain ⟨b, ys, rfl, hl', hi'⟩ := rd_tup r1 hu e2
      refine ⟨a, b, xs, ys, rfl, .inr ⟨hl, hl', q _ _ _ W1 H1 μ1 le1 r1 (fun W2 H2 μ2 le2 r2 hC i => ?_) h1⟩⟩
      obtain ⟨a', xs', ea, m1, i1⟩ := rd_tup r2 (hv.mono le2) (rd_tup_keep (W' := W2) (μ' := μ2) hv e1)
      obtain ⟨b', ys', eb, m2, i2⟩ := rd_tup r2 (hu.mono le2) (rd_tup_keep (W' := W2) (μ' := μ2) hu e2)
      cases ea
      cases eb
      refine ⟨fun hle => ⟨xs', ys', m1, m2, by rw [i1.length, i2.length]; exact zipS_len hle⟩, fun s es' => ?_⟩
      obtain ⟨w1, w2, g1, g2, f⟩ := zip_item r2 i1 i2 es'
      refine ⟨⟨xs', ys', w1, w2, m1, m2, g1, g2⟩, fun z H' hz => ?_⟩
      obtain ⟨T, z1, z2, rfl, nT, rfl, k1, k2⟩ := hz
      have q1 : z1 = w1 := Option.some.inj ((k1 _ m1).symm.trans g1)
      have q2 : z2 = w2 := Option.some.inj ((k2 _ m2).symm.trans g2)
      subst q1; subst q2
      exact f T nT
    · exact h1.elim

/-! ### xs.append(e), xs.extend(e), xs.pop() of a cell -/
abbrev DM := Sl → List Sl → Mu → DQ → Prop
def mApp : DM := fun o vs μ Q => match o, vs with
  | .cell k, [.dat d] => match μ[k]? with
    | some (.lst ds) => ds.length < sizeLine ∧ Q (.dat .none) (μ.set k (.lst (ds ++ [d])))
    | _ => False
  | _, _ => False
def mPop : DM := fun o vs μ Q => match o, vs with
  | .cell k, [] => match μ[k]? with
    | some (.lst ds) => ∃ d, ds[ds.length - 1]? = some d ∧ Q (.dat d) (μ.set k (.lst ds.dropLast))
    | _ => False
  | _, _ => False
def dMt (m : DM) (o : DE) (a : DA) : DE := fun ρ μ Q => o ρ μ fun x μ1 => (∃ k, x = .cell k ∧ k < μ1.length) ∧ a ρ μ1 fun ss μ2 => m x ss μ2 Q
theorem tyV_cell {W : Wd} {H : Hp} {μ : Mu} {v : V} {k : Nat} {ds : List PyData} (r : Rep K W H μ) (h : SlOk K W v (.cell k)) (e : μ[k]? = some (.lst ds)) : ∃ a xs, v = .ref a ∧ W.ad[k]? = some a ∧ H a = some (.lst xs) ∧ DvAll K W.G xs ds := by
  obtain ⟨a, ha, rfl⟩ := h
  obtain ⟨_, o, ho, hc⟩ := r.cell k a _ ha e
  cases o <;> first | exact False.elim hc | skip
  exact ⟨a, _, rfl, ha, ho, hc⟩
def dMtL (m : DM) (o : DE) (a : DA) : DE := fun ρ μ Q => o ρ μ fun x μ1 => (∃ ds, rd μ1 x = some (.list ds)) ∧ a ρ μ1 fun ss μ2 => m x ss μ2 Q
theorem le_bm {r : V → List V → Hp → VK → Prop} {m : DM} {to : TE} {ta : TA} {o : DE} {a : DA} (ho : LE K to o) (ha : LA K ta a)
    (hr : ∀ x xs μ Q', m x xs μ Q' → ∀ W H v vs, Rep K W H μ → SlOk K W v x → SlAll K W vs xs → ∀ Q, VOk K W Q' Q → r v vs H Q) : LE K (tBM K "list" r to ta) (dMtL m o a) := fun ρ μ Q' h W σ H he rp Q q =>
  ho ρ μ _ h W σ H he rp _ fun v x W1 H1 μ1 le1 r1 hx h1 => by
    obtain ⟨⟨ds, hds⟩, h1⟩ := h1
    obtain ⟨p, xs, rfl, hl, _⟩ := rd_lst r1 hx hds
    exact ⟨.inl ⟨rfl, xs, hl⟩, ha ρ μ1 _ h1 W1 σ H1 (he.mono le1) r1 _ fun vs ss W2 H2 μ2 le2 r2 hss h2 => hr x ss μ2 Q' h2 W2 H2 _ vs r2 (hx.mono le2) hss Q (q.le (le1.trans le2))⟩
theorem pd_append {o e : Expr} {od : DE} {ed : DE} {apos cpos : Pos} (ho : PD X o od) (he : PD X e ed) (hs1 : starEach [e] X.env = (false, eval e X.env) :: starEach [] X.env := by rfl)
    (hbase : attributeBase o "append" X.env (eval o X.env) = eval o X.env := by rfl)
    (hfew : ((backTo cpos (starEach [e] X.env)).all (fun x => !x.1) && (backToKw cpos (keywordEach [] X.env)).all (fun x => x.1.isSome) && decide ([e].length + ([] : List Keyword).length + (if ([] : List Keyword).isEmpty then 0 else 1) < 30)) = true := by rfl)
    (hline : (apos.endLine == cpos.line) = true := by rfl) (hplain : (backTo cpos (starEach [] X.env)).any (·.1) = false := by rfl) : PD X (.Call (.Attribute o "append" apos) [e] [] cpos) (dMtL mApp od (aCons ed aNil)) := by
  obtain ⟨t1, p1, l1⟩ := ho
  obtain ⟨t2, p2, l2⟩ := he
  refine ⟨_, pe_bm PySem.F.plainAttrs_list PySem.F.slot_list_append PySem.F.type_list_append mt_append p1 (pa_cons p2 pa_nil hs1) hbase hfew hline hs1 hplain, le_bm l1 (la_cons l2 la_nil) fun x xs μ Q' h W H v vs r hx hss Q q => ?_⟩
  unfold mApp at h
  split at h
  · rename_i k d
    split at h
    · rename_i ds e1
      obtain ⟨a, ys, rfl, ha, hH, hd⟩ := tyV_cell r hx e1
      obtain ⟨u, rfl, hu⟩ := slAll1 hss
      refine ⟨a, ys, u, rfl, rfl, hH, by rw [hd.length]; exact h.1, ?_⟩
      exact q.dat (r.write ha (show CellOk X.K W.G (.lst (ys ++ [u])) (.lst (ds ++ [d])) from hd.app (.cons hu .nil))) .non h.2
    · exact h.elim
  · exact h.elim
end
end DL
/-! DLG: a def's promise where no display is just being shown (repr of lists and tuples asks it). -/
namespace DL
open PySem PySem.Spec PyProof.Rows L2 Evl
structure RoomG (k : Nat) (A : Around) : Prop where
  r : Room k A
  g : A.guards = some []
theorem RoomG.mono {j k : Nat} {A : Around} (h : RoomG k A) (hj : j ≤ k) : RoomG j A := ⟨h.r.mono hj, h.g⟩
theorem RoomG.deeper {k : Nat} {A : Around} (h : RoomG (k + 1) A) (env : Env) : RoomG k (A.deeper env) := ⟨h.r.deeper env, h.g⟩
structure FnG (P : Program) (w : World) (K : PySem.W.Frag) (mg : Str → Option Value) (base : Heap) (CX : CXT) (k : Nat) (f : Addr) (fd : FuncData) (ps : List Str) (sp : Sp) : Prop where
  len : ∀ vs H Q E, sp vs H Q E → vs.length = ps.length
  run : ∀ (A : Around) (outer : List Env) (s : Shared) (H : Hp) (args : Args) (us : List Value) (vs : List V) (Q : VK) (E : XK), RoomG k A → Env0 P w K mg base A outer s H →
    BindsTo s fd args (ps.zip us) → Vals vs us → sp vs H Q E → codeAny (model P w) A (.call (.ref f) args) (CR CX outer P w H s Q E) s
section
variable {CX : CXT} {P : Program} {w : World} {K : PySem.W.Frag} {mg : Str → Option Value} {base : Heap} {k : Nat} {f : Addr} {ps : List Str} {sp : Sp}
theorem fnG_of {x qual : Str} {st : Stmt} {fd : FuncData} {N : List Str} (F : Fun K x qual st f fd) (S : FnScope N ps (defScope st)) (len : ∀ vs H Q E, sp vs H Q E → vs.length = ps.length)
    (body : ∀ (cdv : Value) (A : Around) (outer : List Env) (s : Shared) (H : Hp) (vs : List V) (Q : VK) (E : XK), RoomG k (A.deeper (envOfC qual (defScope st) s.heap.objs.size f cdv)) → sp vs H Q E →
      ∃ t, PSs (cxOf CX P w K mg base N qual (defScope st) f cdv A outer s H E) (defBody st) t ∧ t { nx := fun _ H' => Q .non H', rt := Q } (L2.start N vs) H) : FnG P w K mg base CX (k + 1) f fd ps sp := by
  obtain ⟨oc, od, kV, doc, pm, an, cdv, ct, osl, rfl, lk, hcd⟩ := F.ex
  refine ⟨len, fun A outer s H args us vs Q E room e0 bind rel hsp => ?_⟩
  have keep : ∀ b o, base.get? b = some o → s.heap.get? b = some o := fun b o e => (e0.bs b o e).1
  have par : ∀ y ∈ ps.zip us, (defScope st).names.lookup y.1 = some .local ∨ ((defScope st).names.lookup y.1 = some .cell ∧ ((cellsFrom (s.heap.objs.size + 1) (defScope st).names []).lookup y.1).isSome = true) := by
    rintro ⟨n, v⟩ hy
    cases S.par n (List.of_mem_zip hy).1 with
    | inl q => exact .inl q
    | inr q => exact .inr ⟨q, PySem.W.cellsFrom_some _ _ _ (.inl q)⟩
  refine codeAny_call_function room.r.depth (e0.mod.kin.keeps keep _ _ lk) rfl S.co S.gen rfl (PySem.W.codeRec_of (e0.mod.kin.keeps keep) hcd) (bind _ _ _ _ ?_)
  refine wpAny_newFunctionEnv_cells S.kind par fun env he s1 x => ?_
  subst he
  refine ⟨(e0.mod.nolimit.keeps keep).keeps x.toInCall.keep, codeAny_func ?_⟩
  obtain ⟨t, ht, hq⟩ := body cdv A outer s H vs Q E (room.deeper _) hsp
  have I := inv_start (CX := CX) (E := E) (f := f) (qual := qual) (cd := cdv) S room.r.hd e0 (len _ _ _ _ hsp) rel x
  refine wpAny_mono (ht.run [] s1 _ H _ I hq) (fun fl s' hs => ?_) (fun _ _ z => z)
  cases fl with
  | ret u =>
    obtain ⟨v, σ', H', J, rv, q⟩ := hs
    exact ⟨v, H', J.os, J.bare, J.base, J.hok, rv, q⟩
  | next =>
    obtain ⟨σ', H', J, q⟩ := hs
    exact ⟨.non, H', J.os, J.bare, J.base, J.hok, rfl, q⟩
  | brk => exact hs.elim fun _ z => z.elim fun _ z => False.elim z.2
  | cont => exact hs.elim fun _ z => z.elim fun _ z => False.elim z.2
end
section
variable {X : Cx} {CX : CXT} {k : Nat} {f : Addr} {fd : FuncData} {ps ks : List Str} {sp : Sp} {E : XK} {x : Str} {p pos : Pos} {e : Expr} {es : List Expr} {t : TA}
theorem runG {pins : List (Addr × Obj)} {σ : L2.St} {H : Hp} {s : Shared} {Q : VK} {args : Args} {us : List Value} {vs : List V} (F : FnG X.prog X.w X.K X.mg X.base CX k f fd ps sp) (hr : RoomG k X.A) (hx : Passes CX X E)
    (I : L2.Inv X pins σ H s) (r : Vals vs us) (hb : BindsTo s fd args (ps.zip us)) (h : sp vs H Q E) : wpAny (model X.prog X.w) X.A (call (.ref f) args.pos args.kw) (EP X pins σ Q) X.xe s := by
  refine wpAny_call (codeAny_mono (F.run X.A X.stack s H args us vs Q E hr I.env0 hb r h) fun r s' hq => ?_)
  cases r with
  | error e => exact hx pins σ H s e s' I hq
  | ok fl => cases fl <;> first | exact I.after hq | exact False.elim hq
theorem pe_callG (F : FnG X.prog X.w X.K X.mg X.base CX k f fd ps sp) (hr : RoomG k X.A) (hg : Gl X x) (hm : X.mg x = some (.ref f)) (hk : PySem.W.keepIn X.K (.ref f) = true) (hb : Binds X.K fd ps []) (hx : Passes CX X E)
    (ha : PA X (e :: es) t) (hdb : (x == ("__debug__" : Str)) = false) (he : starEach (e :: es) X.env = (false, eval e X.env) :: starEach es X.env) (hpl : (backTo pos (starEach es X.env)).any (·.1) = false) :
    PE X (.Call (.Name x p) (e :: es) [] pos) (fun σ H Q => t σ H fun vs H1 => sp vs H1 Q E) := by
  refine ⟨fun pins s σ H Q I h => wpAny_Call_Name_kw (ld_glob I hg hm ?_ hdb)⟩
  refine PySem.W.callWith_K (h₀ := X.base) I.ok.mod.kin hk (thn (ha.run pos pins s σ H _ I h) fun us s1 z => ?_) he hpl
  obtain ⟨vs, H1, I1, r, q⟩ := z
  have hl : us.length = ps.length := by rw [← r.length]; exact F.len _ _ _ _ q
  have b := hb s1 us I1.kIn (by rw [List.append_nil]; exact hl)
  rw [List.append_nil] at b
  exact ⟨I1.kIn, runG (args := ⟨us, []⟩) F hr hx I1 r b q⟩
theorem pe_callG0 (F : FnG X.prog X.w X.K X.mg X.base CX k f fd ps sp) (hr : RoomG k X.A) (hg : Gl X x) (hm : X.mg x = some (.ref f)) (hk : PySem.W.keepIn X.K (.ref f) = true) (hb : Binds X.K fd ps []) (hx : Passes CX X E)
    (hdb : (x == ("__debug__" : Str)) = false) : PE X (.Call (.Name x p) [] [] pos) (fun _ H Q => sp [] H Q E) := by
  refine ⟨fun pins s σ H Q I h => wpAny_Call_Name_kw (ld_glob I hg hm ?_ hdb)⟩
  have hl : ([] : List Value).length = ps.length := F.len _ _ _ _ h
  exact PySem.W.callWith_K0 I.kIn hk (runG (args := ⟨[], []⟩) F hr hx I .nil (hb s [] I.kIn hl) h)
variable {kws : List Keyword} {tk : TA} {g : List Value → List Value → List Value} {gV : List V → List V → List V}
theorem pe_callGK (F : FnG X.prog X.w X.K X.mg X.base CX k f fd ps sp) (hr : RoomG k X.A) (hg : Gl X x) (hm : X.mg x = some (.ref f)) (hk : PySem.W.keepIn X.K (.ref f) = true) (hb : KBinds X.K fd ps ks g gV) (hx : Passes CX X E)
    (ha : PA X (e :: es) t) (hkw : PK X kws tk) (hall : (backToKw pos (keywordEach kws X.env)).all (·.1.isSome) = true) (hks : (backToKw pos (keywordEach kws X.env)).filterMap (·.1) = ks)
    (hdb : (x == ("__debug__" : Str)) = false) (he : starEach (e :: es) X.env = (false, eval e X.env) :: starEach es X.env)
    (hpl : ((backTo pos (starEach (e :: es) X.env)).any (·.1) || (backToKw pos (keywordEach kws X.env)).any (·.1.isNone)) = false) :
    PE X (.Call (.Name x p) (e :: es) kws pos) (fun σ H Q => t σ H fun vs H1 => tk σ H1 fun zs H2 => sp (gV vs zs) H2 Q E) := by
  refine ⟨fun pins s σ H Q I h => wpAny_Call_Name_kw (ld_glob I hg hm ?_ hdb)⟩
  refine PySem.W.callWith_KW (h₀ := X.base) I.ok.mod.kin hk hall (thn (ha.run pos pins s σ H _ I h) fun us s1 z => ?_) hpl he
  obtain ⟨vs, H1, I1, r, q⟩ := z
  refine thn (hkw.run pos pins s1 σ H1 _ I1 q) fun ws s2 z => ?_
  obtain ⟨zs, H2, I2, rz, q2⟩ := z
  rw [hks]
  have r2 := hb.rel r rz
  exact ⟨I2.kIn, runG (args := ⟨us, ks.zip ws⟩) F hr hx I2 r2 (hb.to s2 us ws I2.kIn (by rw [← r2.length]; exact F.len _ _ _ _ q2)) q2⟩
theorem pe_callGK0 (F : FnG X.prog X.w X.K X.mg X.base CX k f fd ps sp) (hr : RoomG k X.A) (hg : Gl X x) (hm : X.mg x = some (.ref f)) (hk : PySem.W.keepIn X.K (.ref f) = true) (hb : KBinds X.K fd ps ks g gV) (hx : Passes CX X E)
    (hkw : PK X kws tk) (hall : (backToKw pos (keywordEach kws X.env)).all (·.1.isSome) = true) (hks : (backToKw pos (keywordEach kws X.env)).filterMap (·.1) = ks)
    (hdb : (x == ("__debug__" : Str)) = false) (hpl : ((backTo pos (starEach [] X.env)).any (·.1) || (backToKw pos (keywordEach kws X.env)).any (·.1.isNone)) = false) :
    PE X (.Call (.Name x p) [] kws pos) (fun σ H Q => tk σ H fun zs H2 => sp (gV [] zs) H2 Q E) := by
  refine ⟨fun pins s σ H Q I h => wpAny_Call_Name_kw (ld_glob I hg hm ?_ hdb)⟩
  refine PySem.W.callWith_KW0 (h₀ := X.base) I.ok.mod.kin hk hall (thn (hkw.run pos pins s σ H _ I h) fun ws s2 z => ?_) hpl
  obtain ⟨zs, H2, I2, rz, q2⟩ := z
  rw [hks]
  have r2 := hb.rel .nil rz
  exact ⟨I2.kIn, runG (args := ⟨[], ks.zip ws⟩) F hr hx I2 r2 (hb.to s2 [] ws I2.kIn (by rw [← r2.length]; exact F.len _ _ _ _ q2)) q2⟩
end
/-- the law's own call -/
theorem law_runG {P : Program} {w : World} {K : PySem.W.Frag} {mg mb : Str → Option Value} {k : Nat} {fa a : Addr} {fd : FuncData} {x : Str} {sp : Sp} {s₁ : Shared} {vs : List Value} {ns : List Int}
    (KX : K.In s₁.heap) (hns : s₁.heap.Ns mainGlobals mg) (hb : s₁.heap.Ns builtinsNs mb) (hbb : ∀ x : Str, x ≠ "__name__" → mb x = bootBuiltins x) (hlim : s₁.heap.NoLimit) (hg : s₁.gens = #[])
    (ha : s₁.heap.get? a = some { cls := .type "list", data := .seq vs.toArray }) (hi : IntsAre vs ns) (hl : ns.length ≤ sizeLine) (hr : RoomG k callerA)
    (F : ∀ base : Heap, K.In base → base.Ns mainGlobals mg → FnG P w K mg base CX0 k fa fd [x] sp) (hbind : ∀ (s : Shared) (u : Value), BindsTo s fd ⟨[u], []⟩ [(x, u)])
    (hsp : ∀ H : Hp, Only H → SqL K H a (ns.map V.int) → sp [.ref a] H (fun v _ => v = .bl true) E0) :
    codeAny (model P w) callerA (.call (.ref fa) ⟨[.ref a], []⟩) (fun r s' => r = .ok (.ret (.bool true)) ∧ OldK s₁.heap s'.heap ∧ s'.os = s₁.os ∧ AllBare s'.gens) s₁ := by
  have lenV := hi.length
  -- H: what may be tracked there is the script alone, locked
  suffices core : ∀ H : Hp, Only H → SqL K H a (ns.map V.int) → HOk P w H s₁.heap → (∀ b, H b ≠ none → b = a) → (H a ≠ none → K.lookup a = none) →
      codeAny (model P w) callerA (.call (.ref fa) ⟨[.ref a], []⟩) (fun r s' => r = .ok (.ret (.bool true)) ∧ OldK s₁.heap s'.heap ∧ s'.os = s₁.os ∧ AllBare s'.gens) s₁ by
    cases hk : K.lookup a with
    | some o =>
      have e := KX a o hk
      rw [ha] at e
      cases e
      exact core (fun _ => none) (fun _ => .inl rfl) (.inr ⟨_, vs.toArray, _, hk, rfl, rfl, rfl, by rw [List.size_toArray, lenV]; exact hl, by simpa using vals_ints hi⟩)
        (fun b u z => nomatch (show (none : Option HO) = some u from z)) (fun b z => (z rfl).elim) (fun z => (z rfl).elim)
    | none =>
      let Hs : Hp := fun b => if b = a then some (.frz { cls := .type "list", data := .seq vs.toArray } (.lst (ns.map V.int))) else none
      have at_ : Hs a = some (.frz { cls := .type "list", data := .seq vs.toArray } (.lst (ns.map V.int))) := if_pos rfl
      have off : ∀ b, b ≠ a → Hs b = none := fun b h => if_neg h
      refine core Hs (fun b => ?_) (.inl (.inr ⟨_, at_⟩)) (fun b u z => ?_) (fun b z => ?_) (fun _ => hk)
      · by_cases h : b = a
        · exact .inr ⟨_, _, h ▸ at_⟩
        · exact .inl (off b h)
      · by_cases h : b = a
        · subst h
          rw [at_] at z
          cases z
          exact ⟨ha, by rw [List.length_map]; exact hl, vs, _, vals_ints hi, ha⟩
        · rw [off b h] at z
          cases z
      · by_cases h : b = a
        · exact h
        · exact (z (off b h)).elim
  intro H hO hS hok only hK
  have only' : ∀ {b : Addr}, b ≠ a → H b = none := fun {b} h => by
    cases q : H b with
    | none => rfl
    | some u => exact (h (only b (by rw [q]; simp))).elim
  have dicts : ∀ {b : Addr} {o : Obj} {es : Array DictEntry} {ep : Nat}, s₁.heap.get? b = some o → o.data = .dict es ep → H b = none := fun {b o es ep} e d => only' fun h => by
    subst h
    rw [ha] at e
    cases e
    cases d
  have ns_ : ∀ {b : Addr} {m : Str → Option Value}, s₁.heap.Ns b m → (hidT s₁.heap H).Ns b m := fun {b m} ⟨o, es, ep, e, d, r⟩ => ⟨o, es, ep, hidT_get e (dicts e d), d, r⟩
  have inB : K.In (hidT s₁.heap H) := fun b o e => hidT_get (KX b o e) (by
    by_cases h : b = a
    · subst h
      cases q : H b with
      | none => rfl
      | some u =>
        have := hK (by rw [q]; simp)
        rw [this] at e
        cases e
    · exact only' h)
  have md : Mod K mg (hidT s₁.heap H) := ⟨inB, ns_ hns, ⟨mb, ns_ hb, hbb⟩, by obtain ⟨mc, h1, h2⟩ := hlim; exact ⟨mc, ns_ h1, h2⟩⟩
  have e0 : Env0 P w K mg (hidT s₁.heap H) callerA [] s₁ H := ⟨rfl, md, fun b o e => of_hidT e, Nat.le_of_eq (hidT_size _ _), trivial, fun b hb => absurd (show b ∈ ([] : List Addr) from hb) (by simp), hok, .of_eq hg⟩
  refine codeAny_mono ((F _ inB (ns_ hns)).run callerA [] s₁ H ⟨[.ref a], []⟩ [.ref a] [.ref a] _ _ hr e0 (hbind s₁ (.ref a)) (.cons rfl .nil) (hsp H hO hS)) fun r s' h => ?_
  cases r with
  | error e => exact False.elim h
  | ok fl =>
    cases fl with
    | ret u =>
      obtain ⟨v, H', os, bare, un, hok', r', q⟩ := h
      cases (show v = .bl true from q)
      cases (show u = Value.bool true from r')
      refine ⟨rfl, OldK.of_keep fun b o e => ?_, os, bare⟩
      cases q : H b with
      | none => exact un.keep b o e q (fun z => nomatch z) (fun z => nomatch z)
      | some u =>
        cases hO b with
        | inl z => rw [q] at z; cases z
        | inr z =>
          obtain ⟨ob, xs, z⟩ := z
          have z1 := (hok b _ z).1
          have z2 := (hok' b _ (un.frzs b ob _ z)).1
          rw [e] at z1
          cases z1
          exact z2
    | _ => exact False.elim h
/-- the end of a law's row -/
theorem walkG {l : PySem.W.OpenLaw} {n k : Nat} {q : Program} {loose : List Str} {XP : (Str → Option Value) → Heap → Prop} {YP : World → Heap → Prop} {d : DefRec} {K : Params → PySem.W.Frag} {sp : PySem.W.Frag → Sp} {x : Str}
    (hn : l.most = some n) (hn2 : n ≤ sizeLine) (hdf : d.params.defaults = []) (hr : RoomG k callerA) (hY : ∀ (w : World) (h : Heap), YP w h → (K w.params).In h)
    (F : ∀ (w : World) (mg : Str → Option Value) (fa : Addr) (h : Heap), (K w.params).In h → h.Ns mainGlobals mg → mg d.name = some (.ref fa) →
      ∃ fd : FuncData, (∀ (s : Shared) (u : Value), BindsTo s fd ⟨[u], []⟩ [(x, u)]) ∧ ∀ base : Heap, (K w.params).In base → base.Ns mainGlobals mg → FnG l.prog w (K w.params) mg base CX0 k fa fd [x] (sp (K w.params)))
    (hsp : ∀ (K : PySem.W.Frag) (H : Hp) (a : Addr) (ns : List Int), ns.length ≤ n → SqL K H a (ns.map V.int) → sp K [.ref a] H (fun v _ => v = .bl true) E0) :
    PySem.W.WalkO q loose XP YP l.row.toRowW d [] (fun f vs => PySem.call f vs) := by
  refine Att.attach_call hn hdf fun w s₀ s₁ mg mb fa o pm cd doc a vs ns G Y ho hd hcd hmg hobj hints hlen hg => ?_
  obtain ⟨fd, hb, hF⟩ := F w mg fa _ (hY w _ Y) G.T.g hmg
  exact law_runG (hY w _ Y) G.T.g G.T.b G.T.builtins G.T.nolimit hg hobj hints (Nat.le_trans hlen hn2) hr hF hb fun H _ hS => hsp _ H a ns hlen hS
end DL
namespace DL
open PySem PySem.Spec PyProof.Rows L2 Evl

/-! ### defs -/
abbrev DF := List Sl → Mu → DQ → Prop
def SpD (K : PySem.W.Frag) (n : Nat) (φ : DF) : Sp := fun vs H Q _ => ∃ W ss μ Q', vs.length = n ∧ SlAll K W vs ss ∧ Rep K W H μ ∧ φ ss μ Q' ∧ VOk K W Q' Q
/-- what a def hands back: of its own cells a list as data, or as the caller's newest cell -/
def finQ (n : Nat) (Q' : DQ) : DQ := fun s μ' => match s with
  | .cell k => if k < n then Q' (.cell k) (μ'.take n) else match μ'[k]? with
    | some (.lst ds) => Q' (.dat (.list ds)) (μ'.take n) ∨ Q' (.cell n) (μ'.take n ++ [.lst ds])
    | some (.dct ds) => Q' (.cell n) (μ'.take n ++ [.dct ds])
    | _ => False
  | .dat d => Q' (.dat d) (μ'.take n)
  | .vw d => Q' (.vw d) (μ'.take n)
  | .raw v => Q' (.raw v) (μ'.take n)
def startD (N : List Str) (ss : List Sl) : Rho := ss.map some ++ List.replicate (N.length - ss.length) none
section
variable {K : PySem.W.Frag}
theorem at_pull {α : Type} {l : List α} {a x : α} {n i : Nat} (hn : n ≤ l.length) (h : (l.take n ++ [a])[i]? = some x) : (i < n ∧ l[i]? = some x) ∨ (i = n ∧ x = a) := by
  have hl : (l.take n).length = n := by rw [List.length_take]; omega
  by_cases hi : i < n
  · rw [List.getElem?_append_left (by omega)] at h
    exact .inl ⟨hi, (take_some h).1⟩
  · rw [List.getElem?_append_right (by omega), hl] at h
    cases q : i - n with
    | zero =>
      rw [q] at h
      exact .inr ⟨by omega, (Option.some.inj h).symm⟩
    | succ j => rw [q] at h; simp at h
theorem pull_ok {W0 W : Wd} {H : Hp} {μ : Mu} (l : Le W0 W) (r : Rep K W H μ) {k : Nat} {a : Addr} {c : Cell} (ha : W.ad[k]? = some a) (hc : μ[k]? = some c) (hk : W0.ad.length ≤ k) {Q' : DQ} {Q : VK} (q : VOk K W0 Q' Q) (h : Q' (.cell W0.ad.length) (μ.take W0.ad.length ++ [c])) : Q (.ref a) H := by
  have h1 : k < W.ad.length := (List.getElem?_eq_some_iff.mp ha).1
  have h2 : k < μ.length := (List.getElem?_eq_some_iff.mp hc).1
  have l1 : (W.ad.take W0.ad.length).length = W0.ad.length := by rw [List.length_take]; omega
  refine q _ (.cell W0.ad.length) ⟨W.G, W.F, W.ad.take W0.ad.length ++ [a]⟩ H _ ⟨l.g, l.f, l.n, fun j x e => ?_⟩ ⟨r.gf, r.fh, ?_, fun i j b hi hj => ?_, fun i b d hi hd => ?_⟩ ⟨a, ?_, rfl⟩ h
  · have hj : j < W0.ad.length := (List.getElem?_eq_some_iff.mp e).1
    show (W.ad.take W0.ad.length ++ [a])[j]? = some x
    rw [List.getElem?_append_left (by omega), List.getElem?_take_of_lt hj]
    exact l.a j x e
  · show (W.ad.take W0.ad.length ++ [a]).length = _
    rw [List.length_append, List.length_append, List.length_take, List.length_take, r.len]
    rfl
  · rcases at_pull (by omega) hi with ⟨q1, q2⟩ | ⟨q1, q2⟩ <;> rcases at_pull (by omega) hj with ⟨q3, q4⟩ | ⟨q3, q4⟩
    · exact r.nd i j b q2 q4
    · subst q4
      have := r.nd i k b q2 ha
      omega
    · subst q2
      have := r.nd j k b q4 ha
      omega
    · omega
  · rcases at_pull (by omega) hi with ⟨q1, q2⟩ | ⟨q1, q2⟩ <;> rcases at_pull (by omega) hd with ⟨q3, q4⟩ | ⟨q3, q4⟩
    · exact r.cell i b d q2 q4
    · omega
    · omega
    · subst q2
      subst q4
      exact r.cell k b d ha hc
  · show (W.ad.take W0.ad.length ++ [a])[W0.ad.length]? = some a
    rw [List.getElem?_append_right (by omega), l1, Nat.sub_self]
    rfl
theorem finQ_ok {W : Wd} {Q' : DQ} {Q : VK} (q : VOk K W Q' Q) : VOk K W (finQ W.ad.length Q') Q := fun v s W1 H1 μ1 l r hs h => by
  have lc := l.cut (n := W.ad.length) (Nat.le_refl _)
  have rc := r.cut W.ad.length
  cases s with
  | dat d => exact q v (.dat d) _ H1 _ lc rc (show Dv K W1.G v d from hs) h
  | vw d => exact q v (.vw d) _ H1 _ lc rc (show Dv K W1.F v d from hs) h
  | raw w => exact q v (.raw w) _ H1 _ lc rc (show v = w from hs) h
  | cell k =>
    replace h : (if k < W.ad.length then Q' (.cell k) (μ1.take W.ad.length) else match μ1[k]? with | some (.lst ds) => Q' (.dat (.list ds)) (μ1.take W.ad.length) ∨ Q' (.cell W.ad.length) (μ1.take W.ad.length ++ [.lst ds]) | some (.dct ds) => Q' (.cell W.ad.length) (μ1.take W.ad.length ++ [.dct ds]) | _ => False) := h
    obtain ⟨a, ha, rfl⟩ := hs
    by_cases hk : k < W.ad.length
    · rw [if_pos hk] at h
      refine q _ (.cell k) _ H1 _ lc rc ⟨a, ?_, rfl⟩ h
      show (W1.ad.take W.ad.length)[k]? = some a
      rw [List.getElem?_take_of_lt hk]
      exact ha
    · rw [if_neg hk] at h
      split at h
      · rename_i ds e
        cases h with
        | inl h => exact frz_ok l r ha e (Nat.le_refl _) (Nat.not_lt.mp hk) q h
        | inr h => exact pull_ok l r ha e (Nat.not_lt.mp hk) q h
      · rename_i ds e
        exact pull_ok l r ha e (Nat.not_lt.mp hk) q h
      · exact h.elim
theorem env_start {W : Wd} {N : List Str} {vs : List V} {ss : List Sl} (h : SlAll K W vs ss) : EnvOk K W (L2.start N vs) (startD N ss) := by
  have hl := h.length
  refine ⟨?_, fun i s e => ?_⟩
  · unfold L2.start startD
    simp only [List.length_append, List.length_map, List.length_replicate, hl]
  · unfold startD at e
    unfold L2.start
    by_cases hi : i < ss.length
    · rw [List.getElem?_append_left (by simpa using hi), List.getElem?_map] at e
      cases q : ss[i]? with
      | none => rw [q] at e; cases e
      | some t =>
        rw [q] at e
        cases e
        obtain ⟨v, hv, ok⟩ := h.get q
        refine ⟨v, ?_, ok⟩
        rw [List.getElem?_append_left (by rw [List.length_map, hl]; exact hi), List.getElem?_map, hv]
        rfl
    · rw [List.getElem?_append_right (by simpa using hi), List.getElem?_replicate] at e
      split at e <;> cases e
end
section
variable {P : Program} {w : World} {K : PySem.W.Frag} {mg : Str → Option Value} {base : Heap}
/-- A DEF BY ITS BODY: the body as a term, and what the promise says of what the term does -/
theorem okD {x qual : Str} {st : Stmt} {f : Addr} {fd : FuncData} {N ps : List Str} {k n : Nat} {φ : DF} {ds : DS} (F : Fun K x qual st f fd) (S : FnScope N ps (defScope st)) (hn : n = ps.length)
    (hbody : ∀ (cdv : Value) (A : Around) (outer : List Env) (s : Shared) (H : Hp) (E : XK), RoomG k (A.deeper (envOfC qual (defScope st) s.heap.objs.size f cdv)) →
      PDSs (cxOf CX0 P w K mg base N qual (defScope st) f cdv A outer s H E).nox (defBody st) ds)
    (hφ : ∀ ss μ Q', ss.length = n → φ ss μ Q' → ds ⟨fun _ μ' => finQ μ.length Q' (.dat .none) μ', finQ μ.length Q', fun _ _ => False, fun _ _ => False⟩ (startD N ss) μ) : FnG P w K mg base CX0 (k + 1) f fd ps (SpD K n φ) := by
  refine fnG_of F S (fun vs H Q E h => ?_) (fun cdv A outer s H vs Q E hr h => ?_)
  · obtain ⟨_, _, _, _, h, _⟩ := h
    exact h.trans hn
  · obtain ⟨W, ss, μ, Q', hl, hss, r, hp, q⟩ := h
    obtain ⟨t, p, l⟩ := hbody cdv A outer s H E hr
    refine ⟨t, p.nox, l _ (startD N ss) μ (hφ ss μ Q' (by rw [← hss.length]; exact hl) hp) W _ H (env_start hss) r _ ?_⟩
    have fq := finQ_ok q
    rw [r.len] at fq
    refine ⟨fun σ1 ρ1 W1 H1 μ1 l1 r1 he1 h1 => ?_, fq, fun σ1 ρ1 W1 H1 μ1 l1 r1 he1 h1 => h1, fun σ1 ρ1 W1 H1 μ1 l1 r1 he1 h1 => h1⟩
    exact fq .non (.dat .none) W1 H1 μ1 l1 r1 .non h1
/-- an own def that keeps a promise, known by its name -/
structure Own (P : Program) (w : World) (K : PySem.W.Frag) (mg : Str → Option Value) (base : Heap) (x : Str) (st : Stmt) (ps : List Str) (k n : Nat) (φ : DF) : Prop where
  ex : ∃ f fd, Fun K x x st f fd ∧ FnG P w K mg base CX0 k f fd ps (SpD K n φ) ∧ mg x = some (.ref f)
end
def dCall (n : Nat) (φ : DF) (a : DA) : DE := fun ρ μ Q => a ρ μ fun ss μ1 => ss.length = n ∧ φ ss μ1 Q
section
variable {X : Cx} {K : PySem.W.Frag} {e : Expr} {es : List Expr} {x : Str} {p pos : Pos} {st : Stmt} {ps : List Str} {k n : Nat} {φ : DF}
theorem spD_of {W : Wd} {H : Hp} {μ : Mu} {vs : List V} {ss : List Sl} {Q' : DQ} {Q : VK} {E : XK} (hs : SlAll K W vs ss) (r : Rep K W H μ) (h : ss.length = n ∧ φ ss μ Q') (q : VOk K W Q' Q) : SpD K n φ vs H Q E :=
  ⟨W, ss, μ, Q', by rw [hs.length]; exact h.1, hs, r, h.2, q⟩
theorem pd_call {a : DA} (o : Own X.prog X.w X.K X.mg X.base x st ps k n φ) (hr : RoomG k X.A)
    (hb : ∀ (kV doc pm : Value) (an : Option Addr) (cdv ct : Value) (us : List Value), us.length = ps.length → bindArgs (PySem.W.fnOf x x (defArgs st) (defBody st) (defScope st) .none kV doc pm an cdv ct) ⟨us, []⟩ = pure (ps.zip us))
    (ha : PDA X (e :: es) a) (hg : Gl X x := by rfl) (hdb : (x == ("__debug__" : Str)) = false := by decide)
    (he : starEach (e :: es) X.env = (false, eval e X.env) :: starEach es X.env := by rfl) (hpl : (backTo pos (starEach es X.env)).any (·.1) = false := by rfl) : PD X (.Call (.Name x p) (e :: es) [] pos) (dCall n φ a) := by
  obtain ⟨f, fd, F, G, hm⟩ := o
  obtain ⟨t, p1, l1⟩ := ha
  refine ⟨_, pe_callG G hr hg hm F.kp (F.binds hb) pass0 p1 hdb he hpl, fun ρ μ Q' h W σ H henv r Q q => l1 ρ μ _ h W σ H henv r _ fun vs ss W1 H1 μ1 le1 r1 hss h1 => ?_⟩
  exact spD_of (E := E0) hss r1 h1 (q.le le1)
/-- f() -/
theorem pd_call0 (o : Own X.prog X.w X.K X.mg X.base x st ps k n φ) (hr : RoomG k X.A)
    (hb : ∀ (kV doc pm : Value) (an : Option Addr) (cdv ct : Value) (us : List Value), us.length = ps.length → bindArgs (PySem.W.fnOf x x (defArgs st) (defBody st) (defScope st) .none kV doc pm an cdv ct) ⟨us, []⟩ = pure (ps.zip us))
    (hg : Gl X x := by rfl) (hdb : (x == ("__debug__" : Str)) = false := by decide) : PD X (.Call (.Name x p) [] [] pos) (dCall n φ aNil) := by
  obtain ⟨f, fd, F, G, hm⟩ := o
  refine ⟨_, pe_callG0 G hr hg hm F.kp (F.binds hb) pass0 hdb, fun ρ μ Q' h W σ H henv r Q q => ?_⟩
  exact spD_of (E := E0) .nil r h q

/-! ### by keywords -/
def kp {α : Type} (np : Nat) (idx : List Nat) (us ws : List α) : List α := if us.length = np ∧ ws.length = idx.length then us ++ idx.filterMap (fun i => ws[i]?) else []
theorem slAll_fm {W : Wd} {vs : List V} {ss : List Sl} (h : SlAll K W vs ss) : ∀ idx : List Nat, SlAll K W (idx.filterMap fun i => vs[i]?) (idx.filterMap fun i => ss[i]?)
  | [] => .nil
  | i :: idx => by
    have ih := slAll_fm h idx
    rw [List.filterMap_cons, List.filterMap_cons]
    cases q : ss[i]? with
    | none =>
      have : vs[i]? = none := by
        rw [List.getElem?_eq_none_iff] at q ⊢
        rw [h.length]
        exact q
      rw [this]
      exact ih
    | some s =>
      obtain ⟨v, hv, ok⟩ := h.get q
      rw [hv]
      exact .cons ok ih
theorem slAll_app {W : Wd} : ∀ {vs us : List V} {ss ts : List Sl}, SlAll K W vs ss → SlAll K W us ts → SlAll K W (vs ++ us) (ss ++ ts)
  | _, _, _, _, .nil, h => h
  | _, _, _, _, .cons a t, h => .cons a (slAll_app t h)
theorem slAll_kp {W : Wd} {np : Nat} {idx : List Nat} {vs us : List V} {ss ts : List Sl} (h1 : SlAll K W vs ss) (h2 : SlAll K W us ts) : SlAll K W (kp np idx vs us) (kp np idx ss ts) := by
  unfold kp
  rw [h1.length, h2.length]
  split
  · exact slAll_app h1 (slAll_fm h2 idx)
  · exact .nil
theorem vals_fm {vs : List V} {us : List Value} (h : Vals vs us) : ∀ idx : List Nat, Vals (idx.filterMap fun i => vs[i]?) (idx.filterMap fun i => us[i]?)
  | [] => .nil
  | i :: idx => by
    have ih := vals_fm h idx
    rw [List.filterMap_cons, List.filterMap_cons]
    cases q : vs[i]? with
    | none =>
      rw [h.none_of q]
      exact ih
    | some s =>
      obtain ⟨v, hv, ok⟩ := h.get q
      rw [hv]
      exact .cons ok ih
theorem vals_kp {np : Nat} {idx : List Nat} {vs zs : List V} {us ws : List Value} (h1 : Vals vs us) (h2 : Vals zs ws) : Vals (kp np idx vs zs) (kp np idx us ws) := by
  unfold kp
  rw [h1.length, h2.length]
  split
  · exact h1.append (vals_fm h2 idx)
  · exact .nil
structure PDK (X : Cx) (kws : List Keyword) (d : DA) : Prop where
  ex : ∃ t, PK X kws t ∧ LA X.K t d
theorem pdk_nil : PDK X [] aNil := ⟨_, pk_nil, la_nil⟩
theorem pdk_cons {nm : Option Str} {kpos : Pos} {kws : List Keyword} {d : DE} {a : DA} (h1 : PD X e d) (h2 : PDK X kws a) : PDK X (⟨nm, e, kpos⟩ :: kws) (aCons d a) := by
  obtain ⟨t1, p1, l1⟩ := h1
  obtain ⟨t2, p2, l2⟩ := h2
  exact ⟨_, pk_cons p1 p2, la_cons l1 l2⟩
def dCallK (np : Nat) (idx : List Nat) (n : Nat) (φ : DF) (a b : DA) : DE := fun ρ μ Q => a ρ μ fun ss μ1 => b ρ μ1 fun ts μ2 => (kp np idx ss ts).length = n ∧ φ (kp np idx ss ts) μ2 Q
theorem kbinds_of {f : Addr} {fd : FuncData} {ks : List Str} {np : Nat} {idx : List Nat} (F : Fun K x x st f fd) (hps : ps ≠ [])
    (hb : ∀ (kV doc pm : Value) (an : Option Addr) (cdv ct : Value) (us ws : List Value), us.length = np → ws.length = idx.length →
      bindArgs (PySem.W.fnOf x x (defArgs st) (defBody st) (defScope st) .none kV doc pm an cdv ct) ⟨us, ks.zip ws⟩ = pure (ps.zip (us ++ idx.filterMap fun i => ws[i]?))) : KBinds K fd ps ks (kp np idx) (kp np idx) := by
  obtain ⟨oc, od, kV, doc, pm, an, cdv, ct, osl, rfl, lk, hcd⟩ := F.ex
  refine ⟨fun s us ws _ hl => ?_, fun h1 h2 => vals_kp h1 h2⟩
  by_cases hc : us.length = np ∧ ws.length = idx.length
  · have e : kp np idx us ws = us ++ idx.filterMap (fun i => ws[i]?) := if_pos hc
    rw [e]
    exact .of_eq (hb kV doc pm an cdv ct us ws hc.1 hc.2)
  · have e : kp np idx us ws = [] := if_neg hc
    rw [e] at hl
    exact absurd (List.length_eq_zero_iff.mp hl.symm) hps
theorem pd_callK {ks : List Str} {kws : List Keyword} (np : Nat) (idx : List Nat) {a b : DA} (o : Own X.prog X.w X.K X.mg X.base x st ps k n φ) (hr : RoomG k X.A) (hps : ps ≠ [])
    (hb : ∀ (kV doc pm : Value) (an : Option Addr) (cdv ct : Value) (us ws : List Value), us.length = np → ws.length = idx.length →
      bindArgs (PySem.W.fnOf x x (defArgs st) (defBody st) (defScope st) .none kV doc pm an cdv ct) ⟨us, ks.zip ws⟩ = pure (ps.zip (us ++ idx.filterMap fun i => ws[i]?)))
    (ha : PDA X (e :: es) a) (hk : PDK X kws b) (hg : Gl X x := by rfl) (hall : (backToKw pos (keywordEach kws X.env)).all (·.1.isSome) = true := by rfl) (hks : (backToKw pos (keywordEach kws X.env)).filterMap (·.1) = ks := by rfl)
    (hdb : (x == ("__debug__" : Str)) = false := by decide) (he : starEach (e :: es) X.env = (false, eval e X.env) :: starEach es X.env := by rfl)
    (hpl : ((backTo pos (starEach (e :: es) X.env)).any (·.1) || (backToKw pos (keywordEach kws X.env)).any (·.1.isNone)) = false := by rfl) : PD X (.Call (.Name x p) (e :: es) kws pos) (dCallK np idx n φ a b) := by
  obtain ⟨f, fd, F, G, hm⟩ := o
  obtain ⟨t1, p1, l1⟩ := ha
  obtain ⟨t2, p2, l2⟩ := hk
  refine ⟨_, pe_callGK G hr hg hm F.kp (kbinds_of F hps hb) pass0 p1 p2 hall hks hdb he hpl, fun ρ μ Q' h W σ H henv r Q q => l1 ρ μ _ h W σ H henv r _ fun vs ss W1 H1 μ1 le1 r1 hss h1 =>
    l2 ρ μ1 _ h1 W1 σ H1 (henv.mono le1) r1 _ fun us ts W2 H2 μ2 le2 r2 hts h2 => spD_of (E := E0) (slAll_kp (hss.mono le2) hts) r2 h2 (q.le (le1.trans le2))⟩
theorem pd_callK0 {ks : List Str} {kws : List Keyword} (idx : List Nat) {b : DA} (o : Own X.prog X.w X.K X.mg X.base x st ps k n φ) (hr : RoomG k X.A) (hps : ps ≠ [])
    (hb : ∀ (kV doc pm : Value) (an : Option Addr) (cdv ct : Value) (us ws : List Value), us.length = 0 → ws.length = idx.length →
      bindArgs (PySem.W.fnOf x x (defArgs st) (defBody st) (defScope st) .none kV doc pm an cdv ct) ⟨us, ks.zip ws⟩ = pure (ps.zip (us ++ idx.filterMap fun i => ws[i]?)))
    (hk : PDK X kws b) (hg : Gl X x := by rfl) (hall : (backToKw pos (keywordEach kws X.env)).all (·.1.isSome) = true := by rfl) (hks : (backToKw pos (keywordEach kws X.env)).filterMap (·.1) = ks := by rfl)
    (hdb : (x == ("__debug__" : Str)) = false := by decide) (hpl : ((backTo pos (starEach [] X.env)).any (·.1) || (backToKw pos (keywordEach kws X.env)).any (·.1.isNone)) = false := by rfl) : PD X (.Call (.Name x p) [] kws pos) (dCallK 0 idx n φ aNil b) := by
  obtain ⟨f, fd, F, G, hm⟩ := o
  obtain ⟨t2, p2, l2⟩ := hk
  refine ⟨_, pe_callGK0 G hr hg hm F.kp (kbinds_of F hps hb) pass0 p2 hall hks hdb hpl, fun ρ μ Q' h W σ H henv r Q q => l2 ρ μ _ h W σ H henv r _ fun us ts W2 H2 μ2 le2 r2 hts h2 => ?_⟩
  exact spD_of (E := E0) (slAll_kp .nil hts) r2 h2 (q.le le2)
end
end DL
namespace DL
open PySem PySem.Spec PyProof.Rows L2 Evl
section
variable {X : Cx} {K : PySem.W.Frag} {e : Expr} {es : List Expr} {x : Str} {p pos : Pos}
/-! ### repr -/
def okR (d : PyData) : Prop := d.showable = true ∧ (d.hasDict = false ∨ d = .dict []) ∧ d.depth ≤ 64 ∧ d.shown.length ≤ sizeLine
def rReprV (K : PySem.W.Frag) : List V → Hp → VK → Prop := fun vs H Q => ∃ v d, vs = [v] ∧ Dv K H v d ∧ okR d ∧ Q (.str d.shown) H
theorem cr_repr (hu : X.A.units + 128 < cLine) (hg : X.A.guards = some []) : CallR X (.builtin "repr") (rReprV X.K) := by
  intro pins s σ H vs us Q I r h
  obtain ⟨v, d, rfl, hd, ⟨h1, h2, h3, h4⟩, q⟩ := h
  cases r with
  | cons r1 r2 =>
    cases r2
    rename_i u
    obtain ⟨as, rr⟩ := Dv.reads I d v u hd r1
    cases d with
    | none =>
      cases hd
      cases r1
      exact PySem.P.repr_of_none ⟨.str _, H, I.tok _, ⟨_, rfl⟩, q⟩
    | bool b =>
      cases hd
      cases r1
      exact PySem.P.repr_of_bool ⟨.str _, H, I.tok _, ⟨_, rfl⟩, q⟩
    | int i =>
      cases hd
      obtain ⟨t, rfl⟩ := r1
      exact PySem.P.repr_of_int (of_decide_eq_true h1) ⟨.str _, H, I.tok _, ⟨_, rfl⟩, q⟩
    | str z =>
      cases hd
      obtain ⟨t, rfl⟩ := r1
      exact PySem.P.repr_of_str ⟨.str _, H, I.tok _, ⟨_, rfl⟩, q⟩ h4
    | list ds =>
      cases hd
      cases r1
      exact repr_of_reads' rr h1 (PyData.noDict_hsm (h2.resolve_right (fun z => by cases z))) hg (by omega) (fun _ _ z => z) (fun h' u tk hk => ⟨.str _, H, I.kept hk, ⟨_, rfl⟩, q⟩) h4
    | tuple ds =>
      cases hd
      cases r1
      exact repr_of_reads' rr h1 (PyData.noDict_hsm (h2.resolve_right (fun z => by cases z))) hg (by omega) (fun _ _ z => z) (fun h' u tk hk => ⟨.str _, H, I.kept hk, ⟨_, rfl⟩, q⟩) h4
    | dict kvs =>
      cases hd with
      | emp hs =>
        cases r1
        obtain ⟨r0, ne⟩ := dict_reads I hs
        exact repr_of_reads' r0 h1 (fun _ => by simpa using ne.symm) hg (by omega) (fun _ _ z => z) (fun h' u tk hk => ⟨.str _, H, I.kept hk, ⟨_, rfl⟩, q⟩) h4
def fRepr : DRA := arg1 fun d _ μ Q => okR d ∧ Q (.dat (.str d.shown)) μ
theorem RoomG.u128 {k : Nat} {A : Around} (h : RoomG k A) : A.units + 128 < cLine := by have := h.r.un; omega
theorem RoomG.u64 {k : Nat} {A : Around} (h : RoomG k A) : A.units + 64 < cLine := by have := h.r.un; omega
theorem pd_repr {k : Nat} (hr : RoomG k X.A) {a : DA} (ha : PDA X (e :: es) a) (hm : X.mg "repr" = none) (hg : Gl X "repr" := by rfl)
    (he : starEach (e :: es) X.env = (false, eval e X.env) :: starEach es X.env := by rfl) (hpl : (backTo pos (starEach es X.env)).any (·.1) = false := by rfl) : PD X (.Call (.Name "repr" p) (e :: es) [] pos) (dCB fRepr a) := by
  refine pd_cb (cr_repr hr.u128 hr.g) (fun xs μ Q' h W H vs r hs Q q => ?_) (by decide +kernel) ha hm hg (by decide) (by decide) he hpl
  obtain ⟨x, d, rfl, e1, h⟩ := arg1_of h
  obtain ⟨v, rfl, hx⟩ := slAll1 hs
  exact ⟨v, d, rfl, rd_dp r hx e1, h.1, q.str r h.2⟩
end
/-! ### the end of a law -/
/-- what is promised of a law: it is called with a list of at most 63 ints, and hands back True -/
def lawF : DF := fun ss μ Q' => ∃ ns : List Int, ns.length ≤ 63 ∧ ss = [.dat (.list (ns.map PyData.int))] ∧ μ = [] ∧ Q' (.dat (.bool true)) []
theorem law_spD (K : PySem.W.Frag) (H : Hp) (a : Addr) (ns : List Int) (hl : ns.length ≤ 63) (hS : SqL K H a (ns.map V.int)) : SpD K 1 lawF [.ref a] H (fun v _ => v = .bl true) E0 := by
  refine ⟨⟨H, H, []⟩, [.dat (.list (ns.map PyData.int))], [], fun s _ => s = .dat (.bool true), rfl, .cons (.lst hS (DvAll.ints ns)) .nil, ⟨Ex.refl _, Ex.refl _, rfl, fun i j a h => ?_, fun k a c h => ?_⟩, ⟨ns, hl, rfl, rfl, rfl⟩, fun v s W' H' μ' l r hs e => ?_⟩
  · simp at h
  · simp at h
  · subst e
    exact bool_of hs
end DL
/-! DL13: reckoning what a def does: the steps as equations for simp -/
namespace DL
open PySem PySem.Spec PyProof.Rows L2 Evl
/-- a body keeps a promise -/
def Pure (N : List Str) (n : Nat) (φ : DF) (ds : DS) : Prop := ∀ ss μ Q', ss.length = n → φ ss μ Q' → ds ⟨fun _ μ' => finQ μ.length Q' (.dat .none) μ', finQ μ.length Q', fun _ _ => False, fun _ _ => False⟩ (startD N ss) μ
section
variable {ρ : Rho} {μ : Mu} {Q : DQ} {D : DEnds} {a b c d e : DE} {t u : DT} {as : DA} {r r' : DR2} {r1 : DR1} {ra : DRA} {s s' : DS}
@[simp ↓] theorem e_dVar {i : Nat} : dVar i ρ μ Q = (match ρ[i]? with | some (some s) => Q s μ | _ => False) := rfl
@[simp ↓] theorem e_dC {x : PyData} : dC x ρ μ Q = Q (.dat x) μ := rfl
@[simp ↓] theorem e_aNil {R : List Sl → Mu → Prop} : aNil ρ μ R = R [] μ := rfl
@[simp ↓] theorem e_aCons {R : List Sl → Mu → Prop} : aCons d as ρ μ R = d ρ μ fun s μ1 => as ρ μ1 fun ss μ2 => R (s :: ss) μ2 := rfl
@[simp ↓] theorem e_dOp : dOp r a b ρ μ Q = a ρ μ fun x μ1 => b ρ μ1 fun y μ2 => r x y μ2 Q := rfl
@[simp ↓] theorem e_dUn : dUn r1 a ρ μ Q = a ρ μ fun x μ1 => r1 x μ1 Q := rfl
@[simp ↓] theorem e_dCB : dCB ra as ρ μ Q = as ρ μ fun x μ1 => ra x μ1 Q := rfl
@[simp ↓] theorem e_dTest {R : Bool → Mu → Prop} : dTest d ρ μ R = d ρ μ fun x μ1 => match x with | .dat (.bool b) => R b μ1 | _ => False := rfl
@[simp ↓] theorem e_dChain : dChain r r' a b c ρ μ Q = a ρ μ fun x μ1 => b ρ μ1 fun y μ2 => r x y μ2 fun z μ3 => match z with | .dat (.bool k) => if k = true then c ρ μ3 (fun w μ4 => r' y w μ4 Q) else Q (.dat (.bool false)) μ3 | _ => False := rfl
@[simp ↓] theorem e_dTru {R : Bool → Mu → Prop} : dTru d ρ μ R = d ρ μ fun x μ1 => match rd μ1 x with | some z => okT z ∧ R (truD z) μ1 | _ => False := rfl
@[simp ↓] theorem e_dAnd {R : Bool → Mu → Prop} : dAnd t u ρ μ R = t ρ μ fun c μ1 => if c = true then u ρ μ1 R else R false μ1 := rfl
@[simp ↓] theorem e_dOr {R : Bool → Mu → Prop} : dOr t u ρ μ R = t ρ μ fun c μ1 => if c = true then R true μ1 else u ρ μ1 R := rfl
@[simp ↓] theorem e_dNot {R : Bool → Mu → Prop} : dNot t ρ μ R = t ρ μ fun c μ1 => R (!c) μ1 := rfl
@[simp ↓] theorem e_dIf : dIf t a b ρ μ Q = t ρ μ fun c μ1 => if c = true then a ρ μ1 Q else b ρ μ1 Q := rfl
@[simp ↓] theorem e_dAndV : dAndV a b ρ μ Q = a ρ μ fun x μ1 => match x with | .dat (.bool c) => if c = true then b ρ μ1 Q else Q (.dat (.bool false)) μ1 | _ => False := rfl
@[simp ↓] theorem e_dOrV : dOrV a b ρ μ Q = a ρ μ fun x μ1 => match x with | .dat (.bool c) => if c = true then Q (.dat (.bool true)) μ1 else b ρ μ1 Q | _ => False := rfl
@[simp ↓] theorem e_dNotV : dNotV a ρ μ Q = a ρ μ fun x μ1 => match x with | .dat (.bool c) => Q (.dat (.bool (!c))) μ1 | _ => False := rfl
@[simp ↓] theorem e_dTup : dTup as ρ μ Q = as ρ μ fun ss μ1 => match datsOf ss with | some (b, ds) => ds.length ≤ sizeLine ∧ Q (mk b (.tuple ds)) μ1 | none => False := rfl
@[simp ↓] theorem e_dLst : dLst as ρ μ Q = as ρ μ fun ss μ1 => match datsOf ss with | some (b, ds) => ds.length ≤ sizeLine ∧ Q (mk b (.list ds)) μ1 | none => False := rfl
@[simp ↓] theorem e_dLstC : dLstC as ρ μ Q = as ρ μ fun ss μ1 => match datsOf ss with | some (false, ds) => ds.length ≤ sizeLine ∧ Q (.cell μ1.length) (μ1 ++ [.lst ds]) | _ => False := rfl
@[simp ↓] theorem e_dNext : dNext D ρ μ = D.nx ρ μ := rfl
@[simp ↓] theorem e_dSeq : dSeq s s' D ρ μ = s { D with nx := s' D } ρ μ := rfl
@[simp ↓] theorem e_dAsg {i : Nat} : dAsg d i D ρ μ = d ρ μ fun s μ1 => D.nx (ρ.set i (some s)) μ1 := rfl
@[simp ↓] theorem e_dRet : dRet d D ρ μ = d ρ μ D.rt := rfl
@[simp ↓] theorem e_dRetN : dRetN D ρ μ = D.rt (.dat .none) μ := rfl
@[simp ↓] theorem e_dIfS : dIfS t s s' D ρ μ = t ρ μ fun c μ1 => if c = true then s D ρ μ1 else s' D ρ μ1 := rfl
@[simp ↓] theorem e_dDrop : dDrop d D ρ μ = d ρ μ fun _ μ1 => D.nx ρ μ1 := rfl
@[simp ↓] theorem e_dNever : dNever D ρ μ = False := rfl
@[simp ↓] theorem e_dCont : dCont D ρ μ = D.ct ρ μ := rfl
@[simp ↓] theorem e_dBreak : dBreak D ρ μ = D.bk ρ μ := rfl
@[simp ↓] theorem e_dAug {i : Nat} : dAug i r d D ρ μ = dVar i ρ μ fun x μ0 => d ρ μ0 fun y μ1 => r x y μ1 fun z μ2 => D.nx (ρ.set i (some z)) μ2 := rfl
@[simp ↓] theorem e_dPar {i j : Nat} : dPar i j as D ρ μ = as ρ μ fun ss μ1 => match ss with | [s, t] => D.nx ((ρ.set i (some s)).set j (some t)) μ1 | _ => False := rfl
@[simp ↓] theorem e_gN {i : Nat} {x : Sl} {R : Rho → Mu → Prop} : gN i x ρ μ R = R (ρ.set i (some x)) μ := rfl
@[simp ↓] theorem e_gsNil {R : Rho → Mu → Prop} : gsNil [] ρ μ R = R ρ μ := rfl
@[simp ↓] theorem e_gsCons {g : DG} {gs : DGs} {x : Sl} {xs : List Sl} {R : Rho → Mu → Prop} : gsCons g gs (x :: xs) ρ μ R = g x ρ μ fun ρ1 μ1 => gs xs ρ1 μ1 R := rfl
@[simp ↓] theorem e_gT {n : Nat} {gs : DGs} {ds : List PyData} {R : Rho → Mu → Prop} : gT n gs (.dat (.tuple ds)) ρ μ R = (ds.length = n ∧ gs (ds.map .dat) ρ μ R) := rfl
@[simp ↓] theorem e_gS {x : Sl} {R : Rho → Mu → Prop} : gS a b x ρ μ R = a ρ μ fun y μ1 => b ρ μ1 fun z μ2 => wrL y z x μ2 fun μ3 => R ρ μ3 := rfl
@[simp ↓] theorem e_dAsgG {g : DG} : dAsgG d g D ρ μ = d ρ μ fun s μ1 => g s ρ μ1 D.nx := rfl
@[simp ↓] theorem e_dCall {n : Nat} {φ : DF} : dCall n φ as ρ μ Q = as ρ μ fun ss μ1 => ss.length = n ∧ φ ss μ1 Q := rfl
@[simp ↓] theorem e_dCallK {np n : Nat} {idx : List Nat} {φ : DF} {bs : DA} : dCallK np idx n φ as bs ρ μ Q = as ρ μ fun ss μ1 => bs ρ μ1 fun ts μ2 => (kp np idx ss ts).length = n ∧ φ (kp np idx ss ts) μ2 Q := rfl
@[simp ↓] theorem e_rdD {x : PyData} : rd μ (.dat x) = some x := rfl
@[simp ↓] theorem e_rdV {x : PyData} : rd μ (.vw x) = some x := rfl
@[simp ↓] theorem e_rdC {k : Nat} : rd μ (.cell k) = rdC μ[k]? := rfl
@[simp ↓] theorem e_rdCl {ds : List PyData} : rdC (some (.lst ds)) = some (.list ds) := rfl
@[simp ↓] theorem e_isVd {x : PyData} : isV (.dat x) = false := rfl
@[simp ↓] theorem e_isVc {k : Nat} : isV (.cell k) = false := rfl
@[simp ↓] theorem e_mkF {x : PyData} : mk false x = .dat x := rfl
@[simp ↓] theorem e_eltD {x y : PyData} : elt (.dat x) y = .dat y := rfl
@[simp ↓] theorem e_eltC {k : Nat} {y : PyData} : elt (.cell k) y = .dat y := rfl
@[simp ↓] theorem e_eltfun {x : PyData} : elt (.dat x) = .dat := rfl
@[simp ↓] theorem e_datsNil : datsOf [] = some (false, []) := rfl
@[simp ↓] theorem e_datsCons {x : PyData} {ss : List Sl} : datsOf (.dat x :: ss) = (match datsOf ss with | some (b, ds) => some (b, x :: ds) | none => none) := rfl
@[simp ↓] theorem e_finD {n : Nat} {x : PyData} : finQ n Q (.dat x) μ = Q (.dat x) (μ.take n) := rfl
theorem e_wrL {k : Nat} {j : Int} {x : PyData} {R : Mu → Prop} : wrL (.cell k) (.dat (.int j)) (.dat x) μ R = (match μ[k]? with | some (.lst ds) => ∃ m, ixN ds.length j = some m ∧ R (μ.set k (.lst (ds.set m x))) | _ => False) := rfl
@[simp ↓] theorem e_sz2 : 2 ≤ sizeLine := by decide
theorem small_sz {n : Nat} (h : n ≤ 1000) : n ≤ sizeLine := Nat.le_trans h (by decide)
end
theorem fact_of {K : PySem.W.Frag} {h : Heap} {mg : Str → Option Value} {x : Str} {st : Stmt} {f : Addr} (X : K.In h) (G : h.Ns mainGlobals mg) {od an : Option Addr} {sl : Array (Option Value)} {oc kV dc pm cd ct : Value}
    (a : PySem.W.nsIn K mainGlobals x = some (some (.ref f))) (l : K.lookup f = some ⟨oc, od, .func (PySem.W.fnOf x x (defArgs st) (defBody st) (defScope st) .none kV dc pm an cd ct), sl⟩) (c : PySem.W.codeIn K cd x = true) (k : PySem.W.keepIn K (.ref f) = true) :
    ∃ f fd, Fun K x x st f fd ∧ mg x = some (.ref f) := ⟨f, _, fun_mk l c k, PySem.W.mg_of X G a⟩
theorem step_of {K : PySem.W.Frag} {h : Heap} {mg : Str → Option Value} {x : Str} {st : Stmt} {f : Addr} {Z : Prop} (X : K.In h) (G : h.Ns mainGlobals mg) {od an : Option Addr} {sl : Array (Option Value)} {oc kV dc pm cd ct : Value}
    (a : PySem.W.nsIn K mainGlobals x = some (some (.ref f))) (l : K.lookup f = some ⟨oc, od, .func (PySem.W.fnOf x x (defArgs st) (defBody st) (defScope st) .none kV dc pm an cd ct), sl⟩) (c : PySem.W.codeIn K cd x = true) (k : PySem.W.keepIn K (.ref f) = true)
    (z : (∃ f fd, Fun K x x st f fd ∧ mg x = some (.ref f)) → Z) : Z := z (fact_of X G a l c k)
end DL
namespace K12
open PySem PySem.Spec PyProof.Rows L2 Evl DL
/-! what each def promises -/
def isW : PyData → Bool
  | .int _ => true
  | _ => false
def rat (n u : Int) : PyData := .tuple [.int n, .int u]
def gcdI (n u : Int) : Int := ((Nat.gcd n.natAbs u.natAbs : Nat) : Int)
def IsR (n u : Int) : Prop := 1 ≤ u ∧ gcdI n u = 1
instance (n u : Int) : Decidable (IsR n u) := inferInstanceAs (Decidable (_ ∧ _))
def Sm (k : Nat) (x : Int) : Prop := x.natAbs < 2 ^ k
def Sms (k : Nat) (a b c d : Int) : Prop := Sm k a ∧ Sm k b ∧ Sm k c ∧ Sm k d
def redG (n u : Int) : Int := if u < 0 then -gcdI n u else gcdI n u
def redN (n u : Int) : Int := n.fdiv (redG n u)
def redD (n u : Int) : Int := u.fdiv (redG n u)
def red (n u : Int) : PyData := rat (redN n u) (redD n u)
def cmpI (x y : Int) : Int := if x = y then 0 else if x < y then -1 else 1
def Pot (μ : Mu) (k : Nat) : Prop := ∃ p0 p1 : Int, μ[k]? = some (.lst [.int p0, .int p1]) ∧ 0 ≤ p0 ∧ 0 ≤ p1 ∧ p1 < 2 ^ 40
def ph_is_integer : DF := fun ss μ Q => ∃ d, ss = [.dat d] ∧ Q (.dat (.bool (isW d))) μ
def ph_is_tuple_of : DF := fun ss μ Q => ∃ ds n, ss = [.dat (.tuple ds), .dat (.int n)] ∧ Q (.dat (.bool (decide ((ds.length : Int) = n)))) μ
def ph_is_ratio : DF := fun ss μ Q => ∃ n u, ss = [.dat (rat n u)] ∧ Q (.dat (.bool (decide (IsR n u)))) μ
def ph_check_integer : DF := fun ss μ Q => ∃ n, ss = [.dat (.int n)] ∧ Q (.dat .none) μ
def ph_check_ratio : DF := fun ss μ Q => ∃ n u, ss = [.dat (rat n u)] ∧ IsR n u ∧ Q (.dat .none) μ
def ph_check_ratios : DF := fun ss μ Q => ∃ a b c d, ss = [.dat (rat a b), .dat (rat c d)] ∧ (IsR a b ∧ IsR c d) ∧ Q (.dat .none) μ
def ph_reduced : DF := fun ss μ Q => ∃ n u, ss = [.dat (.int n), .dat (.int u)] ∧ (u ≠ 0 ∧ Sm 8000 u) ∧ Q (.dat (red n u)) μ
def ph_made : DF := ph_reduced
def two (c : Int → Int → Int → Int → Prop) (f : Int → Int → Int → Int → PyData) : DF := fun ss μ Q => ∃ a b c' d, ss = [.dat (rat a b), .dat (rat c' d)] ∧ (IsR a b ∧ IsR c' d ∧ Sms 2000 a b c' d ∧ c a b c' d) ∧ Q (.dat (f a b c' d)) μ
def ph_plus : DF := two (fun _ _ _ _ => True) fun a b c d => red (a * d + c * b) (b * d)
def ph_minus : DF := two (fun _ _ _ _ => True) fun a b c d => red (a * d - c * b) (b * d)
def ph_times : DF := two (fun _ _ _ _ => True) fun a b c d => red (a * c) (b * d)
def ph_over : DF := two (fun _ _ c _ => c ≠ 0) fun a b c d => red (a * d) (b * c)
def ph_compared : DF := two (fun _ _ _ _ => True) fun a b c d => .int (cmpI (a * d) (c * b))
def ph_floor_of : DF := fun ss μ Q => ∃ a b, ss = [.dat (rat a b)] ∧ (IsR a b ∧ Sm 2000 b) ∧ Q (.dat (.int (a.fdiv b))) μ
def ph_ceiling_of : DF := fun ss μ Q => ∃ a b, ss = [.dat (rat a b)] ∧ (IsR a b ∧ Sm 2000 b) ∧ Q (.dat (.int (-((-a).fdiv b)))) μ
def ph_law_pot : DF := fun ss μ Q => ∃ (ns : List Int) (k : Int), ss = [.dat (.list (ns.map PyData.int)), .dat (.int k)] ∧ (0 ≤ k ∧ k ≤ 100) ∧ ∀ p0 p1 : Int, 0 ≤ p0 → 0 ≤ p1 → p1 < 2 ^ 40 → Q (.cell μ.length) (μ ++ [.lst [.int p0, .int p1]])
def ph_law_draw : DF := fun ss μ Q => ∃ k n, ss = [.cell k, .dat (.int n)] ∧ Pot μ k ∧ (0 < n ∧ n < 2 ^ 100) ∧ ∀ x μ', 0 ≤ x → x < n → Pot μ' k → μ'.length = μ.length → Q (.dat (.int x)) μ'
def ph_law_pick : DF := fun ss μ Q => ∃ k ds, ss = [.cell k, .dat (.list ds)] ∧ Pot μ k ∧ (0 < ds.length ∧ ds.length ≤ 1000) ∧ ∀ x μ', x ∈ ds → Pot μ' k → μ'.length = μ.length → Q (.dat x) μ'
def ph_law_common : DF := fun ss μ Q => ∃ a b, ss = [.dat (.int a), .dat (.int b)] ∧ (Sm 8000 a ∧ Sm 8000 b) ∧ Q (.dat (.int (gcdI a b))) μ
def ph_law_ratio : DF := fun ss μ Q => ∃ n u, ss = [.dat (.int n), .dat (.int u)] ∧ (u ≠ 0 ∧ Sm 8000 n ∧ Sm 8000 u) ∧ Q (.dat (red n u)) μ
def ph_law_is_whole : DF := ph_is_integer
def ph_law_is_ratio : DF := fun ss μ Q => ∃ n u, ss = [.dat (rat n u)] ∧ (Sm 8000 n ∧ Sm 8000 u) ∧ Q (.dat (.bool (decide (IsR n u)))) μ
def ph_law_number : DF := fun ss μ Q => ∃ k, ss = [.cell k] ∧ Pot μ k ∧ ∀ n μ', Sm 60 n → Pot μ' k → μ'.length = μ.length → Q (.dat (.int n)) μ'
def ph_law_drawn : DF := fun ss μ Q => ∃ k, ss = [.cell k] ∧ Pot μ k ∧ ∀ n u μ', IsR n u → Sm 60 n → Sm 60 u → Pot μ' k → μ'.length = μ.length → Q (.dat (rat n u)) μ'
def ph_law_is_worth : DF := fun ss μ Q => ∃ p q n u, ss = [.dat (rat p q), .dat (.int n), .dat (.int u)] ∧ (Sms 8000 p q n u ∧ IsR p q ∧ p * u = n * q) ∧ Q (.dat (.bool true)) μ
def ph_law_pair_right : DF := fun ss μ Q => ∃ a b c d, ss = [.dat (rat a b), .dat (rat c d)] ∧ (IsR a b ∧ IsR c d ∧ Sms 60 a b c d) ∧ Q (.dat (.bool true)) μ
def ph_law_one_right : DF := fun ss μ Q => ∃ a b, ss = [.dat (rat a b)] ∧ (IsR a b ∧ Sm 60 a ∧ Sm 60 b) ∧ Q (.dat (.bool true)) μ
def ph_law : DF := lawF
end K12
namespace K12
open PySem PySem.Spec PyProof.Rows L2 Evl DL
def ds_is_integer : DS := (dRet (dAndV (dUn (fIsi .int) (dVar 0)) (dNotV (dUn (fIsi .bool) (dVar 0)))))
def ds_is_tuple_of : DS := (dRet (dAndV (dUn (fIsi .tup) (dVar 0)) (dOp rEq (dCB fLen (aCons (dVar 0) aNil)) (dVar 1))))
def ds_is_ratio : DS := (dSeq (dIfS (dOr (dNot (dTru (dCall 2 ph_is_tuple_of (aCons (dVar 0) (aCons (dC (.int 2)) aNil))))) (dOr (dNot (dTru (dCall 1 ph_is_integer (aCons (dOp rIx (dVar 0) (dC (.int 0))) aNil)))) (dNot (dTru (dCall 1 ph_is_integer (aCons (dOp rIx (dVar 0) (dC (.int 1))) aNil)))))) (dRet (dC (.bool false))) dNext)
    (dSeq (dAsgG (dVar 0) (gT 2 (gsCons (gN 1) (gsCons (gN 2) gsNil))))
    (dRet (dAndV (dOp rGe (dVar 2) (dC (.int 1))) (dOp rEq (dCB fGcd (aCons (dVar 1) (aCons (dVar 2) aNil))) (dC (.int 1)))))))
def ds_check_integer : DS := (dIfS (dNot (dTru (dCall 1 ph_is_integer (aCons (dVar 0) aNil)))) dNever dNext)
def ds_check_ratio : DS := (dIfS (dNot (dTru (dCall 1 ph_is_ratio (aCons (dVar 0) aNil)))) dNever dNext)
def ds_check_ratios : DS := (dSeq (dDrop (dCall 1 ph_check_ratio (aCons (dVar 0) aNil)))
    (dDrop (dCall 1 ph_check_ratio (aCons (dVar 1) aNil))))
def ds_reduced : DS := (dSeq (dAsg (dCB fGcd (aCons (dVar 0) (aCons (dVar 1) aNil))) 2)
    (dSeq (dIfS (dTest (dOp rLt (dVar 1) (dC (.int 0)))) (dAsg (dUn rNeg (dVar 2)) 2) dNext)
    (dRet (dTup (aCons (dOp rDv (dVar 0) (dVar 2)) (aCons (dOp rDv (dVar 1) (dVar 2)) aNil))))))
def ds_made : DS := (dSeq (dDrop (dCall 1 ph_check_integer (aCons (dVar 0) aNil)))
    (dSeq (dDrop (dCall 1 ph_check_integer (aCons (dVar 1) aNil)))
    (dSeq (dIfS (dTest (dOp rEq (dVar 1) (dC (.int 0)))) dNever dNext)
    (dRet (dCall 2 ph_reduced (aCons (dVar 0) (aCons (dVar 1) aNil)))))))
def ds_plus : DS := (dSeq (dDrop (dCall 2 ph_check_ratios (aCons (dVar 0) (aCons (dVar 1) aNil))))
    (dRet (dCall 2 ph_reduced (aCons (dOp rAdd (dOp rMul (dOp rIx (dVar 0) (dC (.int 0))) (dOp rIx (dVar 1) (dC (.int 1)))) (dOp rMul (dOp rIx (dVar 1) (dC (.int 0))) (dOp rIx (dVar 0) (dC (.int 1))))) (aCons (dOp rMul (dOp rIx (dVar 0) (dC (.int 1))) (dOp rIx (dVar 1) (dC (.int 1)))) aNil)))))
def ds_minus : DS := (dSeq (dDrop (dCall 2 ph_check_ratios (aCons (dVar 0) (aCons (dVar 1) aNil))))
    (dRet (dCall 2 ph_reduced (aCons (dOp rSub (dOp rMul (dOp rIx (dVar 0) (dC (.int 0))) (dOp rIx (dVar 1) (dC (.int 1)))) (dOp rMul (dOp rIx (dVar 1) (dC (.int 0))) (dOp rIx (dVar 0) (dC (.int 1))))) (aCons (dOp rMul (dOp rIx (dVar 0) (dC (.int 1))) (dOp rIx (dVar 1) (dC (.int 1)))) aNil)))))
def ds_times : DS := (dSeq (dDrop (dCall 2 ph_check_ratios (aCons (dVar 0) (aCons (dVar 1) aNil))))
    (dRet (dCall 2 ph_reduced (aCons (dOp rMul (dOp rIx (dVar 0) (dC (.int 0))) (dOp rIx (dVar 1) (dC (.int 0)))) (aCons (dOp rMul (dOp rIx (dVar 0) (dC (.int 1))) (dOp rIx (dVar 1) (dC (.int 1)))) aNil)))))
def ds_over : DS := (dSeq (dDrop (dCall 2 ph_check_ratios (aCons (dVar 0) (aCons (dVar 1) aNil))))
    (dSeq (dIfS (dTest (dOp rEq (dOp rIx (dVar 1) (dC (.int 0))) (dC (.int 0)))) dNever dNext)
    (dRet (dCall 2 ph_reduced (aCons (dOp rMul (dOp rIx (dVar 0) (dC (.int 0))) (dOp rIx (dVar 1) (dC (.int 1)))) (aCons (dOp rMul (dOp rIx (dVar 0) (dC (.int 1))) (dOp rIx (dVar 1) (dC (.int 0)))) aNil))))))
def ds_compared : DS := (dSeq (dDrop (dCall 2 ph_check_ratios (aCons (dVar 0) (aCons (dVar 1) aNil))))
    (dSeq (dPar 2 3 (aCons (dOp rMul (dOp rIx (dVar 0) (dC (.int 0))) (dOp rIx (dVar 1) (dC (.int 1)))) (aCons (dOp rMul (dOp rIx (dVar 1) (dC (.int 0))) (dOp rIx (dVar 0) (dC (.int 1)))) aNil)))
    (dSeq (dIfS (dTest (dOp rEq (dVar 2) (dVar 3))) (dRet (dC (.int 0))) dNext)
    (dRet (dIf (dTest (dOp rLt (dVar 2) (dVar 3))) (dUn rNeg (dC (.int 1))) (dC (.int 1)))))))
def ds_floor_of : DS := (dSeq (dDrop (dCall 1 ph_check_ratio (aCons (dVar 0) aNil)))
    (dRet (dOp rDv (dOp rIx (dVar 0) (dC (.int 0))) (dOp rIx (dVar 0) (dC (.int 1))))))
def ds_ceiling_of : DS := (dSeq (dDrop (dCall 1 ph_check_ratio (aCons (dVar 0) aNil)))
    (dRet (dUn rNeg (dOp rDv (dUn rNeg (dOp rIx (dVar 0) (dC (.int 0)))) (dOp rIx (dVar 0) (dC (.int 1)))))))
def ds_law_pot : DS := (dSeq (dAsg (dIf (dTest (dOp rLt (dVar 1) (dCB fLen (aCons (dVar 0) aNil)))) (dCB fAbs (aCons (dOp rIx (dVar 0) (dVar 1)) aNil)) (dOp rAdd (dOp rMul (dC (.int 1259)) (dVar 1)) (dC (.int 1009)))) 2)
    (dRet (dLstC (aCons (dCB fMax2 (aCons (dC (.int 0)) (aCons (dOp rSub (dVar 2) (dOp rPw (dC (.int 10)) (dC (.int 18)))) aNil))) (aCons (dOp rAdd (dOp rMd (dCB fInt (aCons (dOp rAdd (dOp rAdd (dOp rMul (dOp rMd (dCB fInt (aCons (dVar 2) aNil)) (dC (.int 2147483477))) (dC (.int 41777))) (dOp rMul (dC (.int 7393)) (dVar 1))) (dC (.int 991))) aNil)) (dC (.int 2147483579))) (dC (.int 1))) aNil)))))
def ds_law_draw : DS := (dSeq (dIfS (dTest (dOp rGt (dOp rIx (dVar 0) (dC (.int 0))) (dC (.int 0)))) (dSeq (dAsgG (dCB fDm (aCons (dOp rIx (dVar 0) (dC (.int 0))) (aCons (dVar 1) aNil))) (gT 2 (gsCons (gS (dVar 0) (dC (.int 0))) (gsCons (gN 2) gsNil))))
    (dRet (dVar 2))) dNext)
    (dSeq (dAsgG (dOp rMd (dCB fInt (aCons (dOp rAdd (dOp rMul (dOp rIx (dVar 0) (dC (.int 1))) (dC (.int 41141))) (dC (.int 31627))) aNil)) (dC (.int 2147483579))) (gS (dVar 0) (dC (.int 1))))
    (dRet (dOp rMd (dCB fInt (aCons (dOp rDv (dOp rMd (dCB fInt (aCons (dOp rMul (dOp rIx (dVar 0) (dC (.int 1))) (dOp rIx (dVar 0) (dC (.int 1)))) aNil)) (dC (.int 2147483477))) (dC (.int 23))) aNil)) (dVar 1)))))
def ds_law_pick : DS := (dRet (dOp rIx (dVar 1) (dCall 2 ph_law_draw (aCons (dVar 0) (aCons (dCB fLen (aCons (dVar 1) aNil)) aNil)))))
def ds_law_common : DS := (dSeq (dWhile (dTest (dOp rNe (dVar 1) (dC (.int 0)))) (dPar 0 1 (aCons (dVar 1) (aCons (dOp rSub (dVar 0) (dOp rMul (dOp rDv (dVar 0) (dVar 1)) (dVar 1))) aNil))))
    (dRet (dCB fAbs (aCons (dVar 0) aNil))))
def ds_law_ratio : DS := (dSeq (dAsg (dCall 2 ph_law_common (aCons (dVar 0) (aCons (dVar 1) aNil))) 2)
    (dSeq (dIfS (dTest (dOp rLt (dVar 1) (dC (.int 0)))) (dAsg (dUn rNeg (dVar 2)) 2) dNext)
    (dRet (dTup (aCons (dOp rDv (dVar 0) (dVar 2)) (aCons (dOp rDv (dVar 1) (dVar 2)) aNil))))))
def ds_law_is_whole : DS := (dRet (dAndV (dUn (fIsi .int) (dVar 0)) (dNotV (dUn (fIsi .bool) (dVar 0)))))
def ds_law_is_ratio : DS := (dSeq (dIfS (dOr (dNot (dTru (dUn (fIsi .tup) (dVar 0)))) (dOr (dTest (dOp rNe (dCB fLen (aCons (dVar 0) aNil)) (dC (.int 2)))) (dNot (dTru (dCB fAll (aCons (dLc (iSeq (dVar 0)) (gN 1) dYes (dCall 1 ph_law_is_whole (aCons (dVar 1) aNil)) [1]) aNil)))))) (dRet (dC (.bool false))) dNext)
    (dRet (dAndV (dOp rGt (dOp rIx (dVar 0) (dC (.int 1))) (dC (.int 0))) (dOp rEq (dCall 2 ph_law_common (aCons (dOp rIx (dVar 0) (dC (.int 0))) (aCons (dOp rIx (dVar 0) (dC (.int 1))) aNil))) (dC (.int 1))))))
def ds_law_number : DS := (dSeq (dAsg (dOp rSub (dCall 2 ph_law_draw (aCons (dVar 0) (aCons (dC (.int 25)) aNil))) (dC (.int 12))) 1)
    (dRet (dOp rMul (dVar 1) (dCall 2 ph_law_pick (aCons (dVar 0) (aCons (dLst (aCons (dC (.int 1)) (aCons (dC (.int 1)) (aCons (dC (.int 1)) (aCons (dC (.int 60)) (aCons (dOp rAdd (dOp rPw (dC (.int 10)) (dC (.int 6))) (dC (.int 3))) (aCons (dOp rPw (dC (.int 10)) (dC (.int 10))) aNil))))))) aNil))))))
def ds_law_drawn : DS := (dRet (dCall 2 ph_law_ratio (aCons (dCall 1 ph_law_number (aCons (dVar 0) aNil)) (aCons (dOp rAdd (dC (.int 1)) (dOp rMul (dCall 2 ph_law_draw (aCons (dVar 0) (aCons (dC (.int 12)) aNil))) (dCall 2 ph_law_pick (aCons (dVar 0) (aCons (dLst (aCons (dC (.int 1)) (aCons (dC (.int 1)) (aCons (dOp rPw (dC (.int 10)) (dC (.int 5))) aNil)))) aNil))))) aNil))))
def ds_law_is_worth : DS := (dRet (dAndV (dCall 1 ph_law_is_ratio (aCons (dVar 0) aNil)) (dOp rEq (dOp rMul (dOp rIx (dVar 0) (dC (.int 0))) (dVar 2)) (dOp rMul (dVar 1) (dOp rIx (dVar 0) (dC (.int 1)))))))
def ds_law_pair_right : DS := (dSeq (dAsgG (dTup (aCons (dVar 0) (aCons (dVar 1) aNil))) (gT 2 (gsCons (gT 2 (gsCons (gN 2) (gsCons (gN 3) gsNil))) (gsCons (gT 2 (gsCons (gN 4) (gsCons (gN 5) gsNil))) gsNil))))
    (dSeq (dIfS (dOr (dNot (dTru (dCall 3 ph_law_is_worth (aCons (dCall 2 ph_plus (aCons (dVar 0) (aCons (dVar 1) aNil))) (aCons (dOp rAdd (dOp rMul (dVar 2) (dVar 5)) (dOp rMul (dVar 4) (dVar 3))) (aCons (dOp rMul (dVar 3) (dVar 5)) aNil)))))) (dNot (dTru (dCall 3 ph_law_is_worth (aCons (dCall 2 ph_minus (aCons (dVar 0) (aCons (dVar 1) aNil))) (aCons (dOp rSub (dOp rMul (dVar 2) (dVar 5)) (dOp rMul (dVar 4) (dVar 3))) (aCons (dOp rMul (dVar 3) (dVar 5)) aNil))))))) (dRet (dC (.bool false))) dNext)
    (dSeq (dIfS (dOr (dNot (dTru (dCall 3 ph_law_is_worth (aCons (dCallK 0 [1, 0] 2 ph_times aNil (aCons (dVar 1) (aCons (dVar 0) aNil))) (aCons (dOp rMul (dVar 2) (dVar 4)) (aCons (dOp rMul (dVar 3) (dVar 5)) aNil)))))) (dTest (dOp rNe (dCallK 0 [1, 0] 2 ph_plus aNil (aCons (dVar 0) (aCons (dVar 1) aNil))) (dCall 2 ph_plus (aCons (dVar 0) (aCons (dVar 1) aNil)))))) (dRet (dC (.bool false))) dNext)
    (dSeq (dIfS (dOr (dTest (dOp rNe (dCall 2 ph_minus (aCons (dCall 2 ph_plus (aCons (dVar 0) (aCons (dVar 1) aNil))) (aCons (dVar 1) aNil))) (dVar 0))) (dTest (dOp rNe (dCallK 0 [0, 1] 2 ph_minus aNil (aCons (dVar 0) (aCons (dVar 0) aNil))) (dTup (aCons (dC (.int 0)) (aCons (dC (.int 1)) aNil)))))) (dRet (dC (.bool false))) dNext)
    (dSeq (dAsg (dOp rSub (dCB fInt (aCons (dOp rGt (dOp rMul (dVar 2) (dVar 5)) (dOp rMul (dVar 4) (dVar 3))) aNil)) (dCB fInt (aCons (dOp rLt (dOp rMul (dVar 2) (dVar 5)) (dOp rMul (dVar 4) (dVar 3))) aNil))) 6)
    (dSeq (dAsg (dLst (aCons (dCall 2 ph_compared (aCons (dVar 0) (aCons (dVar 1) aNil))) (aCons (dCallK 0 [0, 1] 2 ph_compared aNil (aCons (dVar 1) (aCons (dVar 0) aNil))) (aCons (dCall 2 ph_compared (aCons (dVar 0) (aCons (dVar 0) aNil))) aNil)))) 7)
    (dSeq (dIfS (dTest (dOp rNe (dCB fRepr (aCons (dVar 7) aNil)) (dCB fRepr (aCons (dLst (aCons (dVar 6) (aCons (dUn rNeg (dVar 6)) (aCons (dC (.int 0)) aNil)))) aNil)))) (dRet (dC (.bool false))) dNext)
    (dSeq (dIfS (dTest (dOp rEq (dVar 4) (dC (.int 0)))) (dRet (dC (.bool true))) dNext)
    (dSeq (dAsg (dCall 2 ph_over (aCons (dVar 0) (aCons (dVar 1) aNil))) 7)
    (dRet (dAndV (dCall 3 ph_law_is_worth (aCons (dVar 7) (aCons (dOp rMul (dVar 2) (dVar 5)) (aCons (dOp rMul (dVar 3) (dVar 4)) aNil)))) (dAndV (dOp rEq (dCall 2 ph_times (aCons (dVar 7) (aCons (dVar 1) aNil))) (dVar 0)) (dOp rEq (dCallK 0 [1, 0] 2 ph_over aNil (aCons (dVar 1) (aCons (dVar 1) aNil))) (dTup (aCons (dC (.int 1)) (aCons (dC (.int 1)) aNil))))))))))))))))
def ds_law_one_right : DS := (dSeq (dPar 1 2 (aCons (dCall 1 ph_floor_of (aCons (dVar 0) aNil)) (aCons (dCallK 0 [0] 1 ph_ceiling_of aNil (aCons (dVar 0) aNil)) aNil)))
    (dSeq (dIfS (dOr (dNot (dTru (dCall 1 ph_law_is_whole (aCons (dVar 1) aNil)))) (dNot (dTru (dCall 1 ph_law_is_whole (aCons (dVar 2) aNil))))) (dRet (dC (.bool false))) dNext)
    (dSeq (dIfS (dOr (dNot (dTest (dChain rLe rLt (dOp rMul (dVar 1) (dOp rIx (dVar 0) (dC (.int 1)))) (dOp rIx (dVar 0) (dC (.int 0))) (dOp rMul (dOp rAdd (dVar 1) (dC (.int 1))) (dOp rIx (dVar 0) (dC (.int 1))))))) (dNot (dTest (dChain rLt rLe (dOp rMul (dOp rSub (dVar 2) (dC (.int 1))) (dOp rIx (dVar 0) (dC (.int 1)))) (dOp rIx (dVar 0) (dC (.int 0))) (dOp rMul (dVar 2) (dOp rIx (dVar 0) (dC (.int 1)))))))) (dRet (dC (.bool false))) dNext)
    (dRet (dAndV (dOp rEq (dCallK 0 [0] 1 ph_floor_of aNil (aCons (dVar 0) aNil)) (dVar 1)) (dOp rEq (dOp rEq (dVar 2) (dVar 1)) (dOp rEq (dOp rIx (dVar 0) (dC (.int 1))) (dC (.int 1)))))))))
def ds_law : DS := (dSeq (dAsg (dCall 2 ph_law_pot (aCons (dVar 0) (aCons (dC (.int 0)) aNil))) 1)
    (dSeq (dFor (iRg1 (aCons (dC (.int 6)) aNil)) (gN 2) (dSeq (dPar 3 4 (aCons (dCall 1 ph_law_drawn (aCons (dVar 1) aNil)) (aCons (dCall 1 ph_law_drawn (aCons (dVar 1) aNil)) aNil)))
    (dSeq (dIfS (dOr (dNot (dTru (dCall 2 ph_law_pair_right (aCons (dVar 3) (aCons (dVar 4) aNil))))) (dNot (dTru (dCall 1 ph_law_one_right (aCons (dVar 3) aNil))))) (dRet (dC (.bool false))) dNext)
    (dSeq (dPar 5 6 (aCons (dCall 1 ph_law_number (aCons (dVar 1) aNil)) (aCons (dCall 1 ph_law_number (aCons (dVar 1) aNil)) aNil)))
    (dIfS (dTest (dOp rNe (dVar 6) (dC (.int 0)))) (dSeq (dAsg (dCallK 0 [1, 0] 2 ph_made aNil (aCons (dVar 6) (aCons (dVar 5) aNil))) 7)
    (dIfS (dOr (dTest (dOp rNe (dVar 7) (dCall 2 ph_law_ratio (aCons (dVar 5) (aCons (dVar 6) aNil))))) (dOr (dTest (dOp (rIs true) (dCall 1 ph_is_ratio (aCons (dVar 7) aNil)) (dC (.bool true)))) (dNot (dTru (dCall 3 ph_law_is_worth (aCons (dVar 7) (aCons (dVar 5) (aCons (dVar 6) aNil)))))))) (dRet (dC (.bool false))) dNext)) dNext)))))
    (dSeq (dAsg (dOp rAdd (dOp rPw (dC (.int 10)) (dC (.int 39))) (dC (.int 1))) 8)
    (dSeq (dIfS (dOr (dTest (dOp rNe (dCall 1 ph_floor_of (aCons (dTup (aCons (dVar 8) (aCons (dC (.int 2)) aNil))) aNil)) (dOp rMul (dC (.int 5)) (dOp rPw (dC (.int 10)) (dC (.int 38)))))) (dTest (dOp rNe (dCall 1 ph_ceiling_of (aCons (dTup (aCons (dVar 8) (aCons (dC (.int 2)) aNil))) aNil)) (dOp rAdd (dOp rMul (dC (.int 5)) (dOp rPw (dC (.int 10)) (dC (.int 38)))) (dC (.int 1)))))) (dRet (dC (.bool false))) dNext)
    (dSeq (dIfS (dOr (dTest (dOp rNe (dCall 2 ph_compared (aCons (dTup (aCons (dOp rPw (dC (.int 10)) (dC (.int 39))) (aCons (dC (.int 1)) aNil))) (aCons (dTup (aCons (dVar 8) (aCons (dC (.int 1)) aNil))) aNil))) (dUn rNeg (dC (.int 1))))) (dTest (dOp rNe (dCall 2 ph_minus (aCons (dTup (aCons (dVar 8) (aCons (dC (.int 2)) aNil))) (aCons (dTup (aCons (dC (.int 1)) (aCons (dC (.int 2)) aNil))) aNil))) (dTup (aCons (dOp rMul (dC (.int 5)) (dOp rPw (dC (.int 10)) (dC (.int 38)))) (aCons (dC (.int 1)) aNil)))))) (dRet (dC (.bool false))) dNext)
    (dRet (dAndV (dOp rEq (dCall 2 ph_made (aCons (dC (.int 0)) (aCons (dUn rNeg (dC (.int 5))) aNil))) (dTup (aCons (dC (.int 0)) (aCons (dC (.int 1)) aNil)))) (dOp rEq (dCall 2 ph_made (aCons (dC (.int 5)) (aCons (dUn rNeg (dC (.int 5))) aNil))) (dTup (aCons (dUn rNeg (dC (.int 1))) (aCons (dC (.int 1)) aNil)))))))))))
end K12
namespace K12
open PySem PySem.Spec PyProof.Rows L2 Evl DL
def topS (i : Nat) : Stmt := PySem.Challenge.pw_wishways_k12_whole_ratios_reckoned.main.body.getD i (.Pass ⟨0, 0, 0, 0⟩)
abbrev s_is_integer : Stmt := topS 8
theorem sc_is_integer : FnScope ["value"] ["value"] (defScope s_is_integer) := ⟨rfl, rfl, rfl, by decide +kernel, rfl, by decide +kernel, by decide +kernel⟩
abbrev s_is_tuple_of : Stmt := topS 9
theorem sc_is_tuple_of : FnScope ["value", "many"] ["value", "many"] (defScope s_is_tuple_of) := ⟨rfl, rfl, rfl, by decide +kernel, rfl, by decide +kernel, by decide +kernel⟩
abbrev s_is_ratio : Stmt := topS 11
theorem sc_is_ratio : FnScope ["value", "number", "under"] ["value"] (defScope s_is_ratio) := ⟨rfl, rfl, rfl, by decide +kernel, rfl, by decide +kernel, by decide +kernel⟩
abbrev s_check_integer : Stmt := topS 12
theorem sc_check_integer : FnScope ["value"] ["value"] (defScope s_check_integer) := ⟨rfl, rfl, rfl, by decide +kernel, rfl, by decide +kernel, by decide +kernel⟩
abbrev s_check_ratio : Stmt := topS 13
theorem sc_check_ratio : FnScope ["value"] ["value"] (defScope s_check_ratio) := ⟨rfl, rfl, rfl, by decide +kernel, rfl, by decide +kernel, by decide +kernel⟩
abbrev s_check_ratios : Stmt := topS 14
theorem sc_check_ratios : FnScope ["near", "far"] ["near", "far"] (defScope s_check_ratios) := ⟨rfl, rfl, rfl, by decide +kernel, rfl, by decide +kernel, by decide +kernel⟩
abbrev s_reduced : Stmt := topS 15
theorem sc_reduced : FnScope ["number", "under", "divisor"] ["number", "under"] (defScope s_reduced) := ⟨rfl, rfl, rfl, by decide +kernel, rfl, by decide +kernel, by decide +kernel⟩
abbrev s_made : Stmt := topS 16
theorem sc_made : FnScope ["number", "under"] ["number", "under"] (defScope s_made) := ⟨rfl, rfl, rfl, by decide +kernel, rfl, by decide +kernel, by decide +kernel⟩
abbrev s_plus : Stmt := topS 17
theorem sc_plus : FnScope ["near", "far"] ["near", "far"] (defScope s_plus) := ⟨rfl, rfl, rfl, by decide +kernel, rfl, by decide +kernel, by decide +kernel⟩
abbrev s_minus : Stmt := topS 18
theorem sc_minus : FnScope ["near", "far"] ["near", "far"] (defScope s_minus) := ⟨rfl, rfl, rfl, by decide +kernel, rfl, by decide +kernel, by decide +kernel⟩
abbrev s_times : Stmt := topS 19
theorem sc_times : FnScope ["near", "far"] ["near", "far"] (defScope s_times) := ⟨rfl, rfl, rfl, by decide +kernel, rfl, by decide +kernel, by decide +kernel⟩
abbrev s_over : Stmt := topS 20
theorem sc_over : FnScope ["near", "far"] ["near", "far"] (defScope s_over) := ⟨rfl, rfl, rfl, by decide +kernel, rfl, by decide +kernel, by decide +kernel⟩
abbrev s_compared : Stmt := topS 21
theorem sc_compared : FnScope ["near", "far", "left", "right"] ["near", "far"] (defScope s_compared) := ⟨rfl, rfl, rfl, by decide +kernel, rfl, by decide +kernel, by decide +kernel⟩
abbrev s_floor_of : Stmt := topS 22
theorem sc_floor_of : FnScope ["ratio"] ["ratio"] (defScope s_floor_of) := ⟨rfl, rfl, rfl, by decide +kernel, rfl, by decide +kernel, by decide +kernel⟩
abbrev s_ceiling_of : Stmt := topS 23
theorem sc_ceiling_of : FnScope ["ratio"] ["ratio"] (defScope s_ceiling_of) := ⟨rfl, rfl, rfl, by decide +kernel, rfl, by decide +kernel, by decide +kernel⟩
abbrev s_law_pot : Stmt := topS 25
theorem sc_law_pot : FnScope ["script", "k", "cell"] ["script", "k"] (defScope s_law_pot) := ⟨rfl, rfl, rfl, by decide +kernel, rfl, by decide +kernel, by decide +kernel⟩
abbrev s_law_draw : Stmt := topS 26
theorem sc_law_draw : FnScope ["pot", "size", "digit"] ["pot", "size"] (defScope s_law_draw) := ⟨rfl, rfl, rfl, by decide +kernel, rfl, by decide +kernel, by decide +kernel⟩
abbrev s_law_pick : Stmt := topS 27
theorem sc_law_pick : FnScope ["pot", "some"] ["pot", "some"] (defScope s_law_pick) := ⟨rfl, rfl, rfl, by decide +kernel, rfl, by decide +kernel, by decide +kernel⟩
abbrev s_law_common : Stmt := topS 28
theorem sc_law_common : FnScope ["one", "other"] ["one", "other"] (defScope s_law_common) := ⟨rfl, rfl, rfl, by decide +kernel, rfl, by decide +kernel, by decide +kernel⟩
abbrev s_law_ratio : Stmt := topS 29
theorem sc_law_ratio : FnScope ["number", "under", "common"] ["number", "under"] (defScope s_law_ratio) := ⟨rfl, rfl, rfl, by decide +kernel, rfl, by decide +kernel, by decide +kernel⟩
abbrev s_law_is_whole : Stmt := topS 30
theorem sc_law_is_whole : FnScope ["value"] ["value"] (defScope s_law_is_whole) := ⟨rfl, rfl, rfl, by decide +kernel, rfl, by decide +kernel, by decide +kernel⟩
abbrev s_law_is_ratio : Stmt := topS 31
theorem sc_law_is_ratio : FnScope ["value", "one"] ["value"] (defScope s_law_is_ratio) := ⟨rfl, rfl, rfl, by decide +kernel, rfl, by decide +kernel, by decide +kernel⟩
abbrev s_law_number : Stmt := topS 32
theorem sc_law_number : FnScope ["pot", "number"] ["pot"] (defScope s_law_number) := ⟨rfl, rfl, rfl, by decide +kernel, rfl, by decide +kernel, by decide +kernel⟩
abbrev s_law_drawn : Stmt := topS 33
theorem sc_law_drawn : FnScope ["pot"] ["pot"] (defScope s_law_drawn) := ⟨rfl, rfl, rfl, by decide +kernel, rfl, by decide +kernel, by decide +kernel⟩
abbrev s_law_is_worth : Stmt := topS 34
theorem sc_law_is_worth : FnScope ["told", "number", "under"] ["told", "number", "under"] (defScope s_law_is_worth) := ⟨rfl, rfl, rfl, by decide +kernel, rfl, by decide +kernel, by decide +kernel⟩
abbrev s_law_pair_right : Stmt := topS 35
theorem sc_law_pair_right : FnScope ["near", "far", "a", "b", "c", "d", "due", "told"] ["near", "far"] (defScope s_law_pair_right) := ⟨rfl, rfl, rfl, by decide +kernel, rfl, by decide +kernel, by decide +kernel⟩
abbrev s_law_one_right : Stmt := topS 36
theorem sc_law_one_right : FnScope ["near", "low", "high"] ["near"] (defScope s_law_one_right) := ⟨rfl, rfl, rfl, by decide +kernel, rfl, by decide +kernel, by decide +kernel⟩
abbrev s_law : Stmt := topS 37
theorem sc_law : FnScope ["script", "pot", "turn", "near", "far", "number", "under", "told", "great"] ["script"] (defScope s_law) := ⟨rfl, rfl, rfl, by decide +kernel, rfl, by decide +kernel, by decide +kernel⟩
section
variable {P : Program} {w : World} {K : PySem.W.Frag} {mg : Str → Option Value} {base : Heap}
theorem ow_is_integer (hm : ∃ f fd, Fun K "is_integer" "is_integer" s_is_integer f fd ∧ mg "is_integer" = some (.ref f)) (z_bool : mg "bool" = none) (z_int : mg "int" = none) (z_isinstance : mg "isinstance" = none)  (hp : Pure ["value"] 1 ph_is_integer ds_is_integer) : Own P w K mg base "is_integer" s_is_integer ["value"] 1 1 ph_is_integer := by
  obtain ⟨f, fd, F, hf⟩ := hm
  exact ⟨f, fd, F, okD F sc_is_integer rfl (fun cdv A outer s H E hr => (pds_one (pd_ret (pd_and (pd_isi .int (pd_var 0) z_isinstance z_int (by decide +kernel)) (pd_one (pd_not (pd_isi .bool (pd_var 0) z_isinstance z_bool (by decide +kernel)))))))) hp, hf⟩
theorem ow_is_tuple_of (hm : ∃ f fd, Fun K "is_tuple_of" "is_tuple_of" s_is_tuple_of f fd ∧ mg "is_tuple_of" = some (.ref f)) (z_isinstance : mg "isinstance" = none) (z_len : mg "len" = none) (z_tuple : mg "tuple" = none)  (hp : Pure ["value", "many"] 2 ph_is_tuple_of ds_is_tuple_of) : Own P w K mg base "is_tuple_of" s_is_tuple_of ["value", "many"] 1 2 ph_is_tuple_of := by
  obtain ⟨f, fd, F, hf⟩ := hm
  exact ⟨f, fd, F, okD F sc_is_tuple_of rfl (fun cdv A outer s H E hr => (pds_one (pd_ret (pd_and (pd_isi .tup (pd_var 0) z_isinstance z_tuple (by decide +kernel)) (pd_one (pd_cmp (op_eqV hr.u64) lr_eq (pd_len  (pda_cons (pd_var 0) pda_nil) z_len) (pd_var 1) (nomark _))))))) hp, hf⟩
theorem ow_is_ratio (hm : ∃ f fd, Fun K "is_ratio" "is_ratio" s_is_ratio f fd ∧ mg "is_ratio" = some (.ref f)) (z_gcd : mg "gcd" = some (.builtin "math.gcd")) (o_is_integer : Own P w K mg base "is_integer" s_is_integer ["value"] 1 1 ph_is_integer) (o_is_tuple_of : Own P w K mg base "is_tuple_of" s_is_tuple_of ["value", "many"] 1 2 ph_is_tuple_of) (hp : Pure ["value", "number", "under"] 1 ph_is_ratio ds_is_ratio) : Own P w K mg base "is_ratio" s_is_ratio ["value"] 2 1 ph_is_ratio := by
  obtain ⟨f, fd, F, hf⟩ := hm
  exact ⟨f, fd, F, okD F sc_is_ratio rfl (fun cdv A outer s H E hr => (pds_cons (pd_if (PDW.pdt (pdw_or (pdt_not (pdt_tru (pd_call o_is_tuple_of (hr.mono (by decide)) (fun _ _ _ _ _ _ us hl => match us, hl with | [_, _], _ => rfl) (pda_cons (pd_var 0) (pda_cons pd_int pda_nil))))) (pdw_or (pdt_not (pdt_tru (pd_call o_is_integer (hr.mono (by decide)) (fun _ _ _ _ _ _ us hl => match us, hl with | [_], _ => rfl) (pda_cons (pd_ix (pd_var 0) pd_int) pda_nil)))) (pdw_or1 (pdt_not (pdt_tru (pd_call o_is_integer (hr.mono (by decide)) (fun _ _ _ _ _ _ us hl => match us, hl with | [_], _ => rfl) (pda_cons (pd_ix (pd_var 0) pd_int) pda_nil)))))))) (pds_one (pd_ret pd_bl)) pds_nil)
    (pds_cons (pd_asgG (pd_var 0) (pdg_tup rfl (pdgs_cons (pdg_name (i := 1) sc_is_ratio.nd) (pdgs_cons (pdg_name (i := 2) sc_is_ratio.nd) pdgs_nil))))
    (pds_one (pd_ret (pd_and (pd_cmp op_geV lr_ord (pd_var 2) pd_int (nomark _)) (pd_one (pd_cmp (op_eqV hr.u64) lr_eq (pd_gcd (pda_cons (pd_var 1) (pda_cons (pd_var 2) pda_nil)) z_gcd) pd_int (nomark _))))))))) hp, hf⟩
theorem ow_check_integer (hm : ∃ f fd, Fun K "check_integer" "check_integer" s_check_integer f fd ∧ mg "check_integer" = some (.ref f))  (o_is_integer : Own P w K mg base "is_integer" s_is_integer ["value"] 1 1 ph_is_integer) (hp : Pure ["value"] 1 ph_check_integer ds_check_integer) : Own P w K mg base "check_integer" s_check_integer ["value"] 2 1 ph_check_integer := by
  obtain ⟨f, fd, F, hf⟩ := hm
  exact ⟨f, fd, F, okD F sc_check_integer rfl (fun cdv A outer s H E hr => (pds_one (pd_if (pdt_not (pdt_tru (pd_call o_is_integer (hr.mono (by decide)) (fun _ _ _ _ _ _ us hl => match us, hl with | [_], _ => rfl) (pda_cons (pd_var 0) pda_nil)))) (pds_one pd_never) pds_nil))) hp, hf⟩
theorem ow_check_ratio (hm : ∃ f fd, Fun K "check_ratio" "check_ratio" s_check_ratio f fd ∧ mg "check_ratio" = some (.ref f))  (o_is_ratio : Own P w K mg base "is_ratio" s_is_ratio ["value"] 2 1 ph_is_ratio) (hp : Pure ["value"] 1 ph_check_ratio ds_check_ratio) : Own P w K mg base "check_ratio" s_check_ratio ["value"] 3 1 ph_check_ratio := by
  obtain ⟨f, fd, F, hf⟩ := hm
  exact ⟨f, fd, F, okD F sc_check_ratio rfl (fun cdv A outer s H E hr => (pds_one (pd_if (pdt_not (pdt_tru (pd_call o_is_ratio (hr.mono (by decide)) (fun _ _ _ _ _ _ us hl => match us, hl with | [_], _ => rfl) (pda_cons (pd_var 0) pda_nil)))) (pds_one pd_never) pds_nil))) hp, hf⟩
theorem ow_check_ratios (hm : ∃ f fd, Fun K "check_ratios" "check_ratios" s_check_ratios f fd ∧ mg "check_ratios" = some (.ref f))  (o_check_ratio : Own P w K mg base "check_ratio" s_check_ratio ["value"] 3 1 ph_check_ratio) (hp : Pure ["near", "far"] 2 ph_check_ratios ds_check_ratios) : Own P w K mg base "check_ratios" s_check_ratios ["near", "far"] 4 2 ph_check_ratios := by
  obtain ⟨f, fd, F, hf⟩ := hm
  exact ⟨f, fd, F, okD F sc_check_ratios rfl (fun cdv A outer s H E hr => (pds_cons (pd_expr (pd_call o_check_ratio (hr.mono (by decide)) (fun _ _ _ _ _ _ us hl => match us, hl with | [_], _ => rfl) (pda_cons (pd_var 0) pda_nil)))
    (pds_one (pd_expr (pd_call o_check_ratio (hr.mono (by decide)) (fun _ _ _ _ _ _ us hl => match us, hl with | [_], _ => rfl) (pda_cons (pd_var 1) pda_nil)))))) hp, hf⟩
theorem ow_reduced (hm : ∃ f fd, Fun K "reduced" "reduced" s_reduced f fd ∧ mg "reduced" = some (.ref f)) (z_gcd : mg "gcd" = some (.builtin "math.gcd"))  (hp : Pure ["number", "under", "divisor"] 2 ph_reduced ds_reduced) : Own P w K mg base "reduced" s_reduced ["number", "under"] 1 2 ph_reduced := by
  obtain ⟨f, fd, F, hf⟩ := hm
  exact ⟨f, fd, F, okD F sc_reduced rfl (fun cdv A outer s H E hr => (pds_cons (pd_set (i := 2) sc_reduced.nd (pd_gcd (pda_cons (pd_var 0) (pda_cons (pd_var 1) pda_nil)) z_gcd))
    (pds_cons (pd_if (pdt_cmp op_ltV lr_ord (pd_var 1) pd_int (nomark _)) (pds_one (pd_set (i := 2) sc_reduced.nd (pd_neg (pd_var 2)))) pds_nil)
    (pds_one (pd_ret (pd_tup (pda_cons (pd_dv (pd_var 0) (pd_var 2)) (pda_cons (pd_dv (pd_var 1) (pd_var 2)) pda_nil)))))))) hp, hf⟩
theorem ow_made (hm : ∃ f fd, Fun K "made" "made" s_made f fd ∧ mg "made" = some (.ref f))  (o_check_integer : Own P w K mg base "check_integer" s_check_integer ["value"] 2 1 ph_check_integer) (o_reduced : Own P w K mg base "reduced" s_reduced ["number", "under"] 1 2 ph_reduced) (hp : Pure ["number", "under"] 2 ph_made ds_made) : Own P w K mg base "made" s_made ["number", "under"] 3 2 ph_made := by
  obtain ⟨f, fd, F, hf⟩ := hm
  exact ⟨f, fd, F, okD F sc_made rfl (fun cdv A outer s H E hr => (pds_cons (pd_expr (pd_call o_check_integer (hr.mono (by decide)) (fun _ _ _ _ _ _ us hl => match us, hl with | [_], _ => rfl) (pda_cons (pd_var 0) pda_nil)))
    (pds_cons (pd_expr (pd_call o_check_integer (hr.mono (by decide)) (fun _ _ _ _ _ _ us hl => match us, hl with | [_], _ => rfl) (pda_cons (pd_var 1) pda_nil)))
    (pds_cons (pd_if (pdt_cmp (op_eqV hr.u64) lr_eq (pd_var 1) pd_int (nomark _)) (pds_one pd_never) pds_nil)
    (pds_one (pd_ret (pd_call o_reduced (hr.mono (by decide)) (fun _ _ _ _ _ _ us hl => match us, hl with | [_, _], _ => rfl) (pda_cons (pd_var 0) (pda_cons (pd_var 1) pda_nil))))))))) hp, hf⟩
theorem ow_plus (hm : ∃ f fd, Fun K "plus" "plus" s_plus f fd ∧ mg "plus" = some (.ref f))  (o_check_ratios : Own P w K mg base "check_ratios" s_check_ratios ["near", "far"] 4 2 ph_check_ratios) (o_reduced : Own P w K mg base "reduced" s_reduced ["number", "under"] 1 2 ph_reduced) (hp : Pure ["near", "far"] 2 ph_plus ds_plus) : Own P w K mg base "plus" s_plus ["near", "far"] 5 2 ph_plus := by
  obtain ⟨f, fd, F, hf⟩ := hm
  exact ⟨f, fd, F, okD F sc_plus rfl (fun cdv A outer s H E hr => (pds_cons (pd_expr (pd_call o_check_ratios (hr.mono (by decide)) (fun _ _ _ _ _ _ us hl => match us, hl with | [_, _], _ => rfl) (pda_cons (pd_var 0) (pda_cons (pd_var 1) pda_nil))))
    (pds_one (pd_ret (pd_call o_reduced (hr.mono (by decide)) (fun _ _ _ _ _ _ us hl => match us, hl with | [_, _], _ => rfl) (pda_cons (pd_add (pd_mul (pd_ix (pd_var 0) pd_int) (pd_ix (pd_var 1) pd_int)) (pd_mul (pd_ix (pd_var 1) pd_int) (pd_ix (pd_var 0) pd_int))) (pda_cons (pd_mul (pd_ix (pd_var 0) pd_int) (pd_ix (pd_var 1) pd_int)) pda_nil))))))) hp, hf⟩
theorem ow_minus (hm : ∃ f fd, Fun K "minus" "minus" s_minus f fd ∧ mg "minus" = some (.ref f))  (o_check_ratios : Own P w K mg base "check_ratios" s_check_ratios ["near", "far"] 4 2 ph_check_ratios) (o_reduced : Own P w K mg base "reduced" s_reduced ["number", "under"] 1 2 ph_reduced) (hp : Pure ["near", "far"] 2 ph_minus ds_minus) : Own P w K mg base "minus" s_minus ["near", "far"] 5 2 ph_minus := by
  obtain ⟨f, fd, F, hf⟩ := hm
  exact ⟨f, fd, F, okD F sc_minus rfl (fun cdv A outer s H E hr => (pds_cons (pd_expr (pd_call o_check_ratios (hr.mono (by decide)) (fun _ _ _ _ _ _ us hl => match us, hl with | [_, _], _ => rfl) (pda_cons (pd_var 0) (pda_cons (pd_var 1) pda_nil))))
    (pds_one (pd_ret (pd_call o_reduced (hr.mono (by decide)) (fun _ _ _ _ _ _ us hl => match us, hl with | [_, _], _ => rfl) (pda_cons (pd_sub (pd_mul (pd_ix (pd_var 0) pd_int) (pd_ix (pd_var 1) pd_int)) (pd_mul (pd_ix (pd_var 1) pd_int) (pd_ix (pd_var 0) pd_int))) (pda_cons (pd_mul (pd_ix (pd_var 0) pd_int) (pd_ix (pd_var 1) pd_int)) pda_nil))))))) hp, hf⟩
theorem ow_times (hm : ∃ f fd, Fun K "times" "times" s_times f fd ∧ mg "times" = some (.ref f))  (o_check_ratios : Own P w K mg base "check_ratios" s_check_ratios ["near", "far"] 4 2 ph_check_ratios) (o_reduced : Own P w K mg base "reduced" s_reduced ["number", "under"] 1 2 ph_reduced) (hp : Pure ["near", "far"] 2 ph_times ds_times) : Own P w K mg base "times" s_times ["near", "far"] 5 2 ph_times := by
  obtain ⟨f, fd, F, hf⟩ := hm
  exact ⟨f, fd, F, okD F sc_times rfl (fun cdv A outer s H E hr => (pds_cons (pd_expr (pd_call o_check_ratios (hr.mono (by decide)) (fun _ _ _ _ _ _ us hl => match us, hl with | [_, _], _ => rfl) (pda_cons (pd_var 0) (pda_cons (pd_var 1) pda_nil))))
    (pds_one (pd_ret (pd_call o_reduced (hr.mono (by decide)) (fun _ _ _ _ _ _ us hl => match us, hl with | [_, _], _ => rfl) (pda_cons (pd_mul (pd_ix (pd_var 0) pd_int) (pd_ix (pd_var 1) pd_int)) (pda_cons (pd_mul (pd_ix (pd_var 0) pd_int) (pd_ix (pd_var 1) pd_int)) pda_nil))))))) hp, hf⟩
theorem ow_over (hm : ∃ f fd, Fun K "over" "over" s_over f fd ∧ mg "over" = some (.ref f))  (o_check_ratios : Own P w K mg base "check_ratios" s_check_ratios ["near", "far"] 4 2 ph_check_ratios) (o_reduced : Own P w K mg base "reduced" s_reduced ["number", "under"] 1 2 ph_reduced) (hp : Pure ["near", "far"] 2 ph_over ds_over) : Own P w K mg base "over" s_over ["near", "far"] 5 2 ph_over := by
  obtain ⟨f, fd, F, hf⟩ := hm
  exact ⟨f, fd, F, okD F sc_over rfl (fun cdv A outer s H E hr => (pds_cons (pd_expr (pd_call o_check_ratios (hr.mono (by decide)) (fun _ _ _ _ _ _ us hl => match us, hl with | [_, _], _ => rfl) (pda_cons (pd_var 0) (pda_cons (pd_var 1) pda_nil))))
    (pds_cons (pd_if (pdt_cmp (op_eqV hr.u64) lr_eq (pd_ix (pd_var 1) pd_int) pd_int (nomark _)) (pds_one pd_never) pds_nil)
    (pds_one (pd_ret (pd_call o_reduced (hr.mono (by decide)) (fun _ _ _ _ _ _ us hl => match us, hl with | [_, _], _ => rfl) (pda_cons (pd_mul (pd_ix (pd_var 0) pd_int) (pd_ix (pd_var 1) pd_int)) (pda_cons (pd_mul (pd_ix (pd_var 0) pd_int) (pd_ix (pd_var 1) pd_int)) pda_nil)))))))) hp, hf⟩
theorem ow_compared (hm : ∃ f fd, Fun K "compared" "compared" s_compared f fd ∧ mg "compared" = some (.ref f))  (o_check_ratios : Own P w K mg base "check_ratios" s_check_ratios ["near", "far"] 4 2 ph_check_ratios) (hp : Pure ["near", "far", "left", "right"] 2 ph_compared ds_compared) : Own P w K mg base "compared" s_compared ["near", "far"] 5 2 ph_compared := by
  obtain ⟨f, fd, F, hf⟩ := hm
  exact ⟨f, fd, F, okD F sc_compared rfl (fun cdv A outer s H E hr => (pds_cons (pd_expr (pd_call o_check_ratios (hr.mono (by decide)) (fun _ _ _ _ _ _ us hl => match us, hl with | [_, _], _ => rfl) (pda_cons (pd_var 0) (pda_cons (pd_var 1) pda_nil))))
    (pds_cons (pd_par (i := 2) (j := 3) rfl sc_compared.nd (pda_cons (pd_mul (pd_ix (pd_var 0) pd_int) (pd_ix (pd_var 1) pd_int)) (pda_cons (pd_mul (pd_ix (pd_var 1) pd_int) (pd_ix (pd_var 0) pd_int)) pda_nil)))
    (pds_cons (pd_if (pdt_cmp (op_eqV hr.u64) lr_eq (pd_var 2) (pd_var 3) (nomark _)) (pds_one (pd_ret pd_int)) pds_nil)
    (pds_one (pd_ret (pd_ifExp (pdt_cmp op_ltV lr_ord (pd_var 2) (pd_var 3) (nomark _)) (pd_neg pd_int) pd_int))))))) hp, hf⟩
theorem ow_floor_of (hm : ∃ f fd, Fun K "floor_of" "floor_of" s_floor_of f fd ∧ mg "floor_of" = some (.ref f))  (o_check_ratio : Own P w K mg base "check_ratio" s_check_ratio ["value"] 3 1 ph_check_ratio) (hp : Pure ["ratio"] 1 ph_floor_of ds_floor_of) : Own P w K mg base "floor_of" s_floor_of ["ratio"] 4 1 ph_floor_of := by
  obtain ⟨f, fd, F, hf⟩ := hm
  exact ⟨f, fd, F, okD F sc_floor_of rfl (fun cdv A outer s H E hr => (pds_cons (pd_expr (pd_call o_check_ratio (hr.mono (by decide)) (fun _ _ _ _ _ _ us hl => match us, hl with | [_], _ => rfl) (pda_cons (pd_var 0) pda_nil)))
    (pds_one (pd_ret (pd_dv (pd_ix (pd_var 0) pd_int) (pd_ix (pd_var 0) pd_int)))))) hp, hf⟩
theorem ow_ceiling_of (hm : ∃ f fd, Fun K "ceiling_of" "ceiling_of" s_ceiling_of f fd ∧ mg "ceiling_of" = some (.ref f))  (o_check_ratio : Own P w K mg base "check_ratio" s_check_ratio ["value"] 3 1 ph_check_ratio) (hp : Pure ["ratio"] 1 ph_ceiling_of ds_ceiling_of) : Own P w K mg base "ceiling_of" s_ceiling_of ["ratio"] 4 1 ph_ceiling_of := by
  obtain ⟨f, fd, F, hf⟩ := hm
  exact ⟨f, fd, F, okD F sc_ceiling_of rfl (fun cdv A outer s H E hr => (pds_cons (pd_expr (pd_call o_check_ratio (hr.mono (by decide)) (fun _ _ _ _ _ _ us hl => match us, hl with | [_], _ => rfl) (pda_cons (pd_var 0) pda_nil)))
    (pds_one (pd_ret (pd_neg (pd_dv (pd_neg (pd_ix (pd_var 0) pd_int)) (pd_ix (pd_var 0) pd_int))))))) hp, hf⟩
theorem ow_law_pot (hm : ∃ f fd, Fun K "_law_pot" "_law_pot" s_law_pot f fd ∧ mg "_law_pot" = some (.ref f)) (z_abs : mg "abs" = none) (z_int : mg "int" = none) (z_len : mg "len" = none) (z_max : mg "max" = none)  (hp : Pure ["script", "k", "cell"] 2 ph_law_pot ds_law_pot) : Own P w K mg base "_law_pot" s_law_pot ["script", "k"] 1 2 ph_law_pot := by
  obtain ⟨f, fd, F, hf⟩ := hm
  exact ⟨f, fd, F, okD F sc_law_pot rfl (fun cdv A outer s H E hr => (pds_cons (pd_set (i := 2) sc_law_pot.nd (pd_ifExp (pdt_cmp op_ltV lr_ord (pd_var 1) (pd_len  (pda_cons (pd_var 0) pda_nil) z_len) (nomark _)) (pd_abs  (pda_cons (pd_ix (pd_var 0) (pd_var 1)) pda_nil) z_abs) (pd_add (pd_mul pd_int (pd_var 1)) pd_int)))
    (pds_one (pd_ret (pd_lstC (pda_cons (pd_max2 rfl (pda_cons pd_int (pda_cons (pd_sub (pd_var 2) (pd_pw pd_int pd_int)) pda_nil)) z_max) (pda_cons (pd_add (pd_md (pd_intc  (pda_cons (pd_add (pd_add (pd_mul (pd_md (pd_intc  (pda_cons (pd_var 2) pda_nil) z_int) pd_int) pd_int) (pd_mul pd_int (pd_var 1))) pd_int) pda_nil) z_int) pd_int) pd_int) pda_nil))))))) hp, hf⟩
theorem ow_law_draw (hm : ∃ f fd, Fun K "_law_draw" "_law_draw" s_law_draw f fd ∧ mg "_law_draw" = some (.ref f)) (z_divmod : mg "divmod" = none) (z_int : mg "int" = none)  (hp : Pure ["pot", "size", "digit"] 2 ph_law_draw ds_law_draw) : Own P w K mg base "_law_draw" s_law_draw ["pot", "size"] 1 2 ph_law_draw := by
  obtain ⟨f, fd, F, hf⟩ := hm
  exact ⟨f, fd, F, okD F sc_law_draw rfl (fun cdv A outer s H E hr => (pds_cons (pd_if (pdt_cmp op_gtV lr_ord (pd_ix (pd_var 0) pd_int) pd_int (nomark _)) (pds_cons (pd_asgG (pd_dm  (pda_cons (pd_ix (pd_var 0) pd_int) (pda_cons (pd_var 1) pda_nil)) z_divmod) (pdg_tup rfl (pdgs_cons (pdg_sub (pd_var 0) pd_int) (pdgs_cons (pdg_name (i := 2) sc_law_draw.nd) pdgs_nil))))
    (pds_one (pd_ret (pd_var 2)))) pds_nil)
    (pds_cons (pd_asgG (pd_md (pd_intc  (pda_cons (pd_add (pd_mul (pd_ix (pd_var 0) pd_int) pd_int) pd_int) pda_nil) z_int) pd_int) (pdg_sub (pd_var 0) pd_int))
    (pds_one (pd_ret (pd_md (pd_intc  (pda_cons (pd_dv (pd_md (pd_intc  (pda_cons (pd_mul (pd_ix (pd_var 0) pd_int) (pd_ix (pd_var 0) pd_int)) pda_nil) z_int) pd_int) pd_int) pda_nil) z_int) (pd_var 1))))))) hp, hf⟩
theorem ow_law_pick (hm : ∃ f fd, Fun K "_law_pick" "_law_pick" s_law_pick f fd ∧ mg "_law_pick" = some (.ref f)) (z_len : mg "len" = none) (o_law_draw : Own P w K mg base "_law_draw" s_law_draw ["pot", "size"] 1 2 ph_law_draw) (hp : Pure ["pot", "some"] 2 ph_law_pick ds_law_pick) : Own P w K mg base "_law_pick" s_law_pick ["pot", "some"] 2 2 ph_law_pick := by
  obtain ⟨f, fd, F, hf⟩ := hm
  exact ⟨f, fd, F, okD F sc_law_pick rfl (fun cdv A outer s H E hr => (pds_one (pd_ret (pd_ix (pd_var 1) (pd_call o_law_draw (hr.mono (by decide)) (fun _ _ _ _ _ _ us hl => match us, hl with | [_, _], _ => rfl) (pda_cons (pd_var 0) (pda_cons (pd_len  (pda_cons (pd_var 1) pda_nil) z_len) pda_nil))))))) hp, hf⟩
theorem ow_law_common (hm : ∃ f fd, Fun K "_law_common" "_law_common" s_law_common f fd ∧ mg "_law_common" = some (.ref f)) (z_abs : mg "abs" = none)  (hp : Pure ["one", "other"] 2 ph_law_common ds_law_common) : Own P w K mg base "_law_common" s_law_common ["one", "other"] 1 2 ph_law_common := by
  obtain ⟨f, fd, F, hf⟩ := hm
  exact ⟨f, fd, F, okD F sc_law_common rfl (fun cdv A outer s H E hr => (pds_cons (pd_while PassesOwn.never (pdt_cmp (op_neV hr.u64) lr_ne (pd_var 1) pd_int (nomark _)) (pds_one (pd_par (i := 0) (j := 1) rfl sc_law_common.nd (pda_cons (pd_var 1) (pda_cons (pd_sub (pd_var 0) (pd_mul (pd_dv (pd_var 0) (pd_var 1)) (pd_var 1))) pda_nil)))))
    (pds_one (pd_ret (pd_abs  (pda_cons (pd_var 0) pda_nil) z_abs))))) hp, hf⟩
theorem ow_law_ratio (hm : ∃ f fd, Fun K "_law_ratio" "_law_ratio" s_law_ratio f fd ∧ mg "_law_ratio" = some (.ref f))  (o_law_common : Own P w K mg base "_law_common" s_law_common ["one", "other"] 1 2 ph_law_common) (hp : Pure ["number", "under", "common"] 2 ph_law_ratio ds_law_ratio) : Own P w K mg base "_law_ratio" s_law_ratio ["number", "under"] 2 2 ph_law_ratio := by
  obtain ⟨f, fd, F, hf⟩ := hm
  exact ⟨f, fd, F, okD F sc_law_ratio rfl (fun cdv A outer s H E hr => (pds_cons (pd_set (i := 2) sc_law_ratio.nd (pd_call o_law_common (hr.mono (by decide)) (fun _ _ _ _ _ _ us hl => match us, hl with | [_, _], _ => rfl) (pda_cons (pd_var 0) (pda_cons (pd_var 1) pda_nil))))
    (pds_cons (pd_if (pdt_cmp op_ltV lr_ord (pd_var 1) pd_int (nomark _)) (pds_one (pd_set (i := 2) sc_law_ratio.nd (pd_neg (pd_var 2)))) pds_nil)
    (pds_one (pd_ret (pd_tup (pda_cons (pd_dv (pd_var 0) (pd_var 2)) (pda_cons (pd_dv (pd_var 1) (pd_var 2)) pda_nil)))))))) hp, hf⟩
theorem ow_law_is_whole (hm : ∃ f fd, Fun K "_law_is_whole" "_law_is_whole" s_law_is_whole f fd ∧ mg "_law_is_whole" = some (.ref f)) (z_bool : mg "bool" = none) (z_int : mg "int" = none) (z_isinstance : mg "isinstance" = none)  (hp : Pure ["value"] 1 ph_law_is_whole ds_law_is_whole) : Own P w K mg base "_law_is_whole" s_law_is_whole ["value"] 1 1 ph_law_is_whole := by
  obtain ⟨f, fd, F, hf⟩ := hm
  exact ⟨f, fd, F, okD F sc_law_is_whole rfl (fun cdv A outer s H E hr => (pds_one (pd_ret (pd_and (pd_isi .int (pd_var 0) z_isinstance z_int (by decide +kernel)) (pd_one (pd_not (pd_isi .bool (pd_var 0) z_isinstance z_bool (by decide +kernel)))))))) hp, hf⟩
theorem ow_law_is_ratio (hm : ∃ f fd, Fun K "_law_is_ratio" "_law_is_ratio" s_law_is_ratio f fd ∧ mg "_law_is_ratio" = some (.ref f)) (z_all : mg "all" = none) (z_isinstance : mg "isinstance" = none) (z_len : mg "len" = none) (z_tuple : mg "tuple" = none) (o_law_common : Own P w K mg base "_law_common" s_law_common ["one", "other"] 1 2 ph_law_common) (o_law_is_whole : Own P w K mg base "_law_is_whole" s_law_is_whole ["value"] 1 1 ph_law_is_whole) (hp : Pure ["value", "one"] 1 ph_law_is_ratio ds_law_is_ratio) : Own P w K mg base "_law_is_ratio" s_law_is_ratio ["value"] 2 1 ph_law_is_ratio := by
  obtain ⟨f, fd, F, hf⟩ := hm
  exact ⟨f, fd, F, okD F sc_law_is_ratio rfl (fun cdv A outer s H E hr => (pds_cons (pd_if (PDW.pdt (pdw_or (pdt_not (pdt_tru (pd_isi .tup (pd_var 0) z_isinstance z_tuple (by decide +kernel)))) (pdw_or (pdt_cmp (op_neV hr.u64) lr_ne (pd_len  (pda_cons (pd_var 0) pda_nil) z_len) pd_int (nomark _)) (pdw_or1 (pdt_not (pdt_tru (pd_all rfl (pda_cons (pd_lcQ fin_frz [("one", 1)] rfl sc_law_is_ratio.nd (pdi_seq (pd_var 0)) (blkOk_by (N := ["value", "one"]) (by show blkC _ (defScope s_law_is_ratio) _ _ = true; decide +kernel)) (ctg_name 1 (by decide) (fun _ _ _ _ _ => pg_name (i := 1) sc_law_is_ratio.nd rfl (Or.inl rfl))) ctst_nil (fun _ _ _ _ _ => (pd_call o_law_is_whole (hr.mono (by decide)) (fun _ _ _ _ _ _ us hl => match us, hl with | [_], _ => rfl) (pda_cons (pd_var 1) pda_nil)))) pda_nil) z_all))))))) (pds_one (pd_ret pd_bl)) pds_nil)
    (pds_one (pd_ret (pd_and (pd_cmp op_gtV lr_ord (pd_ix (pd_var 0) pd_int) pd_int (nomark _)) (pd_one (pd_cmp (op_eqV hr.u64) lr_eq (pd_call o_law_common (hr.mono (by decide)) (fun _ _ _ _ _ _ us hl => match us, hl with | [_, _], _ => rfl) (pda_cons (pd_ix (pd_var 0) pd_int) (pda_cons (pd_ix (pd_var 0) pd_int) pda_nil))) pd_int (nomark _)))))))) hp, hf⟩
theorem ow_law_number (hm : ∃ f fd, Fun K "_law_number" "_law_number" s_law_number f fd ∧ mg "_law_number" = some (.ref f))  (o_law_draw : Own P w K mg base "_law_draw" s_law_draw ["pot", "size"] 1 2 ph_law_draw) (o_law_pick : Own P w K mg base "_law_pick" s_law_pick ["pot", "some"] 2 2 ph_law_pick) (hp : Pure ["pot", "number"] 1 ph_law_number ds_law_number) : Own P w K mg base "_law_number" s_law_number ["pot"] 3 1 ph_law_number := by
  obtain ⟨f, fd, F, hf⟩ := hm
  exact ⟨f, fd, F, okD F sc_law_number rfl (fun cdv A outer s H E hr => (pds_cons (pd_set (i := 1) sc_law_number.nd (pd_sub (pd_call o_law_draw (hr.mono (by decide)) (fun _ _ _ _ _ _ us hl => match us, hl with | [_, _], _ => rfl) (pda_cons (pd_var 0) (pda_cons pd_int pda_nil))) pd_int))
    (pds_one (pd_ret (pd_mul (pd_var 1) (pd_call o_law_pick (hr.mono (by decide)) (fun _ _ _ _ _ _ us hl => match us, hl with | [_, _], _ => rfl) (pda_cons (pd_var 0) (pda_cons (pd_lst (pda_cons pd_int (pda_cons pd_int (pda_cons pd_int (pda_cons pd_int (pda_cons (pd_add (pd_pw pd_int pd_int) pd_int) (pda_cons (pd_pw pd_int pd_int) pda_nil))))))) pda_nil)))))))) hp, hf⟩
theorem ow_law_drawn (hm : ∃ f fd, Fun K "_law_drawn" "_law_drawn" s_law_drawn f fd ∧ mg "_law_drawn" = some (.ref f))  (o_law_draw : Own P w K mg base "_law_draw" s_law_draw ["pot", "size"] 1 2 ph_law_draw) (o_law_pick : Own P w K mg base "_law_pick" s_law_pick ["pot", "some"] 2 2 ph_law_pick) (o_law_ratio : Own P w K mg base "_law_ratio" s_law_ratio ["number", "under"] 2 2 ph_law_ratio) (o_law_number : Own P w K mg base "_law_number" s_law_number ["pot"] 3 1 ph_law_number) (hp : Pure ["pot"] 1 ph_law_drawn ds_law_drawn) : Own P w K mg base "_law_drawn" s_law_drawn ["pot"] 4 1 ph_law_drawn := by
  obtain ⟨f, fd, F, hf⟩ := hm
  exact ⟨f, fd, F, okD F sc_law_drawn rfl (fun cdv A outer s H E hr => (pds_one (pd_ret (pd_call o_law_ratio (hr.mono (by decide)) (fun _ _ _ _ _ _ us hl => match us, hl with | [_, _], _ => rfl) (pda_cons (pd_call o_law_number (hr.mono (by decide)) (fun _ _ _ _ _ _ us hl => match us, hl with | [_], _ => rfl) (pda_cons (pd_var 0) pda_nil)) (pda_cons (pd_add pd_int (pd_mul (pd_call o_law_draw (hr.mono (by decide)) (fun _ _ _ _ _ _ us hl => match us, hl with | [_, _], _ => rfl) (pda_cons (pd_var 0) (pda_cons pd_int pda_nil))) (pd_call o_law_pick (hr.mono (by decide)) (fun _ _ _ _ _ _ us hl => match us, hl with | [_, _], _ => rfl) (pda_cons (pd_var 0) (pda_cons (pd_lst (pda_cons pd_int (pda_cons pd_int (pda_cons (pd_pw pd_int pd_int) pda_nil)))) pda_nil))))) pda_nil)))))) hp, hf⟩
theorem ow_law_is_worth (hm : ∃ f fd, Fun K "_law_is_worth" "_law_is_worth" s_law_is_worth f fd ∧ mg "_law_is_worth" = some (.ref f))  (o_law_is_ratio : Own P w K mg base "_law_is_ratio" s_law_is_ratio ["value"] 2 1 ph_law_is_ratio) (hp : Pure ["told", "number", "under"] 3 ph_law_is_worth ds_law_is_worth) : Own P w K mg base "_law_is_worth" s_law_is_worth ["told", "number", "under"] 3 3 ph_law_is_worth := by
  obtain ⟨f, fd, F, hf⟩ := hm
  exact ⟨f, fd, F, okD F sc_law_is_worth rfl (fun cdv A outer s H E hr => (pds_one (pd_ret (pd_and (pd_call o_law_is_ratio (hr.mono (by decide)) (fun _ _ _ _ _ _ us hl => match us, hl with | [_], _ => rfl) (pda_cons (pd_var 0) pda_nil)) (pd_one (pd_cmp (op_eqV hr.u64) lr_eq (pd_mul (pd_ix (pd_var 0) pd_int) (pd_var 2)) (pd_mul (pd_var 1) (pd_ix (pd_var 0) pd_int)) (nomark _))))))) hp, hf⟩
theorem ow_law_pair_right (hm : ∃ f fd, Fun K "_law_pair_right" "_law_pair_right" s_law_pair_right f fd ∧ mg "_law_pair_right" = some (.ref f)) (z_int : mg "int" = none) (z_repr : mg "repr" = none) (o_plus : Own P w K mg base "plus" s_plus ["near", "far"] 5 2 ph_plus) (o_minus : Own P w K mg base "minus" s_minus ["near", "far"] 5 2 ph_minus) (o_times : Own P w K mg base "times" s_times ["near", "far"] 5 2 ph_times) (o_over : Own P w K mg base "over" s_over ["near", "far"] 5 2 ph_over) (o_compared : Own P w K mg base "compared" s_compared ["near", "far"] 5 2 ph_compared) (o_law_is_worth : Own P w K mg base "_law_is_worth" s_law_is_worth ["told", "number", "under"] 3 3 ph_law_is_worth) (hp : Pure ["near", "far", "a", "b", "c", "d", "due", "told"] 2 ph_law_pair_right ds_law_pair_right) : Own P w K mg base "_law_pair_right" s_law_pair_right ["near", "far"] 6 2 ph_law_pair_right := by
  obtain ⟨f, fd, F, hf⟩ := hm
  exact ⟨f, fd, F, okD F sc_law_pair_right rfl (fun cdv A outer s H E hr => (pds_cons (pd_asgG (pd_tup (pda_cons (pd_var 0) (pda_cons (pd_var 1) pda_nil))) (pdg_tup rfl (pdgs_cons (pdg_tup rfl (pdgs_cons (pdg_name (i := 2) sc_law_pair_right.nd) (pdgs_cons (pdg_name (i := 3) sc_law_pair_right.nd) pdgs_nil))) (pdgs_cons (pdg_tup rfl (pdgs_cons (pdg_name (i := 4) sc_law_pair_right.nd) (pdgs_cons (pdg_name (i := 5) sc_law_pair_right.nd) pdgs_nil))) pdgs_nil))))
    (pds_cons (pd_if (PDW.pdt (pdw_or (pdt_not (pdt_tru (pd_call o_law_is_worth (hr.mono (by decide)) (fun _ _ _ _ _ _ us hl => match us, hl with | [_, _, _], _ => rfl) (pda_cons (pd_call o_plus (hr.mono (by decide)) (fun _ _ _ _ _ _ us hl => match us, hl with | [_, _], _ => rfl) (pda_cons (pd_var 0) (pda_cons (pd_var 1) pda_nil))) (pda_cons (pd_add (pd_mul (pd_var 2) (pd_var 5)) (pd_mul (pd_var 4) (pd_var 3))) (pda_cons (pd_mul (pd_var 3) (pd_var 5)) pda_nil)))))) (pdw_or1 (pdt_not (pdt_tru (pd_call o_law_is_worth (hr.mono (by decide)) (fun _ _ _ _ _ _ us hl => match us, hl with | [_, _, _], _ => rfl) (pda_cons (pd_call o_minus (hr.mono (by decide)) (fun _ _ _ _ _ _ us hl => match us, hl with | [_, _], _ => rfl) (pda_cons (pd_var 0) (pda_cons (pd_var 1) pda_nil))) (pda_cons (pd_sub (pd_mul (pd_var 2) (pd_var 5)) (pd_mul (pd_var 4) (pd_var 3))) (pda_cons (pd_mul (pd_var 3) (pd_var 5)) pda_nil))))))))) (pds_one (pd_ret pd_bl)) pds_nil)
    (pds_cons (pd_if (PDW.pdt (pdw_or (pdt_not (pdt_tru (pd_call o_law_is_worth (hr.mono (by decide)) (fun _ _ _ _ _ _ us hl => match us, hl with | [_, _, _], _ => rfl) (pda_cons (pd_callK0 (ks := ["far", "near"]) [1, 0] o_times (hr.mono (by decide)) (by decide) (fun _ _ _ _ _ _ us ws h1 h2 => match us, ws, h1, h2 with | [], [_, _], _, _ => rfl) (pdk_cons (pd_var 1) (pdk_cons (pd_var 0) pdk_nil))) (pda_cons (pd_mul (pd_var 2) (pd_var 4)) (pda_cons (pd_mul (pd_var 3) (pd_var 5)) pda_nil)))))) (pdw_or1 (pdt_cmp (op_neV hr.u64) lr_ne (pd_callK0 (ks := ["far", "near"]) [1, 0] o_plus (hr.mono (by decide)) (by decide) (fun _ _ _ _ _ _ us ws h1 h2 => match us, ws, h1, h2 with | [], [_, _], _, _ => rfl) (pdk_cons (pd_var 0) (pdk_cons (pd_var 1) pdk_nil))) (pd_call o_plus (hr.mono (by decide)) (fun _ _ _ _ _ _ us hl => match us, hl with | [_, _], _ => rfl) (pda_cons (pd_var 0) (pda_cons (pd_var 1) pda_nil))) (nomark _))))) (pds_one (pd_ret pd_bl)) pds_nil)
    (pds_cons (pd_if (PDW.pdt (pdw_or (pdt_cmp (op_neV hr.u64) lr_ne (pd_call o_minus (hr.mono (by decide)) (fun _ _ _ _ _ _ us hl => match us, hl with | [_, _], _ => rfl) (pda_cons (pd_call o_plus (hr.mono (by decide)) (fun _ _ _ _ _ _ us hl => match us, hl with | [_, _], _ => rfl) (pda_cons (pd_var 0) (pda_cons (pd_var 1) pda_nil))) (pda_cons (pd_var 1) pda_nil))) (pd_var 0) (nomark _)) (pdw_or1 (pdt_cmp (op_neV hr.u64) lr_ne (pd_callK0 (ks := ["near", "far"]) [0, 1] o_minus (hr.mono (by decide)) (by decide) (fun _ _ _ _ _ _ us ws h1 h2 => match us, ws, h1, h2 with | [], [_, _], _, _ => rfl) (pdk_cons (pd_var 0) (pdk_cons (pd_var 0) pdk_nil))) (pd_tup (pda_cons pd_int (pda_cons pd_int pda_nil))) (nomark _))))) (pds_one (pd_ret pd_bl)) pds_nil)
    (pds_cons (pd_set (i := 6) sc_law_pair_right.nd (pd_sub (pd_intc  (pda_cons (pd_cmp op_gtV lr_ord (pd_mul (pd_var 2) (pd_var 5)) (pd_mul (pd_var 4) (pd_var 3)) (nomark _)) pda_nil) z_int) (pd_intc  (pda_cons (pd_cmp op_ltV lr_ord (pd_mul (pd_var 2) (pd_var 5)) (pd_mul (pd_var 4) (pd_var 3)) (nomark _)) pda_nil) z_int)))
    (pds_cons (pd_set (i := 7) sc_law_pair_right.nd (pd_lst (pda_cons (pd_call o_compared (hr.mono (by decide)) (fun _ _ _ _ _ _ us hl => match us, hl with | [_, _], _ => rfl) (pda_cons (pd_var 0) (pda_cons (pd_var 1) pda_nil))) (pda_cons (pd_callK0 (ks := ["near", "far"]) [0, 1] o_compared (hr.mono (by decide)) (by decide) (fun _ _ _ _ _ _ us ws h1 h2 => match us, ws, h1, h2 with | [], [_, _], _, _ => rfl) (pdk_cons (pd_var 1) (pdk_cons (pd_var 0) pdk_nil))) (pda_cons (pd_call o_compared (hr.mono (by decide)) (fun _ _ _ _ _ _ us hl => match us, hl with | [_, _], _ => rfl) (pda_cons (pd_var 0) (pda_cons (pd_var 0) pda_nil))) pda_nil)))))
    (pds_cons (pd_if (pdt_cmp (op_neV hr.u64) lr_ne (pd_repr hr (pda_cons (pd_var 7) pda_nil) z_repr) (pd_repr hr (pda_cons (pd_lst (pda_cons (pd_var 6) (pda_cons (pd_neg (pd_var 6)) (pda_cons pd_int pda_nil)))) pda_nil) z_repr) (nomark _)) (pds_one (pd_ret pd_bl)) pds_nil)
    (pds_cons (pd_if (pdt_cmp (op_eqV hr.u64) lr_eq (pd_var 4) pd_int (nomark _)) (pds_one (pd_ret pd_bl)) pds_nil)
    (pds_cons (pd_set (i := 7) sc_law_pair_right.nd (pd_call o_over (hr.mono (by decide)) (fun _ _ _ _ _ _ us hl => match us, hl with | [_, _], _ => rfl) (pda_cons (pd_var 0) (pda_cons (pd_var 1) pda_nil))))
    (pds_one (pd_ret (pd_and (pd_call o_law_is_worth (hr.mono (by decide)) (fun _ _ _ _ _ _ us hl => match us, hl with | [_, _, _], _ => rfl) (pda_cons (pd_var 7) (pda_cons (pd_mul (pd_var 2) (pd_var 5)) (pda_cons (pd_mul (pd_var 3) (pd_var 4)) pda_nil)))) (pd_and (pd_cmp (op_eqV hr.u64) lr_eq (pd_call o_times (hr.mono (by decide)) (fun _ _ _ _ _ _ us hl => match us, hl with | [_, _], _ => rfl) (pda_cons (pd_var 7) (pda_cons (pd_var 1) pda_nil))) (pd_var 0) (nomark _)) (pd_one (pd_cmp (op_eqV hr.u64) lr_eq (pd_callK0 (ks := ["far", "near"]) [1, 0] o_over (hr.mono (by decide)) (by decide) (fun _ _ _ _ _ _ us ws h1 h2 => match us, ws, h1, h2 with | [], [_, _], _, _ => rfl) (pdk_cons (pd_var 1) (pdk_cons (pd_var 1) pdk_nil))) (pd_tup (pda_cons pd_int (pda_cons pd_int pda_nil))) (nomark _))))))))))))))))) hp, hf⟩
theorem ow_law_one_right (hm : ∃ f fd, Fun K "_law_one_right" "_law_one_right" s_law_one_right f fd ∧ mg "_law_one_right" = some (.ref f))  (o_floor_of : Own P w K mg base "floor_of" s_floor_of ["ratio"] 4 1 ph_floor_of) (o_ceiling_of : Own P w K mg base "ceiling_of" s_ceiling_of ["ratio"] 4 1 ph_ceiling_of) (o_law_is_whole : Own P w K mg base "_law_is_whole" s_law_is_whole ["value"] 1 1 ph_law_is_whole) (hp : Pure ["near", "low", "high"] 1 ph_law_one_right ds_law_one_right) : Own P w K mg base "_law_one_right" s_law_one_right ["near"] 5 1 ph_law_one_right := by
  obtain ⟨f, fd, F, hf⟩ := hm
  exact ⟨f, fd, F, okD F sc_law_one_right rfl (fun cdv A outer s H E hr => (pds_cons (pd_par (i := 1) (j := 2) rfl sc_law_one_right.nd (pda_cons (pd_call o_floor_of (hr.mono (by decide)) (fun _ _ _ _ _ _ us hl => match us, hl with | [_], _ => rfl) (pda_cons (pd_var 0) pda_nil)) (pda_cons (pd_callK0 (ks := ["ratio"]) [0] o_ceiling_of (hr.mono (by decide)) (by decide) (fun _ _ _ _ _ _ us ws h1 h2 => match us, ws, h1, h2 with | [], [_], _, _ => rfl) (pdk_cons (pd_var 0) pdk_nil)) pda_nil)))
    (pds_cons (pd_if (PDW.pdt (pdw_or (pdt_not (pdt_tru (pd_call o_law_is_whole (hr.mono (by decide)) (fun _ _ _ _ _ _ us hl => match us, hl with | [_], _ => rfl) (pda_cons (pd_var 1) pda_nil)))) (pdw_or1 (pdt_not (pdt_tru (pd_call o_law_is_whole (hr.mono (by decide)) (fun _ _ _ _ _ _ us hl => match us, hl with | [_], _ => rfl) (pda_cons (pd_var 2) pda_nil))))))) (pds_one (pd_ret pd_bl)) pds_nil)
    (pds_cons (pd_if (PDW.pdt (pdw_or (pdt_not (pdt_chain op_leV op_ltV lr_ord lr_ord (pd_mul (pd_var 1) (pd_ix (pd_var 0) pd_int)) (pd_ix (pd_var 0) pd_int) (pd_mul (pd_add (pd_var 1) pd_int) (pd_ix (pd_var 0) pd_int)))) (pdw_or1 (pdt_not (pdt_chain op_ltV op_leV lr_ord lr_ord (pd_mul (pd_sub (pd_var 2) pd_int) (pd_ix (pd_var 0) pd_int)) (pd_ix (pd_var 0) pd_int) (pd_mul (pd_var 2) (pd_ix (pd_var 0) pd_int))))))) (pds_one (pd_ret pd_bl)) pds_nil)
    (pds_one (pd_ret (pd_and (pd_cmp (op_eqV hr.u64) lr_eq (pd_callK0 (ks := ["ratio"]) [0] o_floor_of (hr.mono (by decide)) (by decide) (fun _ _ _ _ _ _ us ws h1 h2 => match us, ws, h1, h2 with | [], [_], _, _ => rfl) (pdk_cons (pd_var 0) pdk_nil)) (pd_var 1) (nomark _)) (pd_one (pd_cmp (op_eqV hr.u64) lr_eq (pd_cmp (op_eqV hr.u64) lr_eq (pd_var 2) (pd_var 1) (nomark _)) (pd_cmp (op_eqV hr.u64) lr_eq (pd_ix (pd_var 0) pd_int) pd_int (nomark _)) (nomark _)))))))))) hp, hf⟩
theorem fn_law {f : Addr} {fd : FuncData} (F : Fun K "law" "law" s_law f fd) (z_range : mg "range" = none) (o_is_ratio : Own P w K mg base "is_ratio" s_is_ratio ["value"] 2 1 ph_is_ratio) (o_made : Own P w K mg base "made" s_made ["number", "under"] 3 2 ph_made) (o_minus : Own P w K mg base "minus" s_minus ["near", "far"] 5 2 ph_minus) (o_compared : Own P w K mg base "compared" s_compared ["near", "far"] 5 2 ph_compared) (o_floor_of : Own P w K mg base "floor_of" s_floor_of ["ratio"] 4 1 ph_floor_of) (o_ceiling_of : Own P w K mg base "ceiling_of" s_ceiling_of ["ratio"] 4 1 ph_ceiling_of) (o_law_pot : Own P w K mg base "_law_pot" s_law_pot ["script", "k"] 1 2 ph_law_pot) (o_law_ratio : Own P w K mg base "_law_ratio" s_law_ratio ["number", "under"] 2 2 ph_law_ratio) (o_law_number : Own P w K mg base "_law_number" s_law_number ["pot"] 3 1 ph_law_number) (o_law_drawn : Own P w K mg base "_law_drawn" s_law_drawn ["pot"] 4 1 ph_law_drawn) (o_law_is_worth : Own P w K mg base "_law_is_worth" s_law_is_worth ["told", "number", "under"] 3 3 ph_law_is_worth) (o_law_pair_right : Own P w K mg base "_law_pair_right" s_law_pair_right ["near", "far"] 6 2 ph_law_pair_right) (o_law_one_right : Own P w K mg base "_law_one_right" s_law_one_right ["near"] 5 1 ph_law_one_right) (hp : Pure ["script", "pot", "turn", "near", "far", "number", "under", "told", "great"] 1 ph_law ds_law) : FnG P w K mg base CX0 7 f fd ["script"] (SpD K 1 ph_law) :=
  okD F sc_law rfl (fun cdv A outer s H E hr => (pds_cons (pd_set (i := 1) sc_law.nd (pd_call o_law_pot (hr.mono (by decide)) (fun _ _ _ _ _ _ us hl => match us, hl with | [_, _], _ => rfl) (pda_cons (pd_var 0) (pda_cons pd_int pda_nil))))
    (pds_cons (pd_for PassesOwn.never rfl (pdi_range1 (pda_cons pd_int pda_nil) z_range) (pdg_name (i := 2) sc_law.nd) (pds_cons (pd_par (i := 3) (j := 4) rfl sc_law.nd (pda_cons (pd_call o_law_drawn (hr.mono (by decide)) (fun _ _ _ _ _ _ us hl => match us, hl with | [_], _ => rfl) (pda_cons (pd_var 1) pda_nil)) (pda_cons (pd_call o_law_drawn (hr.mono (by decide)) (fun _ _ _ _ _ _ us hl => match us, hl with | [_], _ => rfl) (pda_cons (pd_var 1) pda_nil)) pda_nil)))
    (pds_cons (pd_if (PDW.pdt (pdw_or (pdt_not (pdt_tru (pd_call o_law_pair_right (hr.mono (by decide)) (fun _ _ _ _ _ _ us hl => match us, hl with | [_, _], _ => rfl) (pda_cons (pd_var 3) (pda_cons (pd_var 4) pda_nil))))) (pdw_or1 (pdt_not (pdt_tru (pd_call o_law_one_right (hr.mono (by decide)) (fun _ _ _ _ _ _ us hl => match us, hl with | [_], _ => rfl) (pda_cons (pd_var 3) pda_nil))))))) (pds_one (pd_ret pd_bl)) pds_nil)
    (pds_cons (pd_par (i := 5) (j := 6) rfl sc_law.nd (pda_cons (pd_call o_law_number (hr.mono (by decide)) (fun _ _ _ _ _ _ us hl => match us, hl with | [_], _ => rfl) (pda_cons (pd_var 1) pda_nil)) (pda_cons (pd_call o_law_number (hr.mono (by decide)) (fun _ _ _ _ _ _ us hl => match us, hl with | [_], _ => rfl) (pda_cons (pd_var 1) pda_nil)) pda_nil)))
    (pds_one (pd_if (pdt_cmp (op_neV hr.u64) lr_ne (pd_var 6) pd_int (nomark _)) (pds_cons (pd_set (i := 7) sc_law.nd (pd_callK0 (ks := ["under", "number"]) [1, 0] o_made (hr.mono (by decide)) (by decide) (fun _ _ _ _ _ _ us ws h1 h2 => match us, ws, h1, h2 with | [], [_, _], _, _ => rfl) (pdk_cons (pd_var 6) (pdk_cons (pd_var 5) pdk_nil))))
    (pds_one (pd_if (PDW.pdt (pdw_or (pdt_cmp (op_neV hr.u64) lr_ne (pd_var 7) (pd_call o_law_ratio (hr.mono (by decide)) (fun _ _ _ _ _ _ us hl => match us, hl with | [_, _], _ => rfl) (pda_cons (pd_var 5) (pda_cons (pd_var 6) pda_nil))) (nomark _)) (pdw_or (pdt_cmp op_isnotV lr_isnot (pd_call o_is_ratio (hr.mono (by decide)) (fun _ _ _ _ _ _ us hl => match us, hl with | [_], _ => rfl) (pda_cons (pd_var 7) pda_nil)) pd_bl (nomark _)) (pdw_or1 (pdt_not (pdt_tru (pd_call o_law_is_worth (hr.mono (by decide)) (fun _ _ _ _ _ _ us hl => match us, hl with | [_, _, _], _ => rfl) (pda_cons (pd_var 7) (pda_cons (pd_var 5) (pda_cons (pd_var 6) pda_nil)))))))))) (pds_one (pd_ret pd_bl)) pds_nil))) pds_nil))))))
    (pds_cons (pd_set (i := 8) sc_law.nd (pd_add (pd_pw pd_int pd_int) pd_int))
    (pds_cons (pd_if (PDW.pdt (pdw_or (pdt_cmp (op_neV hr.u64) lr_ne (pd_call o_floor_of (hr.mono (by decide)) (fun _ _ _ _ _ _ us hl => match us, hl with | [_], _ => rfl) (pda_cons (pd_tup (pda_cons (pd_var 8) (pda_cons pd_int pda_nil))) pda_nil)) (pd_mul pd_int (pd_pw pd_int pd_int)) (nomark _)) (pdw_or1 (pdt_cmp (op_neV hr.u64) lr_ne (pd_call o_ceiling_of (hr.mono (by decide)) (fun _ _ _ _ _ _ us hl => match us, hl with | [_], _ => rfl) (pda_cons (pd_tup (pda_cons (pd_var 8) (pda_cons pd_int pda_nil))) pda_nil)) (pd_add (pd_mul pd_int (pd_pw pd_int pd_int)) pd_int) (nomark _))))) (pds_one (pd_ret pd_bl)) pds_nil)
    (pds_cons (pd_if (PDW.pdt (pdw_or (pdt_cmp (op_neV hr.u64) lr_ne (pd_call o_compared (hr.mono (by decide)) (fun _ _ _ _ _ _ us hl => match us, hl with | [_, _], _ => rfl) (pda_cons (pd_tup (pda_cons (pd_pw pd_int pd_int) (pda_cons pd_int pda_nil))) (pda_cons (pd_tup (pda_cons (pd_var 8) (pda_cons pd_int pda_nil))) pda_nil))) (pd_neg pd_int) (nomark _)) (pdw_or1 (pdt_cmp (op_neV hr.u64) lr_ne (pd_call o_minus (hr.mono (by decide)) (fun _ _ _ _ _ _ us hl => match us, hl with | [_, _], _ => rfl) (pda_cons (pd_tup (pda_cons (pd_var 8) (pda_cons pd_int pda_nil))) (pda_cons (pd_tup (pda_cons pd_int (pda_cons pd_int pda_nil))) pda_nil))) (pd_tup (pda_cons (pd_mul pd_int (pd_pw pd_int pd_int)) (pda_cons pd_int pda_nil))) (nomark _))))) (pds_one (pd_ret pd_bl)) pds_nil)
    (pds_one (pd_ret (pd_and (pd_cmp (op_eqV hr.u64) lr_eq (pd_call o_made (hr.mono (by decide)) (fun _ _ _ _ _ _ us hl => match us, hl with | [_, _], _ => rfl) (pda_cons pd_int (pda_cons (pd_neg pd_int) pda_nil))) (pd_tup (pda_cons pd_int (pda_cons pd_int pda_nil))) (nomark _)) (pd_one (pd_cmp (op_eqV hr.u64) lr_eq (pd_call o_made (hr.mono (by decide)) (fun _ _ _ _ _ _ us hl => match us, hl with | [_, _], _ => rfl) (pda_cons pd_int (pda_cons (pd_neg pd_int) pda_nil))) (pd_tup (pda_cons (pd_neg pd_int) (pda_cons pd_int pda_nil))) (nomark _)))))))))))) hp
end
end K12
namespace K12
open PySem PySem.Spec PyProof.Rows L2 Evl DL
section
variable {μ : Mu} {Q : DQ} {n u a b c d p q i j : Int} {k : Nat} {x y : PyData} {ρ : Rho}
/-! ### reckoning with data -/
@[simp ↓] theorem o_ix0 : DL.rIx (.dat (rat n u)) (.dat (.int 0)) μ Q = Q (.dat (.int n)) μ := propext ⟨fun ⟨d, e, h⟩ => by cases e; exact h, fun h => ⟨_, rfl, h⟩⟩
@[simp ↓] theorem o_ix1 : DL.rIx (.dat (rat n u)) (.dat (.int 1)) μ Q = Q (.dat (.int u)) μ := propext ⟨fun ⟨d, e, h⟩ => by cases e; exact h, fun h => ⟨_, rfl, h⟩⟩
@[simp ↓] theorem o_rat : PyData.tuple [.int n, .int u] = rat n u := rfl
@[simp ↓ high] theorem o_gT {gs : DGs} {R : Rho → Mu → Prop} : gT 2 gs (.dat (rat n u)) ρ μ R = gs [.dat (.int n), .dat (.int u)] ρ μ R := propext ⟨fun h => h.2, fun h => ⟨rfl, h⟩⟩
@[simp ↓] theorem o_eqI : DL.rEq (.dat (.int i)) (.dat (.int j)) μ Q = Q (.dat (.bool (decide (i = j)))) μ := rfl
@[simp ↓] theorem o_neI : DL.rNe (.dat (.int i)) (.dat (.int j)) μ Q = Q (.dat (.bool (!decide (i = j)))) μ := rfl
@[simp ↓] theorem o_eqB {i j : Bool} : DL.rEq (.dat (.bool i)) (.dat (.bool j)) μ Q = Q (.dat (.bool (decide (i = j)))) μ := rfl
@[simp ↓] theorem o_neS {i j : Str} : DL.rNe (.dat (.str i)) (.dat (.str j)) μ Q = Q (.dat (.bool (!decide (i = j)))) μ := rfl
theorem eqv_rat : PyData.eqv (rat a b) (rat c d) = decide (a = c ∧ b = d) := by
  simp only [rat, PyData.eqv, PyData.eqvAll, Bool.and_true]
  rw [Bool.decide_and]
  rfl
@[simp ↓] theorem o_eqR : DL.rEq (.dat (rat a b)) (.dat (rat c d)) μ Q = Q (.dat (.bool (decide (a = c ∧ b = d)))) μ := by
  rw [← eqv_rat]
  exact propext ⟨fun h => h.2, fun h => ⟨⟨rfl, rfl⟩, h⟩⟩
@[simp ↓] theorem o_neR : DL.rNe (.dat (rat a b)) (.dat (rat c d)) μ Q = Q (.dat (.bool (!decide (a = c ∧ b = d)))) μ := by
  rw [← eqv_rat]
  exact propext ⟨fun h => h.2, fun h => ⟨⟨rfl, rfl⟩, h⟩⟩
@[simp ↓] theorem o_lt : DL.rLt (.dat (.int i)) (.dat (.int j)) μ Q = Q (.dat (.bool (decide (i < j)))) μ := rfl
@[simp ↓] theorem o_le : DL.rLe (.dat (.int i)) (.dat (.int j)) μ Q = Q (.dat (.bool (decide (i ≤ j)))) μ := rfl
@[simp ↓] theorem o_gt : DL.rGt (.dat (.int i)) (.dat (.int j)) μ Q = Q (.dat (.bool (decide (j < i)))) μ := rfl
@[simp ↓] theorem o_ge : DL.rGe (.dat (.int i)) (.dat (.int j)) μ Q = Q (.dat (.bool (decide (j ≤ i)))) μ := rfl
@[simp ↓] theorem o_add : DL.rAdd (.dat (.int i)) (.dat (.int j)) μ Q = Q (.dat (.int (i + j))) μ := rfl
@[simp ↓] theorem o_sub : DL.rSub (.dat (.int i)) (.dat (.int j)) μ Q = Q (.dat (.int (i - j))) μ := propext ⟨fun h => h.2, fun h => ⟨trivial, h⟩⟩
@[simp ↓] theorem o_mul : DL.rMul (.dat (.int i)) (.dat (.int j)) μ Q = (CMulW i j ∧ Q (.dat (.int (i * j))) μ) := rfl
@[simp ↓] theorem o_dv : DL.rDv (.dat (.int i)) (.dat (.int j)) μ Q = (CDv i j ∧ Q (.dat (.int (i.fdiv j))) μ) := rfl
@[simp ↓] theorem o_md : DL.rMd (.dat (.int i)) (.dat (.int j)) μ Q = (j ≠ 0 ∧ Q (.dat (.int (i.fmod j))) μ) := rfl
@[simp ↓] theorem o_pw : DL.rPw (.dat (.int i)) (.dat (.int j)) μ Q = (CPow i j ∧ Q (.dat (.int (i ^ j.toNat))) μ) := rfl
@[simp ↓] theorem o_neg : DL.rNeg (.dat (.int i)) μ Q = Q (.dat (.int (-i))) μ := rfl
@[simp ↓] theorem o_isT {b c : Bool} : DL.rIs true (.dat (.bool b)) (.dat (.bool c)) μ Q = Q (.dat (.bool (true != decide (b = c)))) μ := rfl
@[simp ↓] theorem o_lenL {ds : List PyData} : fLen [.dat (.list ds)] μ Q = Q (.dat (.int ds.length)) μ := rfl
@[simp ↓] theorem o_lenT {ds : List PyData} : fLen [.dat (.tuple ds)] μ Q = Q (.dat (.int ds.length)) μ := rfl
@[simp ↓] theorem o_lenR : fLen [.dat (rat n u)] μ Q = Q (.dat (.int 2)) μ := rfl
@[simp ↓] theorem o_abs : fAbs [.dat (.int i)] μ Q = Q (.dat (.int (if i < 0 then -i else i))) μ := rfl
@[simp ↓] theorem o_max : fMax2 [.dat (.int i), .dat (.int j)] μ Q = Q (.dat (.int (if j > i then j else i))) μ := propext ⟨fun h => h.2, fun h => ⟨trivial, h⟩⟩
@[simp ↓] theorem o_int : fInt [.dat (.int i)] μ Q = Q (.dat (.int i)) μ := rfl
@[simp ↓] theorem o_intB {b : Bool} : fInt [.dat (.bool b)] μ Q = Q (.dat (.int (if b then 1 else 0))) μ := rfl
@[simp ↓] theorem o_dm : fDm [.dat (.int i), .dat (.int j)] μ Q = (CDm i j ∧ Q (.dat (rat (i / j) (i % j))) μ) := rfl
@[simp ↓] theorem o_gcd : fGcd [.dat (.int i), .dat (.int j)] μ Q = Q (.dat (.int (gcdI i j))) μ := propext ⟨fun h => h.2, fun h => ⟨trivial, h⟩⟩
@[simp ↓] theorem o_isiT {T : Ty5} : fIsi T (.dat x) μ Q = Q (.dat (.bool (isTy T x))) μ := rfl
@[simp ↓] theorem o_tr {b : Bool} : truD (.bool b) = b := rfl
@[simp ↓] theorem o_okT {b : Bool} : okT (.bool b) = True := rfl
@[simp ↓] theorem o_finC {n : Nat} {ds : List PyData} (h : μ[k]? = some (.lst ds)) : finQ n Q (.cell k) μ = if k < n then Q (.cell k) (μ.take n) else (Q (.dat (.list ds)) (μ.take n) ∨ Q (.cell n) (μ.take n ++ [.lst ds])) := by
  simp only [finQ, h]
/-! ### the defs' promises, called -/
@[simp ↓] theorem c_is_integer : ph_is_integer [.dat x] μ Q = Q (.dat (.bool (isW x))) μ := propext ⟨fun ⟨_, e, h⟩ => by cases e; exact h, fun h => ⟨_, rfl, h⟩⟩
@[simp ↓] theorem c_law_is_whole : ph_law_is_whole [.dat x] μ Q = Q (.dat (.bool (isW x))) μ := c_is_integer
@[simp ↓] theorem c_is_tuple_of {ds : List PyData} : ph_is_tuple_of [.dat (.tuple ds), .dat (.int n)] μ Q = Q (.dat (.bool (decide ((ds.length : Int) = n)))) μ := propext ⟨fun ⟨_, _, e, h⟩ => by cases e; exact h, fun h => ⟨_, _, rfl, h⟩⟩
@[simp ↓] theorem c_is_tuple_ofR : ph_is_tuple_of [.dat (rat p q), .dat (.int n)] μ Q = Q (.dat (.bool (decide (2 = n)))) μ := c_is_tuple_of
theorem rat_inj (h : rat a b = rat c d) : a = c ∧ b = d := by cases h; exact ⟨rfl, rfl⟩
@[simp ↓] theorem c_is_ratio : ph_is_ratio [.dat (rat n u)] μ Q = Q (.dat (.bool (decide (IsR n u)))) μ := propext ⟨fun ⟨_, _, e, h⟩ => by cases e; exact h, fun h => ⟨_, _, rfl, h⟩⟩
@[simp ↓] theorem c_law_is_ratio : ph_law_is_ratio [.dat (rat n u)] μ Q = ((Sm 8000 n ∧ Sm 8000 u) ∧ Q (.dat (.bool (decide (IsR n u)))) μ) := propext ⟨fun ⟨_, _, e, h⟩ => by cases e; exact h, fun h => ⟨_, _, rfl, h⟩⟩
@[simp ↓] theorem c_check_integer : ph_check_integer [.dat (.int n)] μ Q = Q (.dat .none) μ := propext ⟨fun ⟨_, e, h⟩ => by cases e; exact h, fun h => ⟨_, rfl, h⟩⟩
@[simp ↓] theorem c_check_ratio : ph_check_ratio [.dat (rat n u)] μ Q = (IsR n u ∧ Q (.dat .none) μ) := propext ⟨fun ⟨_, _, e, h⟩ => by cases e; exact h, fun h => ⟨_, _, rfl, h⟩⟩
@[simp ↓] theorem c_check_ratios : ph_check_ratios [.dat (rat a b), .dat (rat c d)] μ Q = ((IsR a b ∧ IsR c d) ∧ Q (.dat .none) μ) := propext ⟨fun ⟨_, _, _, _, e, h⟩ => by cases e; exact h, fun h => ⟨_, _, _, _, rfl, h⟩⟩
@[simp ↓] theorem c_reduced : ph_reduced [.dat (.int n), .dat (.int u)] μ Q = ((u ≠ 0 ∧ Sm 8000 u) ∧ Q (.dat (red n u)) μ) := propext ⟨fun ⟨_, _, e, h⟩ => by cases e; exact h, fun h => ⟨_, _, rfl, h⟩⟩
@[simp ↓] theorem c_made : ph_made [.dat (.int n), .dat (.int u)] μ Q = ((u ≠ 0 ∧ Sm 8000 u) ∧ Q (.dat (red n u)) μ) := c_reduced
theorem c_two {C : Int → Int → Int → Int → Prop} {f : Int → Int → Int → Int → PyData} : two C f [.dat (rat a b), .dat (rat c d)] μ Q = ((IsR a b ∧ IsR c d ∧ Sms 2000 a b c d ∧ C a b c d) ∧ Q (.dat (f a b c d)) μ) := propext ⟨fun ⟨_, _, _, _, e, h⟩ => by cases e; exact h, fun h => ⟨_, _, _, _, rfl, h⟩⟩
@[simp ↓] theorem c_plus : ph_plus [.dat (rat a b), .dat (rat c d)] μ Q = ((IsR a b ∧ IsR c d ∧ Sms 2000 a b c d ∧ True) ∧ Q (.dat (red (a * d + c * b) (b * d))) μ) := c_two
@[simp ↓] theorem c_minus : ph_minus [.dat (rat a b), .dat (rat c d)] μ Q = ((IsR a b ∧ IsR c d ∧ Sms 2000 a b c d ∧ True) ∧ Q (.dat (red (a * d - c * b) (b * d))) μ) := c_two
@[simp ↓] theorem c_times : ph_times [.dat (rat a b), .dat (rat c d)] μ Q = ((IsR a b ∧ IsR c d ∧ Sms 2000 a b c d ∧ True) ∧ Q (.dat (red (a * c) (b * d))) μ) := c_two
@[simp ↓] theorem c_over : ph_over [.dat (rat a b), .dat (rat c d)] μ Q = ((IsR a b ∧ IsR c d ∧ Sms 2000 a b c d ∧ c ≠ 0) ∧ Q (.dat (red (a * d) (b * c))) μ) := c_two
@[simp ↓] theorem c_compared : ph_compared [.dat (rat a b), .dat (rat c d)] μ Q = ((IsR a b ∧ IsR c d ∧ Sms 2000 a b c d ∧ True) ∧ Q (.dat (.int (cmpI (a * d) (c * b)))) μ) := c_two
@[simp ↓] theorem c_floor_of : ph_floor_of [.dat (rat a b)] μ Q = ((IsR a b ∧ Sm 2000 b) ∧ Q (.dat (.int (a.fdiv b))) μ) := propext ⟨fun ⟨_, _, e, h⟩ => by cases e; exact h, fun h => ⟨_, _, rfl, h⟩⟩
@[simp ↓] theorem c_ceiling_of : ph_ceiling_of [.dat (rat a b)] μ Q = ((IsR a b ∧ Sm 2000 b) ∧ Q (.dat (.int (-((-a).fdiv b)))) μ) := propext ⟨fun ⟨_, _, e, h⟩ => by cases e; exact h, fun h => ⟨_, _, rfl, h⟩⟩
@[simp ↓] theorem c_law_draw : ph_law_draw [.cell k, .dat (.int n)] μ Q = (Pot μ k ∧ (0 < n ∧ n < 2 ^ 100) ∧ ∀ x μ', 0 ≤ x → x < n → Pot μ' k → μ'.length = μ.length → Q (.dat (.int x)) μ') := propext ⟨fun ⟨_, _, e, h⟩ => by cases e; exact h, fun h => ⟨_, _, rfl, h⟩⟩
@[simp ↓] theorem c_law_pick {ds : List PyData} : ph_law_pick [.cell k, .dat (.list ds)] μ Q = (Pot μ k ∧ (0 < ds.length ∧ ds.length ≤ 1000) ∧ ∀ x μ', x ∈ ds → Pot μ' k → μ'.length = μ.length → Q (.dat x) μ') := propext ⟨fun ⟨_, _, e, h⟩ => by cases e; exact h, fun h => ⟨_, _, rfl, h⟩⟩
@[simp ↓] theorem c_law_common : ph_law_common [.dat (.int a), .dat (.int b)] μ Q = ((Sm 8000 a ∧ Sm 8000 b) ∧ Q (.dat (.int (gcdI a b))) μ) := propext ⟨fun ⟨_, _, e, h⟩ => by cases e; exact h, fun h => ⟨_, _, rfl, h⟩⟩
@[simp ↓] theorem c_law_ratio : ph_law_ratio [.dat (.int n), .dat (.int u)] μ Q = ((u ≠ 0 ∧ Sm 8000 n ∧ Sm 8000 u) ∧ Q (.dat (red n u)) μ) := propext ⟨fun ⟨_, _, e, h⟩ => by cases e; exact h, fun h => ⟨_, _, rfl, h⟩⟩
@[simp ↓] theorem c_law_number : ph_law_number [.cell k] μ Q = (Pot μ k ∧ ∀ n μ', Sm 60 n → Pot μ' k → μ'.length = μ.length → Q (.dat (.int n)) μ') := propext ⟨fun ⟨_, e, h⟩ => by cases e; exact h, fun h => ⟨_, rfl, h⟩⟩
@[simp ↓] theorem c_law_drawn : ph_law_drawn [.cell k] μ Q = (Pot μ k ∧ ∀ n u μ', IsR n u → Sm 60 n → Sm 60 u → Pot μ' k → μ'.length = μ.length → Q (.dat (rat n u)) μ') := propext ⟨fun ⟨_, e, h⟩ => by cases e; exact h, fun h => ⟨_, rfl, h⟩⟩
@[simp ↓] theorem c_law_is_worth : ph_law_is_worth [.dat (rat p q), .dat (.int n), .dat (.int u)] μ Q = ((Sms 8000 p q n u ∧ IsR p q ∧ p * u = n * q) ∧ Q (.dat (.bool true)) μ) := propext ⟨fun ⟨_, _, _, _, e, h⟩ => by cases e; exact h, fun h => ⟨_, _, _, _, rfl, h⟩⟩
@[simp ↓] theorem c_law_pair_right : ph_law_pair_right [.dat (rat a b), .dat (rat c d)] μ Q = ((IsR a b ∧ IsR c d ∧ Sms 60 a b c d) ∧ Q (.dat (.bool true)) μ) := propext ⟨fun ⟨_, _, _, _, e, h⟩ => by cases e; exact h, fun h => ⟨_, _, _, _, rfl, h⟩⟩
@[simp ↓] theorem c_law_one_right : ph_law_one_right [.dat (rat a b)] μ Q = ((IsR a b ∧ Sm 60 a ∧ Sm 60 b) ∧ Q (.dat (.bool true)) μ) := propext ⟨fun ⟨_, _, e, h⟩ => by cases e; exact h, fun h => ⟨_, _, rfl, h⟩⟩
@[simp ↓] theorem c_law_pot {ns : List Int} : ph_law_pot [.dat (.list (ns.map PyData.int)), .dat (.int n)] μ Q = ((0 ≤ n ∧ n ≤ 100) ∧ ∀ p0 p1 : Int, 0 ≤ p0 → 0 ≤ p1 → p1 < 2 ^ 40 → Q (.cell μ.length) (μ ++ [.lst [.int p0, .int p1]])) :=
  propext ⟨fun ⟨_, _, e, h⟩ => by
    simp only [List.cons.injEq, Sl.dat.injEq, PyData.list.injEq, PyData.int.injEq, and_true] at e
    obtain ⟨_, e⟩ := e
    subst e
    exact h, fun h => ⟨_, _, rfl, h⟩⟩
end
end K12
namespace K12
open PySem PySem.Spec PyProof.Rows L2 Evl DL
/-! ### the mathematics of ratios -/
theorem Sm.mono {j k : Nat} {x : Int} (h : Sm j x) (hk : j ≤ k) : Sm k x := Nat.lt_of_lt_of_le h (Nat.pow_le_pow_right (by decide) hk)
theorem Sm.mul {j k : Nat} {x y : Int} (h : Sm j x) (g : Sm k y) : Sm (j + k) (x * y) := by
  unfold Sm at *
  rw [Int.natAbs_mul, Nat.pow_add]
  exact Nat.mul_lt_mul'' h g
theorem Sm.add {k : Nat} {x y : Int} (h : Sm k x) (g : Sm k y) : Sm (k + 1) (x + y) := by
  unfold Sm at *
  rw [Nat.pow_succ]
  omega
theorem Sm.sub {k : Nat} {x y : Int} (h : Sm k x) (g : Sm k y) : Sm (k + 1) (x - y) := by
  unfold Sm at *
  rw [Nat.pow_succ]
  omega
theorem Sm.neg {k : Nat} {x : Int} (h : Sm k x) : Sm k (-x) := by
  unfold Sm at *
  rw [Int.natAbs_neg]
  exact h
theorem Sm.le {k : Nat} {x y : Int} (h : Sm k x) (g : y.natAbs ≤ x.natAbs) : Sm k y := Nat.lt_of_le_of_lt g h
theorem Sm.cmul {j k : Nat} {x y : Int} (h : Sm j x) (g : Sm k y) (hj : j ≤ 100000) (hk : k ≤ 100000) : CMulW x y := by
  have h1 := h.mono (k := 100000) hj
  have g1 := g.mono (k := 100000) hk
  exact wide_mul h1 g1 (by decide) (by decide) (by decide)
theorem Sm.cdv {k : Nat} {i j : Int} (h : Sm k j) (hk : k ≤ 9000) (h0 : j ≠ 0) : CDv i j := ⟨h0, (Nat.log2_lt (Int.natAbs_ne_zero.mpr h0)).mpr (h.mono hk)⟩
theorem gcdI_pos {n u : Int} (h : u ≠ 0) : 0 < gcdI n u := by
  have : 0 < Nat.gcd n.natAbs u.natAbs := Nat.gcd_pos_of_pos_right _ (Int.natAbs_pos.mpr h)
  unfold gcdI
  omega
theorem gcdI_dvd1 (n u : Int) : gcdI n u ∣ n := Int.gcd_dvd_left n u
theorem gcdI_dvd2 (n u : Int) : gcdI n u ∣ u := Int.gcd_dvd_right n u
theorem gcdI_comm (n u : Int) : gcdI n u = gcdI u n := by
  unfold gcdI
  rw [Nat.gcd_comm]
theorem redG_ne {n u : Int} (h : u ≠ 0) : redG n u ≠ 0 := by
  have := gcdI_pos (n := n) h
  unfold redG
  split <;> omega
theorem redG_abs (n u : Int) : (redG n u).natAbs = (gcdI n u).natAbs := by
  unfold redG
  split
  · exact Int.natAbs_neg _
  · rfl
theorem redG_dvd1 (n u : Int) : redG n u ∣ n := by
  unfold redG
  split
  · exact Int.neg_dvd.mpr (gcdI_dvd1 n u)
  · exact gcdI_dvd1 n u
theorem redG_dvd2 (n u : Int) : redG n u ∣ u := by
  unfold redG
  split
  · exact Int.neg_dvd.mpr (gcdI_dvd2 n u)
  · exact gcdI_dvd2 n u
theorem redN_eq (n u : Int) : redG n u * redN n u = n := Int.mul_fdiv_cancel' (redG_dvd1 n u)
theorem redD_eq (n u : Int) : redG n u * redD n u = u := Int.mul_fdiv_cancel' (redG_dvd2 n u)
theorem red_isR {n u : Int} (h : u ≠ 0) : IsR (redN n u) (redD n u) := by
  have gp := gcdI_pos (n := n) h
  have e1 := redN_eq n u
  have e2 := redD_eq n u
  have ga := redG_abs n u
  constructor
  · have hs : (u < 0 ∧ redG n u < 0) ∨ (0 < u ∧ 0 < redG n u) := by
      unfold redG
      split
      · exact .inl ⟨by assumption, by omega⟩
      · exact .inr ⟨by omega, gp⟩
    rcases hs with ⟨h1, h2⟩ | ⟨h1, h2⟩
    · rw [← e2] at h1
      have : 0 < redD n u := Int.pos_of_mul_neg_left (by rw [Int.mul_comm]; exact h1) h2
      omega
    · rw [← e2] at h1
      have := Int.pos_of_mul_pos_right h1 h2
      omega
  · have e : Nat.gcd n.natAbs u.natAbs = (gcdI n u).natAbs * Nat.gcd (redN n u).natAbs (redD n u).natAbs := by
      rw [← Nat.gcd_mul_left, ← ga, ← Int.natAbs_mul, ← Int.natAbs_mul, e1, e2]
    have e' : (gcdI n u).natAbs = Nat.gcd n.natAbs u.natAbs := rfl
    rw [← e'] at e
    have p : 0 < (gcdI n u).natAbs := by omega
    have : Nat.gcd (redN n u).natAbs (redD n u).natAbs = 1 := by
      have := Nat.eq_of_mul_eq_mul_left p (e.symm.trans (Nat.mul_one _).symm)
      exact this
    unfold gcdI
    rw [this]
    rfl
theorem red_val (n u : Int) : redN n u * u = n * redD n u := by
  have e1 := redN_eq n u
  have e2 := redD_eq n u
  grind
theorem redN_sm {k : Nat} {n u : Int} (h : Sm k n) : Sm k (redN n u) := h.le (Int.natAbs_fdiv_le_natAbs _ _)
theorem redD_sm {k : Nat} {n u : Int} (h : Sm k u) : Sm k (redD n u) := h.le (Int.natAbs_fdiv_le_natAbs _ _)
theorem isR_uniq {p q a b : Int} (h : IsR p q) (g : IsR a b) (e : p * b = a * q) : p = a ∧ q = b := by
  have c1 : Nat.Coprime p.natAbs q.natAbs := by
    have := h.2
    unfold gcdI at this
    exact Int.ofNat.inj this
  have c2 : Nat.Coprime a.natAbs b.natAbs := by
    have := g.2
    unfold gcdI at this
    exact Int.ofNat.inj this
  have en : p.natAbs * b.natAbs = a.natAbs * q.natAbs := by rw [← Int.natAbs_mul, ← Int.natAbs_mul, e]
  have d1 : q.natAbs ∣ b.natAbs := Nat.Coprime.dvd_of_dvd_mul_left c1.symm (by rw [en]; exact Nat.dvd_mul_left _ _)
  have d2 : b.natAbs ∣ q.natAbs := Nat.Coprime.dvd_of_dvd_mul_left c2.symm (by rw [← en]; exact Nat.dvd_mul_left _ _)
  have en2 := Nat.dvd_antisymm d1 d2
  have h1 := h.1
  have g1 := g.1
  have eq : q = b := by omega
  subst eq
  exact ⟨Int.eq_of_mul_eq_mul_right (by omega) e, rfl⟩
theorem IsR.ne {p q : Int} (h : IsR p q) : q ≠ 0 := by have := h.1; omega
theorem red_self {a b : Int} (h : IsR a b) {n u : Int} (hu : u ≠ 0) (e : n * b = a * u) : red n u = rat a b := by
  have v := red_val n u
  have r := red_isR (n := n) hu
  have : redN n u * b = a * redD n u := by
    have : redN n u * b * u = a * redD n u * u := by grind
    exact Int.eq_of_mul_eq_mul_right hu this
  obtain ⟨e1, e2⟩ := isR_uniq r h this
  unfold red
  rw [e1, e2]
theorem mul_ne {a b : Int} (h : a ≠ 0) (g : b ≠ 0) : a * b ≠ 0 := Int.mul_ne_zero h g
/-- a step of Euclid's -/
theorem gcdI_step (a b : Int) : gcdI b (a - a.fdiv b * b) = gcdI a b := by
  show ((Int.gcd b (a - a.fdiv b * b) : Nat) : Int) = ((Int.gcd a b : Nat) : Int)
  rw [Int.gcd_sub_mul_right_right, Int.gcd_comm]
theorem step_abs (a b : Int) (h : b ≠ 0) : (a - a.fdiv b * b).natAbs < b.natAbs := by
  have e : a - a.fdiv b * b = a.fmod b := by
    rw [Int.fmod_def, Int.mul_comm]
  rw [e]
  by_cases hb : 0 < b
  · have h1 := Int.fmod_lt_of_pos a hb
    have h2 := Int.fmod_nonneg_of_pos a hb
    omega
  · have hb : 0 < -b := by omega
    have h1 := Int.fmod_lt_of_pos (-a) hb
    have h2 := Int.fmod_nonneg_of_pos (-a) hb
    rw [Int.neg_fmod_neg] at h1 h2
    omega
theorem gcdI_zero (a : Int) : gcdI a 0 = (a.natAbs : Int) := by
  unfold gcdI
  rw [Int.natAbs_zero, Nat.gcd_zero_right]
theorem abs_if (a : Int) : (if a < 0 then -a else a) = (a.natAbs : Int) := by
  split <;> omega
end K12
namespace K12
open PySem PySem.Spec PyProof.Rows L2 Evl DL
theorem pu_is_integer : Pure ["value"] 1 ph_is_integer ds_is_integer := by
  intro ss μ Q' hl h
  obtain ⟨d, rfl, h⟩ := h
  cases d <;> simpa [ds_is_integer, startD, isTy, isW] using h
theorem pu_law_is_whole : Pure ["value"] 1 ph_law_is_whole ds_law_is_whole := pu_is_integer
theorem pu_is_tuple_of : Pure ["value", "many"] 2 ph_is_tuple_of ds_is_tuple_of := by
  intro ss μ Q' hl h
  obtain ⟨d, n, rfl, h⟩ := h
  simpa [ds_is_tuple_of, startD, isTy] using h
theorem pu_is_ratio : Pure ["value", "number", "under"] 1 ph_is_ratio ds_is_ratio := by
  intro ss μ Q' hl h
  obtain ⟨n, u, rfl, h⟩ := h
  simp [ds_is_ratio, startD, isW]
  by_cases c : 1 ≤ u <;> simpa [c, IsR] using h
theorem pu_check_integer : Pure ["value"] 1 ph_check_integer ds_check_integer := by
  intro ss μ Q' hl h
  obtain ⟨n, rfl, h⟩ := h
  simpa [ds_check_integer, startD, isW] using h
theorem pu_check_ratio : Pure ["value"] 1 ph_check_ratio ds_check_ratio := by
  intro ss μ Q' hl h
  obtain ⟨n, u, rfl, hr, h⟩ := h
  simpa [ds_check_ratio, startD, hr] using h
theorem pu_check_ratios : Pure ["near", "far"] 2 ph_check_ratios ds_check_ratios := by
  intro ss μ Q' hl h
  obtain ⟨a, b, c, d, rfl, hr, h⟩ := h
  simpa [ds_check_ratios, startD, hr] using h
theorem redG_sm {k : Nat} {n u : Int} (h0 : u ≠ 0) (h : Sm k u) : Sm k (redG n u) := h.le (by
  have := Nat.le_of_dvd (Int.natAbs_pos.mpr h0) (Int.natAbs_dvd_natAbs.mpr (redG_dvd2 n u))
  exact this)
theorem pu_reduced : Pure ["number", "under", "divisor"] 2 ph_reduced ds_reduced := by
  intro ss μ Q' hl h
  obtain ⟨n, u, rfl, ⟨h0, hs⟩, h⟩ := h
  have hd : ∀ i, CDv i (redG n u) := fun i => (redG_sm h0 hs).cdv (by decide) (redG_ne h0)
  unfold redG at hd
  unfold red redN redD redG at h
  by_cases c : u < 0
  · rw [if_pos c] at hd h
    simpa [ds_reduced, startD, c, hd] using h
  · rw [if_neg c] at hd h
    simpa [ds_reduced, startD, c, hd] using h
theorem pu_made : Pure ["number", "under"] 2 ph_made ds_made := by
  intro ss μ Q' hl h
  obtain ⟨n, u, rfl, ⟨h0, hs⟩, h⟩ := h
  simpa [ds_made, startD, h0, hs] using h
end K12
namespace K12
open PySem PySem.Spec PyProof.Rows L2 Evl DL
instance (k : Nat) (x : Int) : Decidable (Sm k x) := inferInstanceAs (Decidable (_ < _))
theorem cm2 {a b : Int} (h : Sm 2000 a) (g : Sm 2000 b) : CMulW a b := h.cmul g (by decide) (by decide)
theorem big2 {a b : Int} (h : Sm 2000 a) (g : Sm 2000 b) : Sm 8000 (a * b) := (h.mul g).mono (by decide)
theorem pu_plus : Pure ["near", "far"] 2 ph_plus ds_plus := by
  intro ss μ Q' hl h
  obtain ⟨a, b, c, d, rfl, ⟨h1, h2, ⟨s1, s2, s3, s4⟩, _⟩, h⟩ := h
  simpa [ds_plus, startD, h1, h2, cm2, s1, s2, s3, s4, big2, mul_ne h1.ne h2.ne, h1.ne, h2.ne] using h
theorem pu_minus : Pure ["near", "far"] 2 ph_minus ds_minus := by
  intro ss μ Q' hl h
  obtain ⟨a, b, c, d, rfl, ⟨h1, h2, ⟨s1, s2, s3, s4⟩, _⟩, h⟩ := h
  simpa [ds_minus, startD, h1, h2, cm2, s1, s2, s3, s4, big2, h1.ne, h2.ne] using h
theorem pu_times : Pure ["near", "far"] 2 ph_times ds_times := by
  intro ss μ Q' hl h
  obtain ⟨a, b, c, d, rfl, ⟨h1, h2, ⟨s1, s2, s3, s4⟩, _⟩, h⟩ := h
  simpa [ds_times, startD, h1, h2, cm2, s1, s2, s3, s4, big2, h1.ne, h2.ne] using h
theorem pu_over : Pure ["near", "far"] 2 ph_over ds_over := by
  intro ss μ Q' hl h
  obtain ⟨a, b, c, d, rfl, ⟨h1, h2, ⟨s1, s2, s3, s4⟩, h0⟩, h⟩ := h
  simpa [ds_over, startD, h1, h2, cm2, s1, s2, s3, s4, big2, h1.ne, h2.ne, h0] using h
theorem pu_compared : Pure ["near", "far", "left", "right"] 2 ph_compared ds_compared := by
  intro ss μ Q' hl h
  obtain ⟨a, b, c, d, rfl, ⟨h1, h2, ⟨s1, s2, s3, s4⟩, _⟩, h⟩ := h
  unfold cmpI at h
  by_cases e : a * d = c * b
  · simpa [ds_compared, startD, h1, h2, cm2, s1, s2, s3, s4, e] using h
  · by_cases e2 : a * d < c * b <;> simpa [ds_compared, startD, h1, h2, cm2, s1, s2, s3, s4, e, e2] using h
theorem pu_floor_of : Pure ["ratio"] 1 ph_floor_of ds_floor_of := by
  intro ss μ Q' hl h
  obtain ⟨a, b, rfl, ⟨h1, s1⟩, h⟩ := h
  simpa [ds_floor_of, startD, h1, s1.cdv (by decide) h1.ne] using h
theorem pu_ceiling_of : Pure ["ratio"] 1 ph_ceiling_of ds_ceiling_of := by
  intro ss μ Q' hl h
  obtain ⟨a, b, rfl, ⟨h1, s1⟩, h⟩ := h
  simpa [ds_ceiling_of, startD, h1, s1.cdv (by decide) h1.ne] using h
theorem pu_law_ratio : Pure ["number", "under", "common"] 2 ph_law_ratio ds_law_ratio := by
  intro ss μ Q' hl h
  obtain ⟨n, u, rfl, ⟨h0, hn, hs⟩, h⟩ := h
  have hd : ∀ i, CDv i (redG n u) := fun i => (redG_sm h0 hs).cdv (by decide) (redG_ne h0)
  unfold redG at hd
  unfold red redN redD redG at h
  by_cases c : u < 0
  · rw [if_pos c] at hd h
    simpa [ds_law_ratio, startD, c, hd, hn, hs] using h
  · rw [if_neg c] at hd h
    simpa [ds_law_ratio, startD, c, hd, hn, hs] using h
theorem fmod_lt {a b : Int} (h : 0 < b) : 0 ≤ a.fmod b ∧ a.fmod b < b := ⟨Int.fmod_nonneg_of_pos a h, Int.fmod_lt_of_pos a h⟩
theorem sm_of {k : Nat} {x : Int} (h0 : 0 ≤ x) (h : x < 2 ^ k) : Sm k x := by
  unfold Sm
  have : (x.natAbs : Int) < ((2 ^ k : Nat) : Int) := by
    rw [Int.natAbs_of_nonneg h0]
    simpa using h
  exact Int.ofNat_lt.mp this
theorem fdiv_sm {k : Nat} {a b : Int} (h : Sm k a) : Sm k (a.fdiv b) := h.le (Int.natAbs_fdiv_le_natAbs _ _)
theorem common_loop : ∀ (m : Nat) (a b : Int) (D : DEnds) (μ : Mu), b.natAbs < m → Sm 8000 a → Sm 8000 b → (∀ x : Int, (x.natAbs : Int) = gcdI a b → D.nx [some (.dat (.int x)), some (.dat (.int 0))] μ) →
    whileD (dTest (dOp DL.rNe (dVar 1) (dC (.int 0)))) (dPar 0 1 (aCons (dVar 1) (aCons (dOp DL.rSub (dVar 0) (dOp DL.rMul (dOp DL.rDv (dVar 0) (dVar 1)) (dVar 1))) aNil))) D m [some (.dat (.int a)), some (.dat (.int b))] μ
  | 0, _, _, _, _, hm, _, _, _ => absurd hm (Nat.not_lt_zero _)
  | m + 1, a, b, D, μ, hm, ha, hb, h => by
    by_cases h0 : b = 0
    · subst h0
      simp [whileD]
      exact h a (gcdI_zero a).symm
    · have st := step_abs a b h0
      have ih := common_loop m b (a - a.fdiv b * b) D μ (by omega) hb (hb.le (Nat.le_of_lt st)) (fun x e => h x (e.trans (gcdI_step a b)))
      have e2 : CMulW (a.fdiv b) b := (fdiv_sm ha).cmul hb (by decide) (by decide)
      simpa [whileD, h0, e2, hb.cdv (by decide) h0] using ih
theorem gcdI_nn (a b : Int) : 0 ≤ gcdI a b := Int.natCast_nonneg _
theorem pu_law_common : Pure ["one", "other"] 2 ph_law_common ds_law_common := by
  intro ss μ Q' hl h
  obtain ⟨a, b, rfl, ⟨s1, s2⟩, h⟩ := h
  refine ⟨b.natAbs + 1, common_loop _ a b _ μ (Nat.lt_succ_self _) s1 s2 fun x e => ?_⟩
  have := abs_if x
  simp [this, e]
  exact h
theorem o_rat' {n u : Int} : rat n u = PyData.tuple [.int n, .int u] := rfl
theorem allR {μ : Mu} {Q : DQ} {bs : List Bool} : fAll [.dat (.list (bs.map PyData.bool))] μ Q = Q (.dat (.bool (bs.all id))) μ := by
  have : ∀ bs : List Bool, boolsOf (bs.map PyData.bool) = some bs := fun bs => by
    induction bs with
    | nil => rfl
    | cons b r ih => simp [boolsOf, ih]
  simp [fAll, fBools, arg1, this]
theorem rix_c {k : Nat} {j : Int} {d : PyData} {μ : Mu} {Q : DQ} {ds : List PyData} (hm : μ[k]? = some (.lst ds)) (e : atI ds j = some d) : DL.rIx (.cell k) (.dat (.int j)) μ Q = Q (.dat d) μ := by
  simp only [DL.rIx, e_rdC, hm, e_rdCl, e_rdD, e, Option.some.injEq, exists_eq_left', e_eltC]
theorem rix_l {j : Int} {d : PyData} {μ : Mu} {Q : DQ} {ds : List PyData} (e : atI ds j = some d) : DL.rIx (.dat (.list ds)) (.dat (.int j)) μ Q = Q (.dat d) μ := by
  simp only [DL.rIx, e_rdD, e, Option.some.injEq, exists_eq_left', e_eltD]
theorem wrl_c {k m : Nat} {j : Int} {x : PyData} {μ : Mu} {R : Mu → Prop} {ds : List PyData} (hm : μ[k]? = some (.lst ds)) (e : ixN ds.length j = some m) : wrL (.cell k) (.dat (.int j)) (.dat x) μ R = R (μ.set k (.lst (ds.set m x))) := by
  simp only [e_wrL, hm, e, Option.some.injEq, exists_eq_left']
theorem atI_lt {ds : List PyData} {j : Int} (h0 : 0 ≤ j) (h : j < ds.length) : ∃ d, d ∈ ds ∧ atI ds j = some d := by
  have hj : j.toNat < ds.length := by omega
  refine ⟨ds[j.toNat], List.getElem_mem hj, ?_⟩
  have := atI_nat (List.getElem?_eq_getElem hj)
  rwa [Int.toNat_of_nonneg h0] at this
theorem pu_law_is_ratio : Pure ["value", "one"] 1 ph_law_is_ratio ds_law_is_ratio := by
  intro ss μ Q' hl h
  obtain ⟨n, u, rfl, ⟨s1, s2⟩, h⟩ := h
  have al : ∀ (ν : Mu) (Q : DQ), fAll [.dat (.list [.bool true, .bool true])] ν Q = Q (.dat (.bool true)) ν := fun ν Q => allR (bs := [true, true])
  have ty : isTy .tup (rat n u) = true := rfl
  have it : ∀ (μ : Mu) (R : List Sl → (Mu → Prop) → Mu → Prop) (r : Rho), iSeq (dVar 0) (some (.dat (rat n u)) :: r) μ R = R [.dat (.int n), .dat (.int u)] (fun _ => True) μ := fun _ _ _ => rfl
  by_cases c : 0 < u
  · have c2 : 1 ≤ u := by omega
    simpa [ds_law_is_ratio, startD, ty, ↓it, dLc, dLcQ, wipeD, lcD, dYes, isW, addTo, frzQ, al, c, s1, s2, IsR, c2, show 0 < sizeLine from by decide, show 1 < sizeLine from by decide] using h
  · have c2 : ¬ 1 ≤ u := by omega
    simpa [ds_law_is_ratio, startD, ty, ↓it, dLc, dLcQ, wipeD, lcD, dYes, isW, addTo, frzQ, al, c, s1, s2, IsR, c2, show 0 < sizeLine from by decide, show 1 < sizeLine from by decide] using h
theorem pu_law_pick : Pure ["pot", "some"] 2 ph_law_pick ds_law_pick := by
  intro ss μ Q' hl h
  obtain ⟨k, ds, rfl, hp, hs, h⟩ := h
  simp [ds_law_pick, startD, hp, hs]
  refine ⟨by omega, fun x μ' h0 h1 hp' hl' => ?_⟩
  obtain ⟨d, hd, e⟩ := atI_lt h0 h1
  rw [rix_l e]
  simp [← hl']
  exact h d μ' hd hp' hl'
instance (i j : Int) : Decidable (CPow i j) := inferInstanceAs (Decidable (_ ∧ _))
theorem cp18 : CPow 10 18 := by decide
theorem sm_abs {k : Nat} {x : Int} (h : -(2 ^ k) < x) (g : x < 2 ^ k) : Sm k x := by
  unfold Sm
  have : (x.natAbs : Int) < ((2 ^ k : Nat) : Int) := by
    have : ((2 ^ k : Nat) : Int) = 2 ^ k := by simp
    rw [this]
    omega
  exact Int.ofNat_lt.mp this
theorem pot_end {ns : List Int} {μ : Mu} {Q' : DQ} {k cell : Int} (hk : 0 ≤ k ∧ k ≤ 100) (h : ∀ p0 p1 : Int, 0 ≤ p0 → 0 ≤ p1 → p1 < 2 ^ 40 → Q' (.cell μ.length) (μ ++ [.lst [.int p0, .int p1]])) :
    CMulW (cell.fmod 2147483477) 41777 ∧ CMulW 7393 k ∧ Q' (.cell μ.length) (μ ++ [.lst [.int (if 1000000000000000000 < cell then cell - 1000000000000000000 else 0), .int ((cell.fmod 2147483477 * 41777 + 7393 * k + 991).fmod 2147483579 + 1)]]) := by
  have f1 := fmod_lt (a := cell) (b := 2147483477) (by decide)
  have f2 := fmod_lt (a := cell.fmod 2147483477 * 41777 + 7393 * k + 991) (b := 2147483579) (by decide)
  refine ⟨(sm_of (k := 40) f1.1 (by omega)).cmul (k := 40) (by decide) (by decide) (by decide), Sm.cmul (j := 40) (k := 40) (by decide) (sm_of hk.1 (by omega)) (by decide) (by decide), h _ _ ?_ ?_ ?_⟩
  · split <;> omega
  · omega
  · omega
theorem pu_law_pot : Pure ["script", "k", "cell"] 2 ph_law_pot ds_law_pot := by
  intro ss μ Q' hl h
  obtain ⟨ns, k, rfl, hk, h⟩ := h
  by_cases c : k < ns.length
  · obtain ⟨x, hx⟩ : ∃ x, atI (ns.map PyData.int) k = some (.int x) := by
      obtain ⟨d, hd, e⟩ := atI_lt (ds := ns.map PyData.int) hk.1 (by simpa using c)
      obtain ⟨x, _, rfl⟩ := List.mem_map.mp hd
      exact ⟨x, e⟩
    have E := pot_end (ns := ns) (cell := if x < 0 then -x else x) hk h
    simp [ds_law_pot, startD, cp18, c, rix_l hx]
    exact ⟨E.1, E.2.1, .inr E.2.2⟩
  · have E := pot_end (ns := ns) (cell := 1259 * k + 1009) hk h
    simp [ds_law_pot, startD, cp18, c]
    exact ⟨Sm.cmul (j := 40) (k := 40) (by decide) (sm_of hk.1 (by omega)) (by decide) (by decide), E.1, E.2.1, .inr E.2.2⟩
theorem pu_law_draw : Pure ["pot", "size", "digit"] 2 ph_law_draw ds_law_draw := by
  intro ss μ Q' hl h
  obtain ⟨k, n, rfl, ⟨p0, p1, hm, h0, h1, h2⟩, hn, h⟩ := h
  have hk : k < μ.length := (List.getElem?_eq_some_iff.mp hm).1
  have hn0 : n ≠ 0 := by omega
  have i0 : ∀ Q, DL.rIx (.cell k) (.dat (.int 0)) μ Q = Q (.dat (.int p0)) μ := fun Q => rix_c hm rfl
  have i1 : ∀ Q, DL.rIx (.cell k) (.dat (.int 1)) μ Q = Q (.dat (.int p1)) μ := fun Q => rix_c hm rfl
  by_cases c : 0 < p0
  · have cd : CDm p0 n := ⟨hn.1, (Nat.log2_lt (by omega)).mpr ((sm_of (k := 100) (by omega) hn.2).mono (k := 9000) (by decide))⟩
    have w0 : ∀ R, wrL (.cell k) (.dat (.int 0)) (.dat (.int (p0 / n))) μ R = R (μ.set k (.lst [.int (p0 / n), .int p1])) := fun R => wrl_c (m := 0) hm rfl
    simp [ds_law_draw, startD, i0, c, cd, w0]
    rw [List.take_of_length_le (by simp)]
    exact h _ _ (Int.emod_nonneg _ hn0) (Int.emod_lt_of_pos _ hn.1) ⟨_, _, List.getElem?_set_self hk, Int.ediv_nonneg h0 (by omega), h1, h2⟩ (by simp)
  · have f1 := fmod_lt (a := p1 * 41141 + 31627) (b := 2147483579) (by decide)
    generalize hp : (p1 * 41141 + 31627).fmod 2147483579 = y at f1
    have w1 : ∀ R, wrL (.cell k) (.dat (.int 1)) (.dat (.int y)) μ R = R (μ.set k (.lst [.int p0, .int y])) := fun R => wrl_c (m := 1) hm rfl
    have hm2 : (μ.set k (.lst [.int p0, .int y]))[k]? = some (.lst [.int p0, .int y]) := List.getElem?_set_self hk
    have i2 : ∀ Q, DL.rIx (.cell k) (.dat (.int 1)) (μ.set k (.lst [.int p0, .int y])) Q = Q (.dat (.int y)) (μ.set k (.lst [.int p0, .int y])) := fun Q => rix_c hm2 rfl
    have c1 : CMulW p1 41141 := (sm_of h1 h2).cmul (k := 40) (by decide) (by decide) (by decide)
    have sy : Sm 40 y := sm_of f1.1 (by omega)
    have c2 : CMulW y y := sy.cmul sy (by decide) (by decide)
    have c3 : ∀ i, CDv i 23 := fun i => Sm.cdv (k := 40) (by decide) (by decide) (by decide)
    simp [ds_law_draw, startD, i0, i1, c, c1, hp, w1, i2, c2, c3, hn0]
    rw [List.take_of_length_le (by simp)]
    have f3 := fmod_lt (a := ((y * y).fmod 2147483477).fdiv 23) hn.1
    exact h _ _ f3.1 f3.2 ⟨_, _, hm2, h0, f1.1, by omega⟩ (by simp)
theorem pu_law_number : Pure ["pot", "number"] 1 ph_law_number ds_law_number := by
  intro ss μ Q' hl h
  obtain ⟨k, rfl, hp, h⟩ := h
  simp [ds_law_number, startD, hp]
  intro x μ1 x0 x1 hp1 hl1
  refine ⟨by decide, by decide, by decide, hp1, fun y μ2 hy hp2 hl2 => ?_⟩
  have sx : Sm 5 (x - 12) := sm_abs (by omega) (by omega)
  have key : ∀ i : Int, Sm 34 i → rMul (.dat (.int (x - 12))) (.dat (.int i)) μ2 (finQ μ.length Q') := fun i hi => by
    have := h _ μ2 ((sx.mul hi).mono (k := 60) (by decide)) hp2 (hl2.trans hl1)
    simpa [sx.cmul hi, ← hl1, ← hl2] using this
  rcases hy with rfl | rfl | rfl | rfl <;> exact key _ (by decide)
theorem pu_law_drawn : Pure ["pot"] 1 ph_law_drawn ds_law_drawn := by
  intro ss μ Q' hl h
  obtain ⟨k, rfl, hp, h⟩ := h
  simp [ds_law_drawn, startD, hp]
  intro n μ1 sn hp1 hl1
  refine ⟨hp1, fun x μ2 x0 x1 hp2 hl2 => ⟨by decide, by decide, hp2, fun y μ3 hy hp3 hl3 => ?_⟩⟩
  have sx : Sm 5 x := sm_of x0 (by omega)
  have key : ∀ i : Int, 0 ≤ i → Sm 34 i → rMul (.dat (.int x)) (.dat (.int i)) μ3 fun y μ2 => DL.rAdd (.dat (.int 1)) y μ2 fun s μ1 => ph_law_ratio [.dat (.int n), s] μ1 (finQ μ.length Q') := fun i i0 hi => by
    have p : 0 ≤ x * i := Int.mul_nonneg x0 i0
    have u0 : 1 + x * i ≠ 0 := by omega
    have su : Sm 40 (1 + x * i) := (Sm.add (k := 39) (by decide) (sx.mul hi)).mono (by decide)
    have := h _ _ μ3 (red_isR (n := n) u0) (redN_sm sn) ((redD_sm su).mono (by decide)) hp3 (hl3.trans (hl2.trans hl1))
    simpa [sx.cmul hi, u0, sn.mono, su.mono, ← hl1, ← hl2, ← hl3, red] using this
  rcases hy with rfl | rfl <;> exact key _ (by decide) (by decide)
theorem pu_law_is_worth : Pure ["told", "number", "under"] 3 ph_law_is_worth ds_law_is_worth := by
  intro ss μ Q' hl h
  obtain ⟨p, q, n, u, rfl, ⟨⟨s1, s2, s3, s4⟩, hr, e⟩, h⟩ := h
  have cm : ∀ {a b : Int}, Sm 8000 a → Sm 8000 b → CMulW a b := fun h g => h.cmul g (by decide) (by decide)
  simpa [ds_law_is_worth, startD, hr, e, s1, s2, s3, s4, cm] using h
end K12
namespace K12
open PySem PySem.Spec PyProof.Rows L2 Evl DL
theorem Sms.mono {j k : Nat} {a b c d : Int} (h : Sms j a b c d) (hk : j ≤ k) : Sms k a b c d := ⟨h.1.mono hk, h.2.1.mono hk, h.2.2.1.mono hk, h.2.2.2.mono hk⟩
theorem int_if (x y : Int) : (if y < x then (1 : Int) else 0) - (if x < y then (1 : Int) else 0) = cmpI x y := by
  unfold cmpI
  split <;> split <;> split <;> omega
theorem int_if2 (x y : Int) : (if decide (y < x) = true then (1 : Int) else 0) - (if decide (x < y) = true then (1 : Int) else 0) = cmpI x y := by
  rw [← int_if]
  simp
theorem cmp_neg (x y : Int) : cmpI y x = -cmpI x y := by
  unfold cmpI
  repeat' split
  all_goals omega
theorem cmp_self (x : Int) : cmpI x x = 0 := if_pos rfl
theorem cmp_cases (x y : Int) : cmpI x y = 0 ∨ cmpI x y = 1 ∨ cmpI x y = -1 := by
  unfold cmpI
  repeat' split
  all_goals simp
theorem rep_ok {x : Int} (h : x = 0 ∨ x = 1 ∨ x = -1) : okR (.list [.int x, .int (-x), .int 0]) := by
  rcases h with rfl | rfl | rfl <;> exact ⟨by decide +kernel, .inl (by decide +kernel), by decide +kernel, by decide +kernel⟩
theorem o_repr {d : PyData} {μ : Mu} {Q : DQ} (h : okR d) : fRepr [.dat d] μ Q = Q (.dat (.str d.shown)) μ := propext ⟨fun z => z.2, fun z => ⟨h, z⟩⟩
section
variable {a b c d : Int} (h1 : IsR a b) (h2 : IsR c d)
theorem t_self {n u : Int} (hu : u ≠ 0) {p q : Int} (h : IsR p q) (e : n * q = p * u) : red n u = rat p q := red_self h hu e
include h1 h2
theorem t_back : red (redN (a * d + c * b) (b * d) * d - c * redD (a * d + c * b) (b * d)) (redD (a * d + c * b) (b * d) * d) = rat a b := by
  have u0 := mul_ne h1.ne h2.ne
  have v := red_val (a * d + c * b) (b * d)
  have r := red_isR (n := a * d + c * b) u0
  generalize redN (a * d + c * b) (b * d) = p at *
  generalize redD (a * d + c * b) (b * d) = q at *
  refine red_self h1 (mul_ne r.ne h2.ne) ?_
  have := h2.ne
  grind
theorem t_over (hc : c ≠ 0) : red (redN (a * d) (b * c) * c) (redD (a * d) (b * c) * d) = rat a b := by
  have u0 := mul_ne h1.ne hc
  have v := red_val (a * d) (b * c)
  have r := red_isR (n := a * d) u0
  generalize redN (a * d) (b * c) = p at *
  generalize redD (a * d) (b * c) = q at *
  refine red_self h1 (mul_ne r.ne h2.ne) ?_
  grind
end
theorem isR01 : IsR 0 1 := by decide
theorem isR11 : IsR 1 1 := by decide
theorem red_inj {n u p q : Int} (h : red n u = rat p q) : redN n u = p ∧ redD n u = q := rat_inj h
theorem pu_law_pair_right : Pure ["near", "far", "a", "b", "c", "d", "due", "told"] 2 ph_law_pair_right ds_law_pair_right := by
  intro ss μ Q' hl h
  obtain ⟨a, b, c, d, rfl, ⟨h1, h2, sm⟩, h⟩ := h
  obtain ⟨s1, s2, s3, s4⟩ := sm
  have t1 := s1.mono (k := 2000) (by decide)
  have t2 := s2.mono (k := 2000) (by decide)
  have t3 := s3.mono (k := 2000) (by decide)
  have t4 := s4.mono (k := 2000) (by decide)
  have m1 : Sms 2000 a b c d := ⟨t1, t2, t3, t4⟩
  have m2 : Sms 2000 c d a b := ⟨t3, t4, t1, t2⟩
  have m3 : Sms 2000 a b a b := ⟨t1, t2, t1, t2⟩
  have m4 : Sms 2000 c d c d := ⟨t3, t4, t3, t4⟩
  have x1 : Sm 121 (a * d + c * b) := (s1.mul s4).add (s3.mul s2)
  have x2 : Sm 121 (a * d - c * b) := (s1.mul s4).sub (s3.mul s2)
  have x3 : Sm 121 (b * d) := (s2.mul s4).mono (by decide)
  have x4 : Sm 121 (a * c) := (s1.mul s3).mono (by decide)
  have x5 : Sm 121 (a * d) := (s1.mul s4).mono (by decide)
  have x6 : Sm 121 (b * c) := (s2.mul s3).mono (by decide)
  have u0 := mul_ne h1.ne h2.ne
  have pl := red_isR (n := a * d + c * b) u0
  have mi := red_isR (n := a * d - c * b) u0
  have ti := red_isR (n := a * c) u0
  have w : ∀ {n u : Int}, Sm 121 n → Sm 121 u → Sms 8000 (redN n u) (redD n u) n u := fun h g => ⟨(redN_sm h).mono (by decide), (redD_sm g).mono (by decide), h.mono (by decide), g.mono (by decide)⟩
  have w1 := w x1 x3
  have w2 := w x2 x3
  have w3 := w x4 x3
  have w4 := w x5 x6
  have e1 : redN (c * b + a * d) (d * b) = redN (a * d + c * b) (b * d) := by rw [Int.add_comm, Int.mul_comm d b]
  have e2 : redD (c * b + a * d) (d * b) = redD (a * d + c * b) (b * d) := by rw [Int.add_comm, Int.mul_comm d b]
  have m5 : Sms 2000 (redN (a * d + c * b) (b * d)) (redD (a * d + c * b) (b * d)) c d := ⟨(redN_sm x1).mono (by decide), (redD_sm x3).mono (by decide), t3, t4⟩
  obtain ⟨b1, b2⟩ := red_inj (t_back h1 h2)
  obtain ⟨z1, z2⟩ := red_inj (red_self isR01 (mul_ne h1.ne h1.ne) (n := 0) (u := b * b) (by omega))
  have k1 : cmpI (c * b) (a * d) = -cmpI (a * d) (c * b) := cmp_neg _ _
  have k2 := int_if (a * d) (c * b)
  have k3 := cmp_self (a * b)
  have ok := rep_ok (cmp_cases (a * d) (c * b))
  by_cases hc : c = 0
  · simpa [ds_law_pair_right, startD, t1, t2, t3, t4, cm2, big2, kp, red, h1, h2, m1, m2, m3, m5, w1, w2, w3, pl, mi, ti, red_val, e1, e2, b1, b2, z1, z2, k1, k2, k3, o_repr ok, eq_true hc, show 3 ≤ sizeLine from by decide] using h
  · have u2 := mul_ne h1.ne hc
    have ov := red_isR (n := a * d) u2
    have m6 : Sms 2000 (redN (a * d) (b * c)) (redD (a * d) (b * c)) c d := ⟨(redN_sm x5).mono (by decide), (redD_sm x6).mono (by decide), t3, t4⟩
    obtain ⟨b3, b4⟩ := red_inj (t_over h1 h2 hc)
    obtain ⟨z3, z4⟩ := red_inj (red_self isR11 (mul_ne h2.ne hc) (n := c * d) (u := d * c) (by rw [Int.mul_comm c d]; omega))
    simpa [ds_law_pair_right, startD, t1, t2, t3, t4, cm2, big2, kp, red, h1, h2, m1, m2, m3, m4, m5, m6, w1, w2, w3, w4, pl, mi, ti, ov, red_val, e1, e2, b1, b2, b3, b4, z1, z2, z3, z4, k1, k2, k3, o_repr ok, hc, show 3 ≤ sizeLine from by decide] using h
theorem fdiv_le {a b : Int} (hb : 0 < b) : a.fdiv b * b ≤ a ∧ a < (a.fdiv b + 1) * b := by
  have e := Int.mul_fdiv_add_fmod a b
  have f := fmod_lt (a := a) hb
  have : (a.fdiv b + 1) * b = b * a.fdiv b + b := by grind
  have : a.fdiv b * b = b * a.fdiv b := Int.mul_comm _ _
  omega
theorem ceil_le {a b : Int} (hb : 0 < b) : (-(-a).fdiv b - 1) * b < a ∧ a ≤ -(-a).fdiv b * b := by
  have f := fdiv_le (a := -a) hb
  have e1 : (-(-a).fdiv b - 1) * b = -(((-a).fdiv b + 1) * b) := by grind
  have e2 : -(-a).fdiv b * b = -((-a).fdiv b * b) := by grind
  omega
theorem fc_iff {a b : Int} (h : IsR a b) : (-(-a).fdiv b = a.fdiv b) ↔ b = 1 := by
  have hb : 0 < b := by have := h.1; omega
  have f := fdiv_le (a := a) hb
  have g := ceil_le (a := a) hb
  constructor
  · intro e
    rw [e] at g
    have ea : a = a.fdiv b * b := by omega
    have : b ∣ a := ⟨a.fdiv b, by rw [Int.mul_comm]; exact ea⟩
    have c := h.2
    have d1 : (b.natAbs) ∣ Nat.gcd a.natAbs b.natAbs := Nat.dvd_gcd (Int.natAbs_dvd_natAbs.mpr this) (Nat.dvd_refl _)
    have c1 : Nat.gcd a.natAbs b.natAbs = 1 := Int.ofNat.inj c
    rw [c1] at d1
    have := Nat.dvd_one.mp d1
    omega
  · intro e
    subst e
    rw [Int.mul_one] at f g
    omega
theorem pu_law_one_right : Pure ["near", "low", "high"] 1 ph_law_one_right ds_law_one_right := by
  intro ss μ Q' hl h
  obtain ⟨a, b, rfl, ⟨h1, s1, s2⟩, h⟩ := h
  have hb : 0 < b := by have := h1.1; omega
  obtain ⟨f1, f2⟩ := fdiv_le (a := a) hb
  obtain ⟨g1, g2⟩ := ceil_le (a := a) hb
  have fc : decide (-(-a).fdiv b = a.fdiv b) = decide (b = 1) := decide_eq_decide.mpr (fc_iff h1)
  have q1 : Sm 60 (a.fdiv b) := fdiv_sm s1
  have q2 : Sm 60 (-(-a).fdiv b) := (fdiv_sm s1.neg).neg
  have cm : ∀ {x y : Int}, Sm 61 x → Sm 61 y → CMulW x y := fun h g => h.cmul g (by decide) (by decide)
  have v1 := cm (q1.mono (by decide)) (s2.mono (by decide))
  have v2 := cm (q1.add (y := 1) (by decide)) (s2.mono (by decide))
  have v3 := cm (q2.sub (y := 1) (by decide)) (s2.mono (by decide))
  have v4 := cm (q2.mono (by decide)) (s2.mono (by decide))
  simpa [ds_law_one_right, startD, kp, isW, h1, s2.mono, f1, g1, g2, v1, v2, v3, v4, Int.not_le.mpr f2, fc] using h
theorem pu_law : Pure ["script", "pot", "turn", "near", "far", "number", "under", "told", "great"] 1 ph_law ds_law := by
  intro ss μ Q' hl h
  obtain ⟨ns, hn, rfl, rfl, h⟩ := h
  simp [ds_law, startD, dFor, iRg1]
  intro p0 p1 h0 h1 h2
  generalize hX : some (Sl.dat (PyData.list (ns.map PyData.int))) = X
  have hp : Pot [Cell.lst [PyData.int p0, PyData.int p1]] 0 := ⟨p0, p1, rfl, h0, h1, h2⟩
  have hl : [Cell.lst [PyData.int p0, PyData.int p1]].length = 1 := rfl
  generalize [Cell.lst [PyData.int p0, PyData.int p1]] = μ at hp hl
  generalize rgI 0 6 = ts
  suffices key : ∀ (ts : List Sl) (x2 x3 x4 x5 x6 x7 x8 : Option Sl) (μ : Mu), Pot μ 0 → μ.length = 1 → forD _ _ _ _ ts [X, some (.cell 0), x2, x3, x4, x5, x6, x7, x8] μ from key ts _ _ _ _ _ _ _ μ hp hl
  intro ts
  induction ts with
  | nil =>
    intro x2 x3 x4 x5 x6 x7 x8 μ hp hl
    have a1 : CPow 10 39 := by decide +kernel
    have a2 : CPow 10 38 := by decide +kernel
    have i1 : IsR 1000000000000000000000000000000000000001 2 := by decide +kernel
    have i2 : IsR 1000000000000000000000000000000000000000 1 := by decide +kernel
    have i3 : IsR 1000000000000000000000000000000000000001 1 := by decide +kernel
    have i4 : IsR 1 2 := by decide +kernel
    have b1 : Sm 2000 1000000000000000000000000000000000000000 := Sm.mono (j := 200) (by decide +kernel) (by decide)
    have b2 : Sm 2000 1000000000000000000000000000000000000001 := Sm.mono (j := 200) (by decide +kernel) (by decide)
    have b3 : Sm 2000 2 := Sm.mono (j := 200) (by decide +kernel) (by decide)
    have b4 : Sm 2000 1 := Sm.mono (j := 200) (by decide +kernel) (by decide)
    have b5 : Sm 8000 (-5) := Sm.mono (j := 200) (by decide +kernel) (by decide)
    have m0 : CMulW 5 100000000000000000000000000000000000000 := Sm.cmul (j := 200) (k := 200) (by decide +kernel) (by decide +kernel) (by decide) (by decide)
    have m1 : Sms 2000 1000000000000000000000000000000000000000 1 1000000000000000000000000000000000000001 1 := ⟨b1, b4, b2, b4⟩
    have m2 : Sms 2000 1000000000000000000000000000000000000001 2 1 2 := ⟨b2, b3, b4, b3⟩
    have c1 : cmpI 1000000000000000000000000000000000000000 1000000000000000000000000000000000000001 = -1 := by decide +kernel
    have r1 : red 2000000000000000000000000000000000000000 4 = rat 500000000000000000000000000000000000000 1 := red_self (by decide +kernel) (by decide) (by decide)
    have r2 : red 0 (-5) = rat 0 1 := red_self (by decide +kernel) (by decide) (by decide)
    have r3 : red 5 (-5) = rat (-1) 1 := red_self (by decide +kernel) (by decide) (by decide)
    simpa [forD, a1, a2, i1, i2, i3, i4, b3, b5, m0, m1, m2, c1, r1, r2, r3, hl] using h
  | cons t ts ih =>
    intro x2 x3 x4 x5 x6 x7 x8 μ hp hl
    simp [forD, hp]
    intro n u μ1 r1 s1 s2 p1 l1
    refine ⟨p1, fun n2 u2 μ2 r2 s3 s4 p2 l2 => ⟨⟨r1, r2, s1, s2, s3, s4⟩, ⟨r1, s1, s2⟩, p2, fun n3 μ3 s5 p3 l3 => ⟨p3, fun n4 μ4 s6 p4 l4 => ?_⟩⟩⟩
    have l : μ4.length = 1 := by omega
    by_cases c : n4 = 0
    · rw [if_pos c]
      exact ih _ _ _ _ _ _ _ _ p4 l
    · rw [if_neg c]
      have t1 := red_isR (n := n3) c
      have t2 : Sms 8000 (redN n3 n4) (redD n3 n4) n3 n4 := ⟨(redN_sm s5).mono (by decide), (redD_sm s6).mono (by decide), s5.mono (by decide), s6.mono (by decide)⟩
      have := fun y2 y3 y4 y5 y6 y7 y8 => ih y2 y3 y4 y5 y6 y7 y8 μ4 p4 l
      simpa [kp, c, s5.mono, s6.mono, red, t1, t2, red_val] using this _ _ _ _ _ _ _
end K12
namespace K12
open PySem PySem.Spec PyProof.Rows L2 Evl DL
theorem all_law {P : Program} {w : World} {K : PySem.W.Frag} {mg : Str → Option Value} {fa : Addr} (hfa : mg "law" = some (.ref fa)) (m_is_integer : ∃ f fd, Fun K "is_integer" "is_integer" s_is_integer f fd ∧ mg "is_integer" = some (.ref f)) (m_is_tuple_of : ∃ f fd, Fun K "is_tuple_of" "is_tuple_of" s_is_tuple_of f fd ∧ mg "is_tuple_of" = some (.ref f)) (m_is_ratio : ∃ f fd, Fun K "is_ratio" "is_ratio" s_is_ratio f fd ∧ mg "is_ratio" = some (.ref f)) (m_check_integer : ∃ f fd, Fun K "check_integer" "check_integer" s_check_integer f fd ∧ mg "check_integer" = some (.ref f)) (m_check_ratio : ∃ f fd, Fun K "check_ratio" "check_ratio" s_check_ratio f fd ∧ mg "check_ratio" = some (.ref f)) (m_check_ratios : ∃ f fd, Fun K "check_ratios" "check_ratios" s_check_ratios f fd ∧ mg "check_ratios" = some (.ref f)) (m_reduced : ∃ f fd, Fun K "reduced" "reduced" s_reduced f fd ∧ mg "reduced" = some (.ref f)) (m_made : ∃ f fd, Fun K "made" "made" s_made f fd ∧ mg "made" = some (.ref f)) (m_plus : ∃ f fd, Fun K "plus" "plus" s_plus f fd ∧ mg "plus" = some (.ref f)) (m_minus : ∃ f fd, Fun K "minus" "minus" s_minus f fd ∧ mg "minus" = some (.ref f)) (m_times : ∃ f fd, Fun K "times" "times" s_times f fd ∧ mg "times" = some (.ref f)) (m_over : ∃ f fd, Fun K "over" "over" s_over f fd ∧ mg "over" = some (.ref f)) (m_compared : ∃ f fd, Fun K "compared" "compared" s_compared f fd ∧ mg "compared" = some (.ref f)) (m_floor_of : ∃ f fd, Fun K "floor_of" "floor_of" s_floor_of f fd ∧ mg "floor_of" = some (.ref f)) (m_ceiling_of : ∃ f fd, Fun K "ceiling_of" "ceiling_of" s_ceiling_of f fd ∧ mg "ceiling_of" = some (.ref f)) (m_law_pot : ∃ f fd, Fun K "_law_pot" "_law_pot" s_law_pot f fd ∧ mg "_law_pot" = some (.ref f)) (m_law_draw : ∃ f fd, Fun K "_law_draw" "_law_draw" s_law_draw f fd ∧ mg "_law_draw" = some (.ref f)) (m_law_pick : ∃ f fd, Fun K "_law_pick" "_law_pick" s_law_pick f fd ∧ mg "_law_pick" = some (.ref f)) (m_law_common : ∃ f fd, Fun K "_law_common" "_law_common" s_law_common f fd ∧ mg "_law_common" = some (.ref f)) (m_law_ratio : ∃ f fd, Fun K "_law_ratio" "_law_ratio" s_law_ratio f fd ∧ mg "_law_ratio" = some (.ref f)) (m_law_is_whole : ∃ f fd, Fun K "_law_is_whole" "_law_is_whole" s_law_is_whole f fd ∧ mg "_law_is_whole" = some (.ref f)) (m_law_is_ratio : ∃ f fd, Fun K "_law_is_ratio" "_law_is_ratio" s_law_is_ratio f fd ∧ mg "_law_is_ratio" = some (.ref f)) (m_law_number : ∃ f fd, Fun K "_law_number" "_law_number" s_law_number f fd ∧ mg "_law_number" = some (.ref f)) (m_law_drawn : ∃ f fd, Fun K "_law_drawn" "_law_drawn" s_law_drawn f fd ∧ mg "_law_drawn" = some (.ref f)) (m_law_is_worth : ∃ f fd, Fun K "_law_is_worth" "_law_is_worth" s_law_is_worth f fd ∧ mg "_law_is_worth" = some (.ref f)) (m_law_pair_right : ∃ f fd, Fun K "_law_pair_right" "_law_pair_right" s_law_pair_right f fd ∧ mg "_law_pair_right" = some (.ref f)) (m_law_one_right : ∃ f fd, Fun K "_law_one_right" "_law_one_right" s_law_one_right f fd ∧ mg "_law_one_right" = some (.ref f)) (m_law : ∃ f fd, Fun K "law" "law" s_law f fd ∧ mg "law" = some (.ref f)) (z_abs : mg "abs" = none) (z_all : mg "all" = none) (z_bool : mg "bool" = none) (z_divmod : mg "divmod" = none) (z_gcd : mg "gcd" = some (.builtin "math.gcd")) (z_int : mg "int" = none) (z_isinstance : mg "isinstance" = none) (z_len : mg "len" = none) (z_max : mg "max" = none) (z_range : mg "range" = none) (z_repr : mg "repr" = none) (z_tuple : mg "tuple" = none) :
    ∃ fd : FuncData, (∀ (s : Shared) (u : Value), BindsTo s fd ⟨[u], []⟩ [("script", u)]) ∧ ∀ base : Heap, FnG P w K mg base CX0 7 fa fd ["script"] (SpD K 1 lawF) := by
  obtain ⟨f, fd, F, hf⟩ := m_law
  cases hfa.symm.trans hf
  refine ⟨fd, ?_, fun base => ?_⟩
  · obtain ⟨oc, od, kV, doc, pm, an, cdv, ct, osl, rfl, lk, hcd⟩ := F.ex
    exact fun s v => .of_eq rfl
  have o_is_integer := ow_is_integer (P := P) (w := w) (base := base) m_is_integer z_bool z_int z_isinstance  pu_is_integer
  have o_is_tuple_of := ow_is_tuple_of (P := P) (w := w) (base := base) m_is_tuple_of z_isinstance z_len z_tuple  pu_is_tuple_of
  have o_reduced := ow_reduced (P := P) (w := w) (base := base) m_reduced z_gcd  pu_reduced
  have o_law_pot := ow_law_pot (P := P) (w := w) (base := base) m_law_pot z_abs z_int z_len z_max  pu_law_pot
  have o_law_draw := ow_law_draw (P := P) (w := w) (base := base) m_law_draw z_divmod z_int  pu_law_draw
  have o_law_common := ow_law_common (P := P) (w := w) (base := base) m_law_common z_abs  pu_law_common
  have o_law_is_whole := ow_law_is_whole (P := P) (w := w) (base := base) m_law_is_whole z_bool z_int z_isinstance  pu_law_is_whole
  have o_is_ratio := ow_is_ratio (P := P) (w := w) (base := base) m_is_ratio z_gcd o_is_integer o_is_tuple_of pu_is_ratio
  have o_check_integer := ow_check_integer (P := P) (w := w) (base := base) m_check_integer  o_is_integer pu_check_integer
  have o_law_pick := ow_law_pick (P := P) (w := w) (base := base) m_law_pick z_len o_law_draw pu_law_pick
  have o_law_ratio := ow_law_ratio (P := P) (w := w) (base := base) m_law_ratio  o_law_common pu_law_ratio
  have o_law_is_ratio := ow_law_is_ratio (P := P) (w := w) (base := base) m_law_is_ratio z_all z_isinstance z_len z_tuple o_law_common o_law_is_whole pu_law_is_ratio
  have o_check_ratio := ow_check_ratio (P := P) (w := w) (base := base) m_check_ratio  o_is_ratio pu_check_ratio
  have o_made := ow_made (P := P) (w := w) (base := base) m_made  o_check_integer o_reduced pu_made
  have o_law_number := ow_law_number (P := P) (w := w) (base := base) m_law_number  o_law_draw o_law_pick pu_law_number
  have o_law_is_worth := ow_law_is_worth (P := P) (w := w) (base := base) m_law_is_worth  o_law_is_ratio pu_law_is_worth
  have o_check_ratios := ow_check_ratios (P := P) (w := w) (base := base) m_check_ratios  o_check_ratio pu_check_ratios
  have o_floor_of := ow_floor_of (P := P) (w := w) (base := base) m_floor_of  o_check_ratio pu_floor_of
  have o_ceiling_of := ow_ceiling_of (P := P) (w := w) (base := base) m_ceiling_of  o_check_ratio pu_ceiling_of
  have o_law_drawn := ow_law_drawn (P := P) (w := w) (base := base) m_law_drawn  o_law_draw o_law_pick o_law_ratio o_law_number pu_law_drawn
  have o_plus := ow_plus (P := P) (w := w) (base := base) m_plus  o_check_ratios o_reduced pu_plus
  have o_minus := ow_minus (P := P) (w := w) (base := base) m_minus  o_check_ratios o_reduced pu_minus
  have o_times := ow_times (P := P) (w := w) (base := base) m_times  o_check_ratios o_reduced pu_times
  have o_over := ow_over (P := P) (w := w) (base := base) m_over  o_check_ratios o_reduced pu_over
  have o_compared := ow_compared (P := P) (w := w) (base := base) m_compared  o_check_ratios pu_compared
  have o_law_one_right := ow_law_one_right (P := P) (w := w) (base := base) m_law_one_right  o_floor_of o_ceiling_of o_law_is_whole pu_law_one_right
  have o_law_pair_right := ow_law_pair_right (P := P) (w := w) (base := base) m_law_pair_right z_int z_repr o_plus o_minus o_times o_over o_compared o_law_is_worth pu_law_pair_right
  exact fn_law F z_range o_is_ratio o_made o_minus o_compared o_floor_of o_ceiling_of o_law_pot o_law_ratio o_law_number o_law_drawn o_law_is_worth o_law_pair_right o_law_one_right pu_law
end K12
open PySem PySem.W PyProof.Rows
set_option maxHeartbeats 0 in
theorem PySem.Challenge.cw_wishways_k12_whole_ratios_reckoned_holds : PySem.Challenge.rw_wishways_k12_whole_ratios_reckoned.Holds := by
  w_on; o_law; k_head; (case hw => w_witness2)
  k_fill
  refine DL.walkG (l := PySem.Challenge.rw_wishways_k12_whole_ratios_reckoned) (n := 63) (k := 7) (x := "script") (sp := fun K => DL.SpD K 1 DL.lawF) rfl (by decide) rfl ⟨⟨rfl, by decide, by decide⟩, rfl⟩ (fun w h Y => PySem.W.kIn_of Y) ?F (fun K H a ns hl hS => DL.law_spD K H a ns hl hS)
  case F =>
    intro w mg fa h KX G hmg
    refine' DL.step_of (x := "is_integer") (st := K12.s_is_integer) KX G ?a ?l ?c ?k (fun m_is_integer => ?_)
    (case a => k_is); (case l => k_is); (case c => k_is); (case k => k_is)
    refine' DL.step_of (x := "is_tuple_of") (st := K12.s_is_tuple_of) KX G ?a ?l ?c ?k (fun m_is_tuple_of => ?_)
    (case a => k_is); (case l => k_is); (case c => k_is); (case k => k_is)
    refine' DL.step_of (x := "is_ratio") (st := K12.s_is_ratio) KX G ?a ?l ?c ?k (fun m_is_ratio => ?_)
    (case a => k_is); (case l => k_is); (case c => k_is); (case k => k_is)
    refine' DL.step_of (x := "check_integer") (st := K12.s_check_integer) KX G ?a ?l ?c ?k (fun m_check_integer => ?_)
    (case a => k_is); (case l => k_is); (case c => k_is); (case k => k_is)
    refine' DL.step_of (x := "check_ratio") (st := K12.s_check_ratio) KX G ?a ?l ?c ?k (fun m_check_ratio => ?_)
    (case a => k_is); (case l => k_is); (case c => k_is); (case k => k_is)
    refine' DL.step_of (x := "check_ratios") (st := K12.s_check_ratios) KX G ?a ?l ?c ?k (fun m_check_ratios => ?_)
    (case a => k_is); (case l => k_is); (case c => k_is); (case k => k_is)
    refine' DL.step_of (x := "reduced") (st := K12.s_reduced) KX G ?a ?l ?c ?k (fun m_reduced => ?_)
    (case a => k_is); (case l => k_is); (case c => k_is); (case k => k_is)
    refine' DL.step_of (x := "made") (st := K12.s_made) KX G ?a ?l ?c ?k (fun m_made => ?_)
    (case a => k_is); (case l => k_is); (case c => k_is); (case k => k_is)
    refine' DL.step_of (x := "plus") (st := K12.s_plus) KX G ?a ?l ?c ?k (fun m_plus => ?_)
    (case a => k_is); (case l => k_is); (case c => k_is); (case k => k_is)
    refine' DL.step_of (x := "minus") (st := K12.s_minus) KX G ?a ?l ?c ?k (fun m_minus => ?_)
    (case a => k_is); (case l => k_is); (case c => k_is); (case k => k_is)
    refine' DL.step_of (x := "times") (st := K12.s_times) KX G ?a ?l ?c ?k (fun m_times => ?_)
    (case a => k_is); (case l => k_is); (case c => k_is); (case k => k_is)
    refine' DL.step_of (x := "over") (st := K12.s_over) KX G ?a ?l ?c ?k (fun m_over => ?_)
    (case a => k_is); (case l => k_is); (case c => k_is); (case k => k_is)
    refine' DL.step_of (x := "compared") (st := K12.s_compared) KX G ?a ?l ?c ?k (fun m_compared => ?_)
    (case a => k_is); (case l => k_is); (case c => k_is); (case k => k_is)
    refine' DL.step_of (x := "floor_of") (st := K12.s_floor_of) KX G ?a ?l ?c ?k (fun m_floor_of => ?_)
    (case a => k_is); (case l => k_is); (case c => k_is); (case k => k_is)
    refine' DL.step_of (x := "ceiling_of") (st := K12.s_ceiling_of) KX G ?a ?l ?c ?k (fun m_ceiling_of => ?_)
    (case a => k_is); (case l => k_is); (case c => k_is); (case k => k_is)
    refine' DL.step_of (x := "_law_pot") (st := K12.s_law_pot) KX G ?a ?l ?c ?k (fun m_law_pot => ?_)
    (case a => k_is); (case l => k_is); (case c => k_is); (case k => k_is)
    refine' DL.step_of (x := "_law_draw") (st := K12.s_law_draw) KX G ?a ?l ?c ?k (fun m_law_draw => ?_)
    (case a => k_is); (case l => k_is); (case c => k_is); (case k => k_is)
    refine' DL.step_of (x := "_law_pick") (st := K12.s_law_pick) KX G ?a ?l ?c ?k (fun m_law_pick => ?_)
    (case a => k_is); (case l => k_is); (case c => k_is); (case k => k_is)
    refine' DL.step_of (x := "_law_common") (st := K12.s_law_common) KX G ?a ?l ?c ?k (fun m_law_common => ?_)
    (case a => k_is); (case l => k_is); (case c => k_is); (case k => k_is)
    refine' DL.step_of (x := "_law_ratio") (st := K12.s_law_ratio) KX G ?a ?l ?c ?k (fun m_law_ratio => ?_)
    (case a => k_is); (case l => k_is); (case c => k_is); (case k => k_is)
    refine' DL.step_of (x := "_law_is_whole") (st := K12.s_law_is_whole) KX G ?a ?l ?c ?k (fun m_law_is_whole => ?_)
    (case a => k_is); (case l => k_is); (case c => k_is); (case k => k_is)
    refine' DL.step_of (x := "_law_is_ratio") (st := K12.s_law_is_ratio) KX G ?a ?l ?c ?k (fun m_law_is_ratio => ?_)
    (case a => k_is); (case l => k_is); (case c => k_is); (case k => k_is)
    refine' DL.step_of (x := "_law_number") (st := K12.s_law_number) KX G ?a ?l ?c ?k (fun m_law_number => ?_)
    (case a => k_is); (case l => k_is); (case c => k_is); (case k => k_is)
    refine' DL.step_of (x := "_law_drawn") (st := K12.s_law_drawn) KX G ?a ?l ?c ?k (fun m_law_drawn => ?_)
    (case a => k_is); (case l => k_is); (case c => k_is); (case k => k_is)
    refine' DL.step_of (x := "_law_is_worth") (st := K12.s_law_is_worth) KX G ?a ?l ?c ?k (fun m_law_is_worth => ?_)
    (case a => k_is); (case l => k_is); (case c => k_is); (case k => k_is)
    refine' DL.step_of (x := "_law_pair_right") (st := K12.s_law_pair_right) KX G ?a ?l ?c ?k (fun m_law_pair_right => ?_)
    (case a => k_is); (case l => k_is); (case c => k_is); (case k => k_is)
    refine' DL.step_of (x := "_law_one_right") (st := K12.s_law_one_right) KX G ?a ?l ?c ?k (fun m_law_one_right => ?_)
    (case a => k_is); (case l => k_is); (case c => k_is); (case k => k_is)
    refine' DL.step_of (x := "law") (st := K12.s_law) KX G ?a ?l ?c ?k (fun m_law => ?_)
    (case a => k_is); (case l => k_is); (case c => k_is); (case k => k_is)
    have z_abs : mg "abs" = none := by
      refine' PySem.W.mg_none_of KX G ?a
      (case a => k_is)
    have z_all : mg "all" = none := by
      refine' PySem.W.mg_none_of KX G ?a
      (case a => k_is)
    have z_bool : mg "bool" = none := by
      refine' PySem.W.mg_none_of KX G ?a
      (case a => k_is)
    have z_divmod : mg "divmod" = none := by
      refine' PySem.W.mg_none_of KX G ?a
      (case a => k_is)
    have z_gcd : mg "gcd" = some (.builtin "math.gcd") := by
      refine' PySem.W.mg_of KX G ?a
      (case a => k_is)
    have z_int : mg "int" = none := by
      refine' PySem.W.mg_none_of KX G ?a
      (case a => k_is)
    have z_isinstance : mg "isinstance" = none := by
      refine' PySem.W.mg_none_of KX G ?a
      (case a => k_is)
    have z_len : mg "len" = none := by
      refine' PySem.W.mg_none_of KX G ?a
      (case a => k_is)
    have z_max : mg "max" = none := by
      refine' PySem.W.mg_none_of KX G ?a
      (case a => k_is)
    have z_range : mg "range" = none := by
      refine' PySem.W.mg_none_of KX G ?a
      (case a => k_is)
    have z_repr : mg "repr" = none := by
      refine' PySem.W.mg_none_of KX G ?a
      (case a => k_is)
    have z_tuple : mg "tuple" = none := by
      refine' PySem.W.mg_none_of KX G ?a
      (case a => k_is)
    obtain ⟨fd, hb, hF⟩ := K12.all_law hmg m_is_integer m_is_tuple_of m_is_ratio m_check_integer m_check_ratio m_check_ratios m_reduced m_made m_plus m_minus m_times m_over m_compared m_floor_of m_ceiling_of m_law_pot m_law_draw m_law_pick m_law_common m_law_ratio m_law_is_whole m_law_is_ratio m_law_number m_law_drawn m_law_is_worth m_law_pair_right m_law_one_right m_law z_abs z_all z_bool z_divmod z_gcd z_int z_isinstance z_len z_max z_range z_repr z_tuple
    exact ⟨fd, hb, fun base _ _ => hF base⟩
