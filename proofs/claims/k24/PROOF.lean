import PyProof.Rows.All
import Wide.All
import OpenK.AllK
import Wide.FinOn
import HandS.ForMost
import HandS.Evl
import HandS.Exc
import HandS.IsInst
import HandS.Zip
import HandS.Gcd
import HandS.Wide
import HandS.WideBits
import HandS.Deep
import HandS.TupAny
import HandS.TupMul
import HandS.TupLe
import HandS.Style
import PyProof.ReprRoads
import PyProof.CallFns
import KE.DataEq
import KE.SortData
import KE.DataMinMax
import HandS.SortOrd
import HandS.Conv
import HandS.DictTup
import HandS.More
import PyProof.AutoSeq1
import HandS.DictComp
import KE.GoesEnum
import HandS.Flow
import KE.KEqDict
import KE.KDictZip
import KE.KDictItemsList
import KE.KTupSum
import HandS.ExcInit
import HandS.ExcField
import HandS.ExcOwn
import HandS.WordsExc
import HandS.ExcIs
import HandS.TupSets
import KE.GoesZip
import PyProof.Rows.IntBool
import HandS.SetFor
import KE.KDictCopyH
import PyProof.ReprLen
import PySem.Challenge.RW_wishways_k24_whole_uncrossing
set_option Elab.async false
set_option linter.all false
set_option maxRecDepth 100000
set_option maxHeartbeats 4000000
namespace DL
open PySem PySem.Spec PyProof.Rows L2 Evl
mutual
inductive Dv (K : PySem.W.Frag) (H : Hp) : V → PyData → Prop
  | non : Dv K H .non .none
  | bl (b : Bool) : Dv K H (.bl b) (.bool b)
  | int (i : Int) : Dv K H (.int i) (.int i)
  | str (z : Str) : Dv K H (.str z) (.str z)
  | lst {p : Addr} {vs : List V} {ds : List PyData} : SqL K H p vs → DvAll K H vs ds → Dv K H (.ref p) (.list ds)
  | tup {p : Addr} {vs : List V} {ds : List PyData} : SqT K H p vs → DvAll K H vs ds → Dv K H (.ref p) (.tuple ds)
  | emp {p : Addr} : H p = some (.dK []) → Dv K H (.ref p) (.dict [])
inductive DvAll (K : PySem.W.Frag) (H : Hp) : List V → List PyData → Prop
  | nil : DvAll K H [] []
  | cons {v : V} {vs : List V} {d : PyData} {ds : List PyData} : Dv K H v d → DvAll K H vs ds → DvAll K H (v :: vs) (d :: ds)
end
mutual
theorem Dv.dp {K : PySem.W.Frag} {H : Hp} : ∀ (d : PyData) (v : V), Dv K H v d → d.canLay0 = true → L2.Dp K H v d
  | .none, _, h, _ => by cases h; exact .non
  | .bool _, _, h, _ => by cases h; exact .bl _
  | .int _, _, h, _ => by cases h; exact .int _
  | .str _, _, h, _ => by cases h; exact .str _
  | .list ds, _, h, c => by
    cases h with
    | lst hs ha => exact .lst hs (DvAll.dp ds _ ha (by simpa [PyData.canLay0] using c))
  | .tuple ds, _, h, c => by
    cases h with
    | tup hs ha => exact .tup hs (DvAll.dp ds _ ha (by simpa [PyData.canLay0] using c))
  | .dict _, _, _, c => by simp [PyData.canLay0] at c
theorem DvAll.dp {K : PySem.W.Frag} {H : Hp} : ∀ (ds : List PyData) (vs : List V), DvAll K H vs ds → PyData.canLayAll0 ds = true → L2.DpAll K H vs ds
  | [], _, h, _ => by cases h; exact .nil
  | d :: ds, _, h, c => by
    have c' : d.canLay0 = true ∧ PyData.canLayAll0 ds = true := by simpa [PyData.canLayAll0] using c
    cases h with
    | cons h1 h2 => exact .cons (Dv.dp d _ h1 c'.1) (DvAll.dp ds _ h2 c'.2)
end
theorem Dv.dpS {K : PySem.W.Frag} {H : Hp} {v : V} {d : PyData} (h : Dv K H v d) (c : SeqAt.shaped d = true) : L2.Dp K H v d := Dv.dp d v h (SeqAt.canLay_of_shaped c)
section
variable {X : Cx} {pins : List (Addr × Obj)} {σ : L2.St} {H : Hp} {s : Shared}
theorem dict_reads (I : Inv X pins σ H s) {p : Addr} (h : H p = some (.dK [])) : Reads s.heap (.ref p) (.dict []) [p] ∧ p ≠ sysModules := by
  obtain ⟨_, ne, vs, kv, o, es, ep, ho, hx, hd, _, hp, _⟩ := I.hok p _ h
  cases kv
  have e : es.toList = [] := List.eq_nil_of_length_eq_zero hp.length
  refine ⟨Reads.dict (as := []) (bs := []) ho hx.1 hd (by rw [e]; exact .nil) (by rw [e]; exact .nil), fun z => ?_⟩
  subst z
  simp at ne
mutual
theorem Dv.reads (I : Inv X pins σ H s) : ∀ (d : PyData) (v : V) (u : Value), Dv X.K H v d → RelV v u → ∃ as, Reads s.heap u d as
  | .none, _, _, h, r => by cases h; cases r; exact ⟨_, Reads.none⟩
  | .bool b, _, _, h, r => by cases h; cases r; exact ⟨_, Reads.bool b⟩
  | .int i, _, _, h, r => by cases h; obtain ⟨t, rfl⟩ := r; exact ⟨_, Reads.int i t⟩
  | .str x, _, _, h, r => by cases h; obtain ⟨t, rfl⟩ := r; exact ⟨_, Reads.str x t⟩
  | .list ds, _, _, h, r => by
    cases h with
    | lst hs ha =>
      cases r
      have ⟨its, rv, q, _⟩ := I.list hs
      have ⟨o, n, ho, hc, _, hd⟩ := q
      have ⟨as, hr⟩ := Dv.readsAll I ds _ its ha rv
      exact ⟨_, Reads.list ho hc hd hr⟩
  | .tuple ds, _, _, h, r => by
    cases h with
    | tup hs ha =>
      cases r
      have ⟨its, rv, q, _⟩ := I.tuple hs
      have ⟨o, ho, hc, n, hd⟩ := q
      have ⟨as, hr⟩ := Dv.readsAll I ds _ its ha rv
      exact ⟨_, Reads.tuple ho hc hd hr⟩
  | .dict _, _, _, h, r => by
    cases h with
    | emp hs => cases r; exact ⟨_, (dict_reads I hs).1⟩
theorem Dv.readsAll (I : Inv X pins σ H s) : ∀ (ds : List PyData) (vs : List V) (us : List Value), DvAll X.K H vs ds → Vals vs us → ∃ as, ReadsAll s.heap us ds as
  | [], _, _, h, r => by cases h; cases r; exact ⟨_, ReadsAll.nil⟩
  | d :: ds, _, _, h, r => by
    cases h with
    | cons h1 h2 =>
      cases r with
      | cons r1 r2 =>
        have ⟨as, q1⟩ := Dv.reads I d _ _ h1 r1
        have ⟨bs, q2⟩ := Dv.readsAll I ds _ _ h2 r2
        exact ⟨_, ReadsAll.cons q1 q2⟩
end
end
mutual
theorem dp_mono {K : PySem.W.Frag} {H H' : Hp} (e : Ex H H') : ∀ (d : PyData) (v : V), Dv K H v d → Dv K H' v d
  | .none, _, h => by cases h; exact .non
  | .bool _, _, h => by cases h; exact .bl _
  | .int _, _, h => by cases h; exact .int _
  | .str _, _, h => by cases h; exact .str _
  | .list ds, _, h => by
    cases h with
    | lst hs ha => exact .lst (ex_l e hs) (dpAll_mono e ds _ ha)
  | .tuple ds, _, h => by
    cases h with
    | tup hs ha => exact .tup (ex_t e hs) (dpAll_mono e ds _ ha)
  | .dict _, _, h => by
    cases h with
    | emp hs => exact .emp (e _ _ hs)
theorem dpAll_mono {K : PySem.W.Frag} {H H' : Hp} (e : Ex H H') : ∀ (ds : List PyData) (vs : List V), DvAll K H vs ds → DvAll K H' vs ds
  | [], _, h => by cases h; exact .nil
  | d :: ds, _, h => by
    cases h with
    | cons h1 h2 => exact .cons (dp_mono e d _ h1) (dpAll_mono e ds _ h2)
end
section
variable {K : PySem.W.Frag} {H H' : Hp}
theorem Dv.mono {v : V} {d : PyData} (h : Dv K H v d) (e : Ex H H') : Dv K H' v d := dp_mono e d v h
theorem DvAll.mono {vs : List V} {ds : List PyData} (h : DvAll K H vs ds) (e : Ex H H') : DvAll K H' vs ds := dpAll_mono e ds vs h
theorem DvAll.length : ∀ {vs : List V} {ds : List PyData}, DvAll K H vs ds → vs.length = ds.length
  | _, _, .nil => rfl
  | _, _, .cons _ t => by simp [DvAll.length t]
theorem DvAll.app : ∀ {vs us : List V} {ds es : List PyData}, DvAll K H vs ds → DvAll K H us es → DvAll K H (vs ++ us) (ds ++ es)
  | _, _, _, _, .nil, h => h
  | _, _, _, _, .cons a t, h => .cons a (DvAll.app t h)
theorem DvAll.get : ∀ {vs : List V} {ds : List PyData} {i : Nat} {d : PyData}, DvAll K H vs ds → ds[i]? = some d → ∃ v, vs[i]? = some v ∧ Dv K H v d
  | _, _, _, _, .nil, e => by simp at e
  | _, _, 0, _, .cons a _, e => by simp at e; subst e; exact ⟨_, rfl, a⟩
  | _, _, i + 1, d, .cons _ t, e => by
    obtain ⟨v, h1, h2⟩ := DvAll.get (i := i) (d := d) t (by simpa using e)
    exact ⟨v, by simpa using h1, h2⟩
theorem DvAll.get' : ∀ {vs : List V} {ds : List PyData} {i : Nat} {v : V}, DvAll K H vs ds → vs[i]? = some v → ∃ d, ds[i]? = some d ∧ Dv K H v d
  | _, _, _, _, .nil, e => by simp at e
  | _, _, 0, _, .cons a _, e => by simp at e; subst e; exact ⟨_, rfl, a⟩
  | _, _, i + 1, d, .cons _ t, e => by
    obtain ⟨v, h1, h2⟩ := DvAll.get' (i := i) (v := d) t (by simpa using e)
    exact ⟨v, by simpa using h1, h2⟩
theorem DvAll.set : ∀ {vs : List V} {ds : List PyData} {v : V} {d : PyData} (i : Nat), DvAll K H vs ds → Dv K H v d → DvAll K H (vs.set i v) (ds.set i d)
  | _, _, _, _, _, .nil, _ => .nil
  | _, _, _, _, 0, .cons _ t, h => .cons h t
  | _, _, _, _, i + 1, .cons a t, h => .cons a (DvAll.set i t h)
theorem DvAll.take : ∀ {vs : List V} {ds : List PyData} (n : Nat), DvAll K H vs ds → DvAll K H (vs.take n) (ds.take n)
  | _, _, 0, _ => by simp; exact .nil
  | _, _, _ + 1, .nil => .nil
  | _, _, n + 1, .cons a t => .cons a (DvAll.take n t)
theorem DvAll.drop : ∀ {vs : List V} {ds : List PyData} (n : Nat), DvAll K H vs ds → DvAll K H (vs.drop n) (ds.drop n)
  | _, _, 0, r => r
  | _, _, _ + 1, .nil => .nil
  | _, _, n + 1, .cons _ t => DvAll.drop n t
theorem DvAll.rev : ∀ {vs : List V} {ds : List PyData}, DvAll K H vs ds → DvAll K H vs.reverse ds.reverse
  | _, _, .nil => .nil
  | _, _, .cons a t => by
    rw [List.reverse_cons, List.reverse_cons]
    exact (DvAll.rev t).app (.cons a .nil)
theorem DvAll.ints : ∀ (is : List Int), DvAll K H (is.map V.int) (is.map PyData.int)
  | [] => .nil
  | i :: is => .cons (.int i) (DvAll.ints is)
theorem DvAll.of_ints : ∀ (is : List Int) {vs : List V}, DvAll K H vs (is.map PyData.int) → vs = is.map V.int
  | [], _, h => by cases h; rfl
  | i :: is, _, h => by
    cases h with
    | cons a t =>
      cases a
      rw [DvAll.of_ints is t]
      rfl
theorem DvAll.of_bools : ∀ (is : List Bool) {vs : List V}, DvAll K H vs (is.map PyData.bool) → vs = is.map V.bl
  | [], _, h => by cases h; rfl
  | i :: is, _, h => by
    cases h with
    | cons a t =>
      cases a
      rw [DvAll.of_bools is t]
      rfl
end
inductive Sl where
  | dat (d : PyData)
  | vw (d : PyData)
  | cell (k : Nat)
  | raw (es : List (Nat ⊕ PyData))
inductive Cell where
  | lst (ds : List PyData)
  | dct (kvs : List (Key × PyData))
  | dctT (kvs : List (List Key × PyData))
  | gone
abbrev Rho := List (Option Sl)
abbrev Mu := List Cell
structure Wd where
  G : Hp
  F : Hp
  ad : List Addr
structure Le (W W' : Wd) : Prop where
  g : Ex W.G W'.G
  f : Ex W.F W'.F
  n : ∀ b, W.F b ≠ none → W.G b = none → (∀ xs, W.F b ≠ some (.tup xs)) → W'.G b = none
  a : ∀ (k : Nat) (x : Addr), W.ad[k]? = some x → W'.ad[k]? = some x
theorem Le.refl (W : Wd) : Le W W := ⟨Ex.refl _, Ex.refl _, fun _ _ h _ => h, fun _ _ h => h⟩
theorem Le.trans {W W1 W2 : Wd} (a : Le W W1) (b : Le W1 W2) : Le W W2 :=
  ⟨a.g.trans b.g, a.f.trans b.f, fun x h1 h2 h3 => b.n x (fun z => by
      cases q : W.F x with
      | none => exact h1 q
      | some o => rw [a.f x o q] at z; cases z) (a.n x h1 h2 h3) (fun xs z => by
      cases q : W.F x with
      | none => exact h1 q
      | some o => rw [a.f x o q] at z; cases z; exact h3 xs q), fun k x h => b.a k x (a.a k x h)⟩
def CellOk (K : PySem.W.Frag) (G : Hp) : HO → Cell → Prop
  | .lst xs, .lst ds => DvAll K G xs ds
  | .dK kvs, .dct es => Paired (fun (p : Key × V) (q : Key × PyData) => p.1 = q.1 ∧ Dv K G p.2 q.2) kvs es
  | .dT kvs, .dctT es => Paired (fun (p : List Key × V) (q : List Key × PyData) => p.1 = q.1 ∧ Dv K G p.2 q.2) kvs es
  | _, .gone => False
  | _, _ => False
theorem CellOk.mono {K : PySem.W.Frag} {G G' : Hp} (e : Ex G G') {o : HO} {c : Cell} (h : CellOk K G o c) : CellOk K G' o c := by
  cases c with
  | gone => cases o <;> exact False.elim h
  | lst ds => cases o <;> first | exact DvAll.mono (show DvAll K G _ ds from h) e | exact False.elim h
  | dct es => cases o <;> first | exact Paired.mapP (show Paired _ _ es from h) (fun p q z => ⟨z.1, z.2.mono e⟩) | exact False.elim h
  | dctT es => cases o <;> first | exact Paired.mapP (show Paired _ _ es from h) (fun p q z => ⟨z.1, z.2.mono e⟩) | exact False.elim h
structure Rep (K : PySem.W.Frag) (W : Wd) (H : Hp) (μ : Mu) : Prop where
  gf : Ex W.G W.F
  fh : Ex W.F H
  len : W.ad.length = μ.length
  nd : ∀ (i j : Nat) (a : Addr), W.ad[i]? = some a → W.ad[j]? = some a → i = j
  cell : ∀ (k : Nat) (a : Addr) (c : Cell), W.ad[k]? = some a → μ[k]? = some c → W.F a = none ∧ ∃ o, H a = some o ∧ CellOk K W.G o c
theorem Rep.gh {K : PySem.W.Frag} {W : Wd} {H : Hp} {μ : Mu} (r : Rep K W H μ) : Ex W.G H := r.gf.trans r.fh
def ItOk1 (K : PySem.W.Frag) (W : Wd) (v : V) : Nat ⊕ PyData → Prop
  | .inl k => ∃ a, W.ad[k]? = some a ∧ v = .ref a
  | .inr d => Dv K W.G v d
theorem ItOk1.mono {K : PySem.W.Frag} {W W' : Wd} (l : Le W W') {v : V} {e : Nat ⊕ PyData} (h : ItOk1 K W v e) : ItOk1 K W' v e := by
  cases e with
  | inl k => obtain ⟨a, h1, h2⟩ := h; exact ⟨a, l.a k a h1, h2⟩
  | inr d => exact Dv.mono (show Dv K W.G v d from h) l.g
def RefsAll (K : PySem.W.Frag) (W : Wd) (xs : List V) (es : List (Nat ⊕ PyData)) : Prop := xs.length = es.length ∧ ∀ (i : Nat) (e : Nat ⊕ PyData), es[i]? = some e → ∃ u, xs[i]? = some u ∧ ItOk1 K W u e
theorem RefsAll.le {K : PySem.W.Frag} {W W' : Wd} {xs : List V} {es : List (Nat ⊕ PyData)} (h : RefsAll K W xs es) (l : Le W W') : RefsAll K W' xs es := ⟨h.1, fun i e z => let ⟨u, z1, z2⟩ := h.2 i e z; ⟨u, z1, z2.mono l⟩⟩
def SlOk (K : PySem.W.Frag) (W : Wd) (v : V) : Sl → Prop
  | .dat d => Dv K W.G v d
  | .vw d => Dv K W.F v d
  | .cell k => ∃ a, W.ad[k]? = some a ∧ v = .ref a
  | .raw es => ∃ p xs, v = .ref p ∧ W.F p = some (.lst xs) ∧ RefsAll K W xs es
theorem SlOk.mono {K : PySem.W.Frag} {W W' : Wd} (l : Le W W') {v : V} {s : Sl} (h : SlOk K W v s) : SlOk K W' v s := by
  cases s with
  | dat d => exact Dv.mono (show Dv K W.G v d from h) l.g
  | vw d => exact Dv.mono (show Dv K W.F v d from h) l.f
  | cell k => obtain ⟨a, h1, h2⟩ := h; exact ⟨a, l.a k a h1, h2⟩
  | raw es => obtain ⟨p, xs, h1, h2, h3⟩ := h; exact ⟨p, xs, h1, l.f _ _ h2, h3.le l⟩
inductive SlAll (K : PySem.W.Frag) (W : Wd) : List V → List Sl → Prop
  | nil : SlAll K W [] []
  | cons {v : V} {vs : List V} {s : Sl} {ss : List Sl} : SlOk K W v s → SlAll K W vs ss → SlAll K W (v :: vs) (s :: ss)
theorem SlAll.mono {K : PySem.W.Frag} {W W' : Wd} (l : Le W W') : ∀ {vs : List V} {ss : List Sl}, SlAll K W vs ss → SlAll K W' vs ss
  | _, _, .nil => .nil
  | _, _, .cons a t => .cons (a.mono l) (SlAll.mono l t)
theorem SlAll.length {K : PySem.W.Frag} {W : Wd} : ∀ {vs : List V} {ss : List Sl}, SlAll K W vs ss → vs.length = ss.length
  | _, _, .nil => rfl
  | _, _, .cons _ t => by simp [SlAll.length t]
theorem SlAll.get {K : PySem.W.Frag} {W : Wd} : ∀ {vs : List V} {ss : List Sl} {i : Nat} {s : Sl}, SlAll K W vs ss → ss[i]? = some s → ∃ v, vs[i]? = some v ∧ SlOk K W v s
  | _, _, _, _, .nil, e => by simp at e
  | _, _, 0, _, .cons a _, e => by simp at e; subst e; exact ⟨_, rfl, a⟩
  | _, _, i + 1, d, .cons _ t, e => by
    obtain ⟨v, h1, h2⟩ := SlAll.get (i := i) (s := d) t (by simpa using e)
    exact ⟨v, by simpa using h1, h2⟩
structure EnvOk (K : PySem.W.Frag) (W : Wd) (σ : L2.St) (ρ : Rho) : Prop where
  len : σ.length = ρ.length
  get : ∀ (i : Nat) (s : Sl), ρ[i]? = some (some s) → ∃ v, σ[i]? = some (some v) ∧ SlOk K W v s
theorem EnvOk.mono {K : PySem.W.Frag} {W W' : Wd} {σ : L2.St} {ρ : Rho} (h : EnvOk K W σ ρ) (l : Le W W') : EnvOk K W' σ ρ :=
  ⟨h.len, fun i s e => let ⟨v, h1, h2⟩ := h.get i s e; ⟨v, h1, h2.mono l⟩⟩
theorem EnvOk.set {K : PySem.W.Frag} {W : Wd} {σ : L2.St} {ρ : Rho} (h : EnvOk K W σ ρ) (i : Nat) {v : V} {s : Sl} (hs : SlOk K W v s) : EnvOk K W (σ.set i (some v)) (ρ.set i (some s)) := by
  refine ⟨by simp [h.len], fun j t e => ?_⟩
  by_cases hij : i = j
  · subst hij
    have hl : i < ρ.length := by
      have := (List.getElem?_eq_some_iff.mp e).1
      simpa using this
    rw [List.getElem?_set_self hl] at e
    cases e
    refine ⟨v, ?_, hs⟩
    rw [List.getElem?_set_self (by rw [h.len]; exact hl)]
  · rw [List.getElem?_set_ne hij] at e
    obtain ⟨w, h1, h2⟩ := h.get j t e
    refine ⟨w, ?_, h2⟩
    rw [List.getElem?_set_ne hij]
    exact h1
def rdC : Option Cell → Option PyData
  | some (.lst ds) => some (.list ds)
  | _ => none
def rd (μ : Mu) : Sl → Option PyData
  | .dat d => some d
  | .vw d => some d
  | .cell k => rdC μ[k]?
  | .raw _ => none
def mkVw : PyData → Sl
  | .none => .dat .none
  | .bool b => .dat (.bool b)
  | .int i => .dat (.int i)
  | .str z => .dat (.str z)
  | d => .vw d
def isV : Sl → Bool
  | .vw _ => true
  | _ => false
def mk (b : Bool) (d : PyData) : Sl := if b then mkVw d else .dat d
def elt (s : Sl) (d : PyData) : Sl := mk (isV s) d
def bh (W : Wd) (b : Bool) : Hp := if b then W.F else W.G
theorem slOk_mkVw {K : PySem.W.Frag} {W : Wd} {v : V} {d : PyData} (h : Dv K W.F v d) : SlOk K W v (mkVw d) := by
  cases d with
  | none => cases h; exact Dv.non
  | bool b => cases h; exact Dv.bl b
  | int i => cases h; exact Dv.int i
  | str z => cases h; exact Dv.str z
  | list ds => exact h
  | tuple ds => exact h
  | dict kvs => exact h
section
variable {K : PySem.W.Frag} {W : Wd} {H : Hp} {μ : Mu} {v : V} {s : Sl} {d : PyData}
theorem rd_dp (r : Rep K W H μ) (h : SlOk K W v s) (e : rd μ s = some d) : Dv K H v d := by
  cases s with
  | dat d' => cases e; exact Dv.mono (show Dv K W.G v _ from h) r.gh
  | vw d' => cases e; exact Dv.mono (show Dv K W.F v _ from h) r.fh
  | raw w => cases e
  | cell k =>
    obtain ⟨a, h1, rfl⟩ := h
    replace e : rdC μ[k]? = _ := e
    cases q : μ[k]? with
    | none => rw [q] at e; cases e
    | some c =>
      rw [q] at e
      cases c with
      | lst ds =>
        cases e
        obtain ⟨_, o, ho, hc⟩ := r.cell k a _ h1 q
        cases o <;> first | exact False.elim hc | skip
        exact .lst (.inl (.inl ho)) (DvAll.mono hc r.gh)
      | dct es => cases e
      | dctT es => cases e
      | gone => cases e
theorem slOk_mk {b : Bool} (h : Dv K (bh W b) v d) : SlOk K W v (mk b d) := by
  cases b with
  | true => exact slOk_mkVw h
  | false => exact h
theorem bh_ff {b : Bool} (e : Ex W.G W.F) : Ex (bh W b) W.F := by
  cases b with
  | true => exact Ex.refl _
  | false => exact e
theorem bh_or1 {b c : Bool} (e : Ex W.G W.F) : Ex (bh W b) (bh W (b || c)) := by
  cases b with
  | true => exact Ex.refl _
  | false =>
    cases c with
    | true => exact e
    | false => exact Ex.refl _
theorem bh_or2 {b c : Bool} (e : Ex W.G W.F) : Ex (bh W c) (bh W (b || c)) := by
  rw [Bool.or_comm]
  exact bh_or1 e
theorem bh_le {W' : Wd} (l : Le W W') (b : Bool) : Ex (bh W b) (bh W' b) := by
  cases b with
  | true => exact l.f
  | false => exact l.g
def Its (K : PySem.W.Frag) (W : Wd) (s : Sl) (xs : List V) (ds : List PyData) : Prop := DvAll K (bh W (isV s)) xs ds
theorem Its.get {xs : List V} {ds : List PyData} {i : Nat} (h : Its K W s xs ds) (e : ds[i]? = some d) : ∃ v, xs[i]? = some v ∧ SlOk K W v (elt s d) := by
  obtain ⟨v, h1, h2⟩ := DvAll.get h e
  exact ⟨v, h1, slOk_mk h2⟩
theorem Its.length {xs : List V} {ds : List PyData} (h : Its K W s xs ds) : xs.length = ds.length := DvAll.length h
theorem Its.mono {W' : Wd} (l : Le W W') {xs : List V} {ds : List PyData} (h : Its K W s xs ds) : Its K W' s xs ds := DvAll.mono h (bh_le l _)
theorem rd_lst {ds : List PyData} (r : Rep K W H μ) (h : SlOk K W v s) (e : rd μ s = some (.list ds)) : ∃ a xs, v = .ref a ∧ SqL K H a xs ∧ Its K W s xs ds := by
  cases s with
  | dat d' =>
    cases e
    cases (show Dv K W.G v (.list ds) from h) with
    | lst hs ha => exact ⟨_, _, rfl, ex_l r.gh hs, ha⟩
  | vw d' =>
    cases e
    cases (show Dv K W.F v (.list ds) from h) with
    | lst hs ha => exact ⟨_, _, rfl, ex_l r.fh hs, ha⟩
  | raw w => cases e
  | cell k =>
    obtain ⟨a, h1, rfl⟩ := h
    replace e : rdC μ[k]? = _ := e
    cases q : μ[k]? with
    | none => rw [q] at e; cases e
    | some c =>
      rw [q] at e
      cases c with
      | lst ds' =>
        cases e
        obtain ⟨_, o, ho, hc⟩ := r.cell k a _ h1 q
        cases o <;> first | exact False.elim hc | skip
        exact ⟨a, _, rfl, .inl (.inl ho), hc⟩
      | dct es => cases e
      | dctT es => cases e
      | gone => cases e
theorem rd_tup {ds : List PyData} (r : Rep K W H μ) (h : SlOk K W v s) (e : rd μ s = some (.tuple ds)) : ∃ a xs, v = .ref a ∧ SqT K H a xs ∧ Its K W s xs ds := by
  cases s with
  | dat d' =>
    cases e
    cases (show Dv K W.G v (.tuple ds) from h) with
    | tup hs ha => exact ⟨_, _, rfl, ex_t r.gh hs, ha⟩
  | vw d' =>
    cases e
    cases (show Dv K W.F v (.tuple ds) from h) with
    | tup hs ha => exact ⟨_, _, rfl, ex_t r.fh hs, ha⟩
  | raw w => cases e
  | cell k =>
    replace e : rdC μ[k]? = _ := e
    cases q : μ[k]? with
    | none => rw [q] at e; cases e
    | some c => rw [q] at e; cases c <;> cases e
theorem rd_int {i : Int} (r : Rep K W H μ) (h : SlOk K W v s) (e : rd μ s = some (.int i)) : v = .int i := by cases rd_dp r h e; rfl
theorem rd_bool {i : Bool} (r : Rep K W H μ) (h : SlOk K W v s) (e : rd μ s = some (.bool i)) : v = .bl i := by cases rd_dp r h e; rfl
theorem rd_str {i : Str} (r : Rep K W H μ) (h : SlOk K W v s) (e : rd μ s = some (.str i)) : v = .str i := by cases rd_dp r h e; rfl
theorem rd_none (r : Rep K W H μ) (h : SlOk K W v s) (e : rd μ s = some .none) : v = .non := by cases rd_dp r h e; rfl
end
def Wd.new (W : Wd) (p : Addr) (o : HO) : Wd := ⟨upd W.G p o, upd W.F p o, W.ad⟩
section
variable {K : PySem.W.Frag} {W : Wd} {H : Hp} {μ : Mu} {p : Addr} {o : HO}
theorem Rep.fresh (r : Rep K W H μ) (hp : H p = none) : W.F p = none ∧ W.G p = none := by
  have h1 := fresh_back r.fh hp
  exact ⟨h1, fresh_back r.gf h1⟩
theorem Le.new (r : Rep K W H μ) (hp : H p = none) : Le W (W.new p o) := by
  obtain ⟨h1, h2⟩ := r.fresh hp
  refine ⟨Ex.new h2, Ex.new h1, fun b hb hg _ => ?_, fun _ _ h => h⟩
  show upd W.G p o b = none
  rw [upd_ne (show b ≠ p from fun z => hb (z ▸ h1))]
  exact hg
theorem ex_upd {A B : Hp} (e : Ex A B) : Ex (upd A p o) (upd B p o) := fun a u h => by
  by_cases q : a = p
  · subst q; rw [upd_same] at h ⊢; exact h
  · rw [upd_ne q] at h ⊢; exact e a u h
theorem Rep.new (r : Rep K W H μ) (hp : H p = none) : Rep K (W.new p o) (upd H p o) μ := by
  obtain ⟨h1, h2⟩ := r.fresh hp
  refine ⟨ex_upd r.gf, ex_upd r.fh, r.len, r.nd, fun k a c ha hc => ?_⟩
  obtain ⟨q1, o', q2, q3⟩ := r.cell k a c ha hc
  have ne : a ≠ p := fun z => by rw [z, hp] at q2; cases q2
  refine ⟨?_, o', ?_, q3.mono (Ex.new h2)⟩
  · show upd W.F p o a = none
    rw [upd_ne ne]; exact q1
  · rw [upd_ne ne]; exact q2
end
end DL
namespace DL
open PySem PySem.Spec PyProof.Rows L2 Evl
abbrev DQ := Sl → Mu → Prop
abbrev DE := Rho → Mu → DQ → Prop
abbrev DT := Rho → Mu → (Bool → Mu → Prop) → Prop
abbrev DA := Rho → Mu → (List Sl → Mu → Prop) → Prop
structure DEnds where
  nx : Rho → Mu → Prop
  rt : Sl → Mu → Prop
  bk : Rho → Mu → Prop := fun _ _ => False
  ct : Rho → Mu → Prop := fun _ _ => False
abbrev DS := DEnds → Rho → Mu → Prop
section
variable (K : PySem.W.Frag)
def VOk (W : Wd) (Q' : DQ) (Q : VK) : Prop := ∀ v s W' H' μ', Le W W' → Rep K W' H' μ' → SlOk K W' v s → Q' s μ' → Q v H'
def BOk (W : Wd) (Q' : Bool → Mu → Prop) (Q : Bool → Hp → Prop) : Prop := ∀ b W' H' μ', Le W W' → Rep K W' H' μ' → Q' b μ' → Q b H'
def AOk (W : Wd) (Q' : List Sl → Mu → Prop) (Q : List V → Hp → Prop) : Prop := ∀ vs ss W' H' μ', Le W W' → Rep K W' H' μ' → SlAll K W' vs ss → Q' ss μ' → Q vs H'
def NOk (W : Wd) (Q' : Rho → Mu → Prop) (Q : L2.St → Hp → Prop) : Prop := ∀ σ' ρ' W' H' μ', Le W W' → Rep K W' H' μ' → EnvOk K W' σ' ρ' → Q' ρ' μ' → Q σ' H'
structure EndsOk (W : Wd) (D' : DEnds) (D : Ends) : Prop where
  nx : NOk K W D'.nx D.nx
  rt : VOk K W D'.rt D.rt
  bk : NOk K W D'.bk D.bk
  ct : NOk K W D'.ct D.ct
def LE (t : TE) (d : DE) : Prop := ∀ ρ μ Q', d ρ μ Q' → ∀ W σ H, EnvOk K W σ ρ → Rep K W H μ → ∀ Q : VK, VOk K W Q' Q → t σ H Q
def LT (t : TT) (d : DT) : Prop := ∀ ρ μ Q', d ρ μ Q' → ∀ W σ H, EnvOk K W σ ρ → Rep K W H μ → ∀ Q : Bool → Hp → Prop, BOk K W Q' Q → t σ H Q
def LA (t : TA) (d : DA) : Prop := ∀ ρ μ Q', d ρ μ Q' → ∀ W σ H, EnvOk K W σ ρ → Rep K W H μ → ∀ Q : List V → Hp → Prop, AOk K W Q' Q → t σ H Q
def LS (t : TS) (d : DS) : Prop := ∀ D' ρ μ, d D' ρ μ → ∀ W σ H, EnvOk K W σ ρ → Rep K W H μ → ∀ D : Ends, EndsOk K W D' D → t D σ H
end
section
variable {K : PySem.W.Frag} {W W' : Wd}
theorem VOk.le (l : Le W W') {Q' : DQ} {Q : VK} (h : VOk K W Q' Q) : VOk K W' Q' Q := fun v s W2 H2 μ2 l2 => h v s W2 H2 μ2 (l.trans l2)
theorem BOk.le (l : Le W W') {Q' : Bool → Mu → Prop} {Q : Bool → Hp → Prop} (h : BOk K W Q' Q) : BOk K W' Q' Q := fun b W2 H2 μ2 l2 => h b W2 H2 μ2 (l.trans l2)
theorem AOk.le (l : Le W W') {Q' : List Sl → Mu → Prop} {Q : List V → Hp → Prop} (h : AOk K W Q' Q) : AOk K W' Q' Q := fun v s W2 H2 μ2 l2 => h v s W2 H2 μ2 (l.trans l2)
theorem NOk.le (l : Le W W') {Q' : Rho → Mu → Prop} {Q : L2.St → Hp → Prop} (h : NOk K W Q' Q) : NOk K W' Q' Q := fun v s W2 H2 μ2 l2 => h v s W2 H2 μ2 (l.trans l2)
theorem EndsOk.le (l : Le W W') {D' : DEnds} {D : Ends} (h : EndsOk K W D' D) : EndsOk K W' D' D := ⟨h.nx.le l, h.rt.le l, h.bk.le l, h.ct.le l⟩
end
structure PD (X : Cx) (e : Expr) (d : DE) : Prop where
  ex : ∃ t, PE X e t ∧ LE X.K t d
structure PDT (X : Cx) (e : Expr) (d : DT) : Prop where
  ex : ∃ t, PT X e t ∧ LT X.K t d
structure PDW (X : Cx) (e : Expr) (d : DT) : Prop where
  ex : ∃ t, PW X e t ∧ LT X.K t d
structure PDA (X : Cx) (es : List Expr) (d : DA) : Prop where
  ex : ∃ t, PA X es t ∧ LA X.K t d
structure PDS (X : Cx) (st : Stmt) (d : DS) : Prop where
  ex : ∃ t, PS X st t ∧ LS X.K t d
structure PDSs (X : Cx) (st : List Stmt) (d : DS) : Prop where
  ex : ∃ t, PSs X st t ∧ LS X.K t d
section
variable {K : PySem.W.Frag} {W : Wd} {H : Hp} {μ : Mu} {Q' : DQ} {Q : VK}
theorem VOk.dat (h : VOk K W Q' Q) (r : Rep K W H μ) {v : V} {d : PyData} (hd : Dv K W.G v d) (q : Q' (.dat d) μ) : Q v H := h v (.dat d) W H μ (Le.refl W) r hd q
theorem VOk.int (h : VOk K W Q' Q) (r : Rep K W H μ) {i : Int} (q : Q' (.dat (.int i)) μ) : Q (.int i) H := h.dat r (.int i) q
theorem VOk.bl (h : VOk K W Q' Q) (r : Rep K W H μ) {i : Bool} (q : Q' (.dat (.bool i)) μ) : Q (.bl i) H := h.dat r (.bl i) q
theorem VOk.str (h : VOk K W Q' Q) (r : Rep K W H μ) {i : Str} (q : Q' (.dat (.str i)) μ) : Q (.str i) H := h.dat r (.str i) q
theorem VOk.here (h : VOk K W Q' Q) (r : Rep K W H μ) {v : V} {s : Sl} (hs : SlOk K W v s) (q : Q' s μ) : Q v H := h v s W H μ (Le.refl W) r hs q
theorem VOk.newT (h : VOk K W Q' Q) (r : Rep K W H μ) {b : Bool} {xs : List V} {ds : List PyData} (hx : DvAll K (bh W b) xs ds) (q : Q' (mk b (.tuple ds)) μ) (p : Addr) (hp : H p = none) : Q (.ref p) (upd H p (.tup xs)) := by
  refine h _ _ (W.new p (.tup xs)) _ μ (Le.new r hp) (r.new hp) (slOk_mk ?_) q
  have l : Le W (W.new p (.tup xs)) := Le.new r hp
  refine .tup (.inl (.inl ?_)) (hx.mono (bh_le l b))
  cases b with
  | true => exact upd_same
  | false => exact upd_same
theorem VOk.newL (h : VOk K W Q' Q) (r : Rep K W H μ) {b : Bool} {xs : List V} {ds : List PyData} (hx : DvAll K (bh W b) xs ds) (q : Q' (mk b (.list ds)) μ) (p : Addr) (hp : H p = none) : Q (.ref p) (upd H p (.lst xs)) := by
  refine h _ _ (W.new p (.lst xs)) _ μ (Le.new r hp) (r.new hp) (slOk_mk ?_) q
  have l : Le W (W.new p (.lst xs)) := Le.new r hp
  refine .lst (.inl (.inl ?_)) (hx.mono (bh_le l b))
  cases b with
  | true => exact upd_same
  | false => exact upd_same
def Wd.cellNew (W : Wd) (p : Addr) : Wd := ⟨W.G, W.F, W.ad ++ [p]⟩
theorem Le.cellNew (W : Wd) (p : Addr) : Le W (W.cellNew p) := ⟨Ex.refl _, Ex.refl _, fun _ _ h _ => h, fun k x h => by
  show (W.ad ++ [p])[k]? = some x
  rw [List.getElem?_append_left (List.getElem?_eq_some_iff.mp h).1]
  exact h⟩
theorem Rep.cellNew (r : Rep K W H μ) {p : Addr} (hp : H p = none) {o : HO} {c : Cell} (hc : CellOk K W.G o c) : Rep K (W.cellNew p) (upd H p o) (μ ++ [c]) := by
  obtain ⟨h1, h2⟩ := r.fresh hp
  refine ⟨r.gf, r.fh.trans (Ex.new hp), ?_, ?_, ?_⟩
  · show (W.ad ++ [p]).length = (μ ++ [c]).length
    rw [List.length_append, List.length_append, r.len]
    rfl
  · have old : ∀ (k : Nat), W.ad[k]? = some p → False := fun k hk => by
      have hl : k < μ.length := by rw [← r.len]; exact (List.getElem?_eq_some_iff.mp hk).1
      obtain ⟨_, o', q, _⟩ := r.cell k p _ hk (List.getElem?_eq_getElem hl)
      rw [hp] at q; cases q
    intro i j a hi hj
    have split : ∀ (k : Nat) (a : Addr), (W.ad ++ [p])[k]? = some a → (W.ad[k]? = some a) ∨ (k = W.ad.length ∧ a = p) := fun k a hk => by
      by_cases hl : k < W.ad.length
      · rw [List.getElem?_append_left hl] at hk; exact .inl hk
      · rw [List.getElem?_append_right (by omega)] at hk
        have e := (List.getElem?_eq_some_iff.mp hk).1
        have e' : k - W.ad.length = 0 := by simpa using e
        rw [e'] at hk
        exact .inr ⟨by omega, (Option.some.inj hk).symm⟩
    rcases split i a hi with q1 | ⟨q1, q2⟩
    · rcases split j a hj with q3 | ⟨q3, q4⟩
      · exact r.nd i j a q1 q3
      · subst q4; exact (old i q1).elim
    · subst q2
      rcases split j a hj with q3 | ⟨q3, q4⟩
      · exact (old j q3).elim
      · omega
  · intro k a c' ha hc'
    by_cases hl : k < W.ad.length
    · rw [show (W.cellNew p).ad = W.ad ++ [p] from rfl, List.getElem?_append_left hl] at ha
      rw [List.getElem?_append_left (by rw [← r.len]; exact hl)] at hc'
      obtain ⟨q1, o', q2, q3⟩ := r.cell k a c' ha hc'
      have ne : a ≠ p := fun z => by rw [z, hp] at q2; cases q2
      exact ⟨q1, o', by rw [upd_ne ne]; exact q2, q3⟩
    · rw [show (W.cellNew p).ad = W.ad ++ [p] from rfl, List.getElem?_append_right (by omega)] at ha
      rw [List.getElem?_append_right (by rw [← r.len]; omega)] at hc'
      have e := (List.getElem?_eq_some_iff.mp ha).1
      have e' : k - W.ad.length = 0 := by simpa using e
      rw [e'] at ha
      rw [show k - μ.length = 0 by rw [← r.len]; exact e'] at hc'
      have ea : p = a := Option.some.inj ha
      have ec : c = c' := Option.some.inj hc'
      subst ea; subst ec
      exact ⟨h1, o, upd_same, hc⟩
theorem VOk.newCell (h : VOk K W Q' Q) (r : Rep K W H μ) {xs : List V} {ds : List PyData} (hx : DvAll K W.G xs ds) (q : Q' (.cell μ.length) (μ ++ [.lst ds])) (p : Addr) (hp : H p = none) : Q (.ref p) (upd H p (.lst xs)) := by
  refine h _ (.cell μ.length) (W.cellNew p) _ (μ ++ [.lst ds]) (Le.cellNew W p) (r.cellNew hp (show CellOk K W.G (.lst xs) (.lst ds) from hx)) ⟨p, ?_, rfl⟩ q
  show (W.ad ++ [p])[μ.length]? = some p
  rw [List.getElem?_append_right (by rw [r.len]; exact Nat.le_refl _), r.len, Nat.sub_self]
  rfl
theorem Rep.write (r : Rep K W H μ) {k : Nat} {a : Addr} (ha : W.ad[k]? = some a) {o : HO} {c : Cell} (hc : CellOk K W.G o c) : Rep K W (upd H a o) (μ.set k c) := by
  have hk : k < μ.length := by rw [← r.len]; exact (List.getElem?_eq_some_iff.mp ha).1
  obtain ⟨q1, o1, q2, _⟩ := r.cell k a _ ha (List.getElem?_eq_getElem hk)
  refine ⟨r.gf, Ex.mut r.fh q1, by rw [List.length_set]; exact r.len, r.nd, fun j b c' hb hc' => ?_⟩
  by_cases hj : k = j
  · subst hj
    rw [ha] at hb; cases hb
    rw [List.getElem?_set_self hk] at hc'; cases hc'
    exact ⟨q1, o, upd_same, hc⟩
  · rw [List.getElem?_set_ne hj] at hc'
    obtain ⟨q3, o3, q4, q5⟩ := r.cell j b c' hb hc'
    have ne : b ≠ a := fun z => hj (r.nd k j a ha (z ▸ hb))
    exact ⟨q3, o3, by rw [upd_ne ne]; exact q4, q5⟩
end
section
variable {X : Cx} {K : PySem.W.Frag}
def dVar (i : Nat) : DE := fun ρ μ Q => match ρ[i]? with
  | some (some s) => Q s μ
  | _ => False
def dC (d : PyData) : DE := fun _ μ Q => Q (.dat d) μ
theorem le_var (i : Nat) : LE K (tVar i) (dVar i) := fun ρ μ Q' h W σ H he r Q q => by
  unfold dVar at h
  cases e : ρ[i]? with
  | none => rw [e] at h; exact h.elim
  | some o =>
    rw [e] at h
    cases o with
    | none => exact h.elim
    | some s =>
      obtain ⟨v, h1, h2⟩ := he.get i s e
      exact ⟨v, h1, q.here r h2 h⟩
theorem pd_var (i : Nat) {x : Str} {pos : Pos} (hN : X.N[i]? = some x := by rfl) (hv : Vis X.env.scope x := by first | exact Or.inl rfl | exact Or.inr (Or.inl rfl) | exact Or.inr (Or.inr rfl)) (hd : (x == ("__debug__" : Str)) = false := by decide)
    (hcd : (x == ("__classdict__" : Str)) = false := by decide) : PD X (.Name x pos) (dVar i) := ⟨_, pe_var hN hv hd hcd, le_var i⟩
theorem le_c {v : V} {d : PyData} (hd : ∀ G, Dv K G v d) : LE K (tC v) (dC d) := fun ρ μ Q' h W σ H he r Q q => q.dat r (hd _) h
theorem pd_int {i : Int} {j pos} : PD X (.Constant (.int i) j pos) (dC (.int i)) := ⟨_, pe_int, le_c fun _ => .int i⟩
theorem pd_bl {b : Bool} {j pos} : PD X (.Constant (.bool b) j pos) (dC (.bool b)) := ⟨_, pe_bl, le_c fun _ => .bl b⟩
theorem pd_non {j pos} : PD X (.Constant .none j pos) (dC .none) := ⟨_, pe_non, le_c fun _ => .non⟩
theorem pd_str {x : String} {j pos} : PD X (.Constant (.str x) j pos) (dC (.str x)) := ⟨_, pe_str, le_c fun _ => .str _⟩
theorem pd_glob {x : Str} {v : V} {u : Value} {d : PyData} {pos : Pos} (hg : Gl X x) (hm : X.mg x = some u) (r : RelV v u) (hd : ∀ G, Dv X.K G v d) (hdb : (x == ("__debug__" : Str)) = false := by decide) : PD X (.Name x pos) (dC d) :=
  ⟨_, pe_glob hg hm r hdb, le_c hd⟩
end
section
variable {X : Cx} {K : PySem.W.Frag}
def aNil : DA := fun _ μ Q => Q [] μ
def aCons (d : DE) (a : DA) : DA := fun ρ μ Q => d ρ μ fun s μ1 => a ρ μ1 fun ss μ2 => Q (s :: ss) μ2
theorem la_nil : LA K tNil aNil := fun ρ μ Q' h W σ H he r Q q => q [] [] W H μ (Le.refl W) r .nil h
theorem la_cons {te : TE} {ta : TA} {d : DE} {a : DA} (h1 : LE K te d) (h2 : LA K ta a) : LA K (tCons te ta) (aCons d a) := fun ρ μ Q' h W σ H he r Q q =>
  h1 ρ μ _ h W σ H he r _ fun v s W1 H1 μ1 l1 r1 hs h' => h2 ρ μ1 _ h' W1 σ H1 (he.mono l1) r1 _ fun vs ss W2 H2 μ2 l2 r2 hss h'' =>
    q (v :: vs) (s :: ss) W2 H2 μ2 (l1.trans l2) r2 (.cons (hs.mono l2) hss) h''
theorem pda_nil : PDA X [] aNil := ⟨_, pa_nil, la_nil⟩
theorem pda_cons {e : Expr} {es : List Expr} {d : DE} {a : DA} (h1 : PD X e d) (h2 : PDA X es a) (hs : starEach (e :: es) X.env = (false, eval e X.env) :: starEach es X.env := by rfl) : PDA X (e :: es) (aCons d a) := by
  obtain ⟨t1, p1, l1⟩ := h1
  obtain ⟨t2, p2, l2⟩ := h2
  exact ⟨_, pa_cons p1 p2 hs, la_cons l1 l2⟩
end
abbrev DR2 := Sl → Sl → Mu → DQ → Prop
abbrev DR1 := Sl → Mu → DQ → Prop
abbrev DRA := List Sl → Mu → DQ → Prop
def LR2 (K : PySem.W.Frag) (r : R2) (d : DR2) : Prop := ∀ x y μ Q', d x y μ Q' → ∀ W H vx vy, Rep K W H μ → SlOk K W vx x → SlOk K W vy y → ∀ Q : VK, VOk K W Q' Q → r vx vy H Q
def LR1 (K : PySem.W.Frag) (r : V → Hp → VK → Prop) (d : DR1) : Prop := ∀ x μ Q', d x μ Q' → ∀ W H vx, Rep K W H μ → SlOk K W vx x → ∀ Q : VK, VOk K W Q' Q → r vx H Q
def LRA (K : PySem.W.Frag) (r : List V → Hp → VK → Prop) (d : DRA) : Prop := ∀ xs μ Q', d xs μ Q' → ∀ W H vs, Rep K W H μ → SlAll K W vs xs → ∀ Q : VK, VOk K W Q' Q → r vs H Q
section
variable {X : Cx} {K : PySem.W.Frag} {a b : Expr} {pos : Pos}
def dOp (r : DR2) (da db : DE) : DE := fun ρ μ Q => da ρ μ fun x μ1 => db ρ μ1 fun y μ2 => r x y μ2 Q
def dUn (r : DR1) (da : DE) : DE := fun ρ μ Q => da ρ μ fun x μ1 => r x μ1 Q
def dCB (r : DRA) (da : DA) : DE := fun ρ μ Q => da ρ μ fun xs μ1 => r xs μ1 Q
theorem le_op {r : R2} {d : DR2} {ta tb : TE} {da db : DE} (hr : LR2 K r d) (ha : LE K ta da) (hb : LE K tb db) : LE K (tOp r ta tb) (dOp d da db) := fun ρ μ Q' h W σ H he rp Q q =>
  ha ρ μ _ h W σ H he rp _ fun vx x W1 H1 μ1 l1 r1 hx h1 => hb ρ μ1 _ h1 W1 σ H1 (he.mono l1) r1 _ fun vy y W2 H2 μ2 l2 r2 hy h2 =>
    hr x y μ2 Q' h2 W2 H2 vx vy r2 (hx.mono l2) hy Q (q.le (l1.trans l2))
theorem le_un {r : V → Hp → VK → Prop} {d : DR1} {ta : TE} {da : DE} (hr : LR1 K r d) (ha : LE K ta da) : LE K (tUn r ta) (dUn d da) := fun ρ μ Q' h W σ H he rp Q q =>
  ha ρ μ _ h W σ H he rp _ fun vx x W1 H1 μ1 l1 r1 hx h1 => hr x μ1 Q' h1 W1 H1 vx r1 hx Q (q.le l1)
theorem le_cb {r : List V → Hp → VK → Prop} {d : DRA} {ta : TA} {da : DA} (hr : LRA K r d) (ha : LA K ta da) : LE K (tCB r ta) (dCB d da) := fun ρ μ Q' h W σ H he rp Q q =>
  ha ρ μ _ h W σ H he rp _ fun vs xs W1 H1 μ1 l1 r1 hx h1 => hr xs μ1 Q' h1 W1 H1 vs r1 hx Q (q.le l1)
theorem pd_op {op : Operator} {r : R2} {d : DR2} {da db : DE} (ho : OpR X (binaryOp op) r) (hr : LR2 X.K r d) (ha : PD X a da) (hb : PD X b db) : PD X (.BinOp a op b pos) (dOp d da db) := by
  obtain ⟨ta, p1, l1⟩ := ha
  obtain ⟨tb, p2, l2⟩ := hb
  exact ⟨_, pe_op ho p1 p2, le_op hr l1 l2⟩
theorem pd_un {op : UnaryOp} {r : V → Hp → VK → Prop} {d : DR1} {da : DE} (ho : UnR X (unaryOp op) r) (hr : LR1 X.K r d) (ha : PD X a da) : PD X (.UnaryOp op a pos) (dUn d da) := by
  obtain ⟨ta, p1, l1⟩ := ha
  exact ⟨_, pe_un ho p1, le_un hr l1⟩
theorem pd_cmp {op : CmpOp} {r : R2} {d : DR2} {da db : DE} (ho : OpR X (compareOp op) r) (hr : LR2 X.K r d) (ha : PD X a da) (hb : PD X b db) (hm : behindInMarks op b = false) : PD X (.Compare a [op] [b] pos) (dOp d da db) := by
  obtain ⟨ta, p1, l1⟩ := ha
  obtain ⟨tb, p2, l2⟩ := hb
  exact ⟨_, pe_cmpR ho p1 p2 hm, le_op hr l1 l2⟩
def dTest (d : DE) : DT := fun ρ μ Q => d ρ μ fun x μ1 => match x with
  | .dat (.bool b) => Q b μ1
  | _ => False
theorem lt_test {t : TE} {d : DE} (h : LE K t d) : LT K (tTest t) (dTest d) := fun ρ μ Q' hd W σ H he rp Q q =>
  h ρ μ _ hd W σ H he rp _ fun vx x W1 H1 μ1 l1 r1 hx h1 => by
    cases x with
    | dat d' =>
      cases d' with
      | bool b =>
        cases (show Dv K W1.G vx (.bool b) from hx)
        exact ⟨b, rfl, q b W1 H1 μ1 l1 r1 h1⟩
      | _ => exact False.elim h1
    | _ => exact False.elim h1
theorem pdt_cmp {op : CmpOp} {r : R2} {d : DR2} {da db : DE} (ho : OpR X (compareOp op) r) (hr : LR2 X.K r d) (ha : PD X a da) (hb : PD X b db) (hm : behindInMarks op b = false) : PDT X (.Compare a [op] [b] pos) (dTest (dOp d da db)) := by
  obtain ⟨ta, p1, l1⟩ := ha
  obtain ⟨tb, p2, l2⟩ := hb
  exact ⟨_, pt_cmpR ho p1 p2 hm, lt_test (le_op hr l1 l2)⟩
def dChain (r r' : DR2) (da db dc : DE) : DE := fun ρ μ Q => da ρ μ fun x μ1 => db ρ μ1 fun y μ2 => r x y μ2 fun z μ3 => match z with
  | .dat (.bool k) => if k = true then dc ρ μ3 (fun w μ4 => r' y w μ4 Q) else Q (.dat (.bool false)) μ3
  | _ => False
theorem le_chain {r r' : R2} {d d' : DR2} {ta tb tc : TE} {da db dc : DE} (hr : LR2 K r d) (hr' : LR2 K r' d') (ha : LE K ta da) (hb : LE K tb db) (hc : LE K tc dc) : LE K (tChain r r' ta tb tc) (dChain d d' da db dc) := fun ρ μ Q' h W σ H he rp Q q =>
  ha ρ μ _ h W σ H he rp _ fun vx x W1 H1 μ1 l1 r1 hx h1 => hb ρ μ1 _ h1 W1 σ H1 (he.mono l1) r1 _ fun vy y W2 H2 μ2 l2 r2 hy h2 =>
    hr x y μ2 _ h2 W2 H2 vx vy r2 (hx.mono l2) hy _ fun vz z W3 H3 μ3 l3 r3 hz h3 => by
      cases z with
      | dat d' =>
        cases d' with
        | bool b =>
          cases (show Dv K W3.G vz (.bool b) from hz)
          refine ⟨b, rfl, ?_⟩
          cases b with
          | true =>
            exact hc ρ μ3 _ h3 W3 σ H3 (he.mono ((l1.trans l2).trans l3)) r3 _ fun vw w W4 H4 μ4 l4 r4 hw h4 =>
              hr' y w μ4 Q' h4 W4 H4 vy vw r4 ((hy.mono l3).mono l4) hw Q (q.le (((l1.trans l2).trans l3).trans l4))
          | false => exact (q.le ((l1.trans l2).trans l3)).bl r3 h3
        | _ => exact False.elim h3
      | _ => exact False.elim h3
theorem pdt_chain {c : Expr} {op op' : CmpOp} {r r' : R2} {d d' : DR2} {da db dc : DE} (ho : OpR X (compareOp op) r) (ho' : OpR X (compareOp op') r') (hr : LR2 X.K r d) (hr' : LR2 X.K r' d') (ha : PD X a da) (hb : PD X b db) (hc : PD X c dc)
    (hm : lastMarks [op, op'] [b, c] = false := by with_unfolding_all rfl) : PDT X (.Compare a [op, op'] [b, c] pos) (dTest (dChain d d' da db dc)) := by
  obtain ⟨ta, p1, l1⟩ := ha
  obtain ⟨tb, p2, l2⟩ := hb
  obtain ⟨tc, p3, l3⟩ := hc
  exact ⟨_, pt_chain ho ho' p1 p2 p3 hm, lt_test (le_chain hr hr' l1 l2 l3)⟩
theorem pd_chain {c : Expr} {op op' : CmpOp} {r r' : R2} {d d' : DR2} {da db dc : DE} (ho : OpR X (compareOp op) r) (ho' : OpR X (compareOp op') r') (hr : LR2 X.K r d) (hr' : LR2 X.K r' d') (ha : PD X a da) (hb : PD X b db) (hc : PD X c dc)
    (hm : lastMarks [op, op'] [b, c] = false := by with_unfolding_all rfl) : PD X (.Compare a [op, op'] [b, c] pos) (dChain d d' da db dc) := by
  obtain ⟨ta, p1, l1⟩ := ha
  obtain ⟨tb, p2, l2⟩ := hb
  obtain ⟨tc, p3, l3⟩ := hc
  exact ⟨_, pe_chain ho ho' p1 p2 p3 hm, le_chain hr hr' l1 l2 l3⟩
end
end DL
namespace DL
open PySem PySem.Spec PyProof.Rows L2 Evl
section
variable {X : Cx} {K : PySem.W.Frag}
def ints2 (f : Int → Int → PyData) (c : Int → Int → Prop) : DR2 := fun x y μ Q => match rd μ x, rd μ y with
  | some (.int i), some (.int j) => c i j ∧ Q (.dat (f i j)) μ
  | _, _ => False
theorem ints2_of {f : Int → Int → PyData} {c : Int → Int → Prop} {x y : Sl} {μ : Mu} {Q : DQ} (h : ints2 f c x y μ Q) : ∃ i j, rd μ x = some (.int i) ∧ rd μ y = some (.int j) ∧ c i j ∧ Q (.dat (f i j)) μ := by
  unfold ints2 at h
  split at h
  · rename_i i j e1 e2
    exact ⟨i, j, e1, e2, h.1, h.2⟩
  · exact h.elim
theorem lr_I {C : Int → Int → Prop} {g : Int → Int → V} {f : Int → Int → PyData} (hd : ∀ i j G, Dv K G (g i j) (f i j)) : LR2 K (rI C g) (ints2 f C) := fun x y μ Q' h W H vx vy r hx hy Q q => by
  obtain ⟨i, j, e1, e2, hc, h⟩ := ints2_of h
  cases rd_int r hx e1
  cases rd_int r hy e2
  exact ⟨i, j, rfl, rfl, hc, q.dat r (hd i j _) h⟩
theorem lr_I0 {g : Int → Int → V} {f : Int → Int → PyData} (hd : ∀ i j G, Dv K G (g i j) (f i j)) : LR2 K (rI0 g) (ints2 f fun _ _ => True) := fun x y μ Q' h W H vx vy r hx hy Q q => by
  obtain ⟨i, j, e1, e2, hc, h⟩ := ints2_of h
  cases rd_int r hx e1
  cases rd_int r hy e2
  exact ⟨i, j, rfl, rfl, q.dat r (hd i j _) h⟩
def CDv (_ j : Int) : Prop := j ≠ 0 ∧ j.natAbs.log2 < 9000
theorem op_dv : OpR X (binaryOp .FloorDiv) (rI CDv fun i j => .int (i.fdiv j)) := opI fun _ _ _ _ _ _ _ hc q => floordiv_int hc.1 q (.inl (PyProof.noPylong_of_log2 hc.2))
def rSub : DR2 := ints2 (fun i j => .int (i - j)) fun _ _ => True
def rMulI : DR2 := ints2 (fun i j => .int (i * j)) CMulW
def rDv : DR2 := ints2 (fun i j => .int (i.fdiv j)) CDv
def rMd : DR2 := ints2 (fun i j => .int (i.fmod j)) fun _ j => j ≠ 0
def rPw : DR2 := ints2 (fun i j => .int (i ^ j.toNat)) CPow
section
variable {a b : Expr} {da db : DE} {pos : Pos}
theorem pd_sub (ha : PD X a da) (hb : PD X b db) : PD X (.BinOp a .Sub b pos) (dOp rSub da db) := pd_op op_sub (lr_I0 fun _ _ _ => .int _) ha hb
theorem pd_dv (ha : PD X a da) (hb : PD X b db) : PD X (.BinOp a .FloorDiv b pos) (dOp rDv da db) := pd_op op_dv (lr_I fun _ _ _ => .int _) ha hb
theorem pd_md (ha : PD X a da) (hb : PD X b db) : PD X (.BinOp a .Mod b pos) (dOp rMd da db) := pd_op op_modN (lr_I fun _ _ _ => .int _) ha hb
theorem pd_pw (ha : PD X a da) (hb : PD X b db) : PD X (.BinOp a .Pow b pos) (dOp rPw da db) := pd_op op_pow (lr_I fun _ _ _ => .int _) ha hb
end
def rAdd : DR2 := fun x y μ Q => match rd μ x, rd μ y with
  | some (.int i), some (.int j) => Q (.dat (.int (i + j))) μ
  | some (.str i), some (.str j) => i.length + j.length ≤ sizeLine ∧ Q (.dat (.str (i ++ j))) μ
  | some (.tuple xs), some (.tuple ys) => xs.length + ys.length ≤ sizeLine ∧ Q (mk (isV x || isV y) (.tuple (xs ++ ys))) μ
  | some (.list xs), some (.list ys) => xs.length + ys.length ≤ sizeLine ∧ Q (mk (isV x || isV y) (.list (xs ++ ys))) μ
  | _, _ => False
def rCatS (K : PySem.W.Frag) : R2 := fun x y H Q => ∃ l b xs zs, x = .ref l ∧ y = .ref b ∧ SqL K H l xs ∧ SqL K H b zs ∧ xs.length + zs.length ≤ sizeLine ∧ ∀ p, H p = none → Q (.ref p) (upd H p (.lst (xs ++ zs)))
theorem op_catS : OpR X (binaryOp .Add) (rCatS X.K) := by
  intro pins s σ H x y v u Q I rx ry h
  obtain ⟨l, b, xs, zs, rfl, rfl, hH, hB, hz, q⟩ := h
  cases rx
  cases ry
  obtain ⟨its, r, ⟨⟨c1, d1, dt1, s1⟩, n, e, hc, hdn, hdt⟩, hl⟩ := I.list hH
  obtain ⟨its2, r2, ⟨⟨c2, d2, dt2, s2⟩, n2, e2, hc2, hdn2, hdt2⟩, hl2⟩ := I.list hB
  simp only at hc hdn hdt hc2 hdn2 hdt2
  subst hc hdn hdt hc2 hdn2 hdt2
  have z1 := r.length
  have z2 := r2.length
  have fits : its.toArray.size + its2.toArray.size ≤ sizeLine := by rw [List.size_toArray, List.size_toArray]; omega
  refine concat_meets ⟨_, e, rfl⟩ ⟨_, e2, rfl⟩ noFill_list_add seq_list_add PySem.F.slot_list_add PySem.F.entry_list_add (PySem.F.args_list_add_2 _ _)
    (list_addW l b its.toArray its2.toArray n n2 none none s1 s2 fits) ⟨e, e2, ?_⟩
  have ea : its.toArray ++ its2.toArray = (its ++ its2).toArray := by simp
  rw [ea]
  exact ⟨.ref _, _, I.lnew (t' := s.toks) (r.append r2) (by rw [List.length_append]; omega), rfl, q _ I.fresh⟩
abbrev rAddV (K : PySem.W.Frag) : R2 := fun x y H Q => rI0 (fun i j => .int (i + j)) x y H Q ∨ ((∃ i j, x = .str i ∧ y = .str j ∧ i.length + j.length ≤ sizeLine ∧ Q (.str (i ++ j)) H) ∨ (rCatA K x y H Q ∨ rCatS K x y H Q))
theorem op_addV : OpR X (binaryOp .Add) (rAddV X.K) := op_add.or (op_add_str.or (op_catA.or op_catS))
theorem its_app {W : Wd} {H : Hp} {μ : Mu} {s t : Sl} {xs ys : List V} {ds es : List PyData} (r : Rep K W H μ) (h1 : Its K W s xs ds) (h2 : Its K W t ys es) : DvAll K (bh W (isV s || isV t)) (xs ++ ys) (ds ++ es) :=
  (DvAll.mono h1 (bh_or1 r.gf)).app (DvAll.mono h2 (bh_or2 r.gf))
theorem lr_add : LR2 K (rAddV K) rAdd := fun x y μ Q' h W H vx vy r hx hy Q q => by
  unfold rAdd at h
  split at h
  · rename_i i j e1 e2
    cases rd_int r hx e1
    cases rd_int r hy e2
    exact .inl ⟨i, j, rfl, rfl, q.int r h⟩
  · rename_i i j e1 e2
    cases rd_str r hx e1
    cases rd_str r hy e2
    exact .inr (.inl ⟨i, j, rfl, rfl, h.1, q.str r h.2⟩)
  · rename_i ds es e1 e2
    obtain ⟨a, xs, rfl, ha, ia⟩ := rd_tup r hx e1
    obtain ⟨b, ys, rfl, hb, ib⟩ := rd_tup r hy e2
    have app := its_app r ia ib
    have l1 := ia.length
    have l2 := ib.length
    refine .inr (.inr (.inl ⟨a, b, xs, ys, rfl, rfl, ha, hb, by rw [l1, l2]; exact h.1, fun z => ?_, fun _ z => ?_, fun _ _ p hp => q.newT r app h.2 p hp⟩))
    · subst z
      have z0 : ds = [] := List.length_eq_zero_iff.mp (by rw [← l1]; rfl)
      subst z0
      refine q _ _ W H μ (Le.refl W) r (slOk_mk ?_) h.2
      rw [List.nil_append]
      have hd := rd_dp r hy e2
      cases y with
      | dat d' => cases e2; exact Dv.mono (show Dv K W.G _ _ from hy) (bh_or2 (b := isV x) (c := false) r.gf)
      | vw d' => cases e2; exact Dv.mono (show Dv K W.F _ _ from hy) (bh_or2 (b := isV x) (c := true) r.gf)
      | raw w => cases e2
      | cell k =>
        replace e2 : rdC μ[k]? = _ := e2
        cases qq : μ[k]? with
        | none => rw [qq] at e2; cases e2
        | some c => rw [qq] at e2; cases c <;> cases e2
    · subst z
      have z0 : es = [] := List.length_eq_zero_iff.mp (by rw [← l2]; rfl)
      subst z0
      refine q _ _ W H μ (Le.refl W) r (slOk_mk ?_) h.2
      rw [List.append_nil]
      cases x with
      | dat d' => cases e1; exact Dv.mono (show Dv K W.G _ _ from hx) (bh_or1 (b := false) (c := isV y) r.gf)
      | vw d' => cases e1; exact Dv.mono (show Dv K W.F _ _ from hx) (bh_or1 (b := true) (c := isV y) r.gf)
      | raw w => cases e1
      | cell k =>
        replace e1 : rdC μ[k]? = _ := e1
        cases qq : μ[k]? with
        | none => rw [qq] at e1; cases e1
        | some c => rw [qq] at e1; cases c <;> cases e1
  · rename_i ds es e1 e2
    obtain ⟨a, xs, rfl, ha, ia⟩ := rd_lst r hx e1
    obtain ⟨b, ys, rfl, hb, ib⟩ := rd_lst r hy e2
    refine .inr (.inr (.inr ⟨a, b, xs, ys, rfl, rfl, ha, hb, by rw [ia.length, ib.length]; exact h.1, fun p hp => q.newL r (its_app r ia ib) h.2 p hp⟩))
  · exact h.elim
theorem pd_add {a b : Expr} {da db : DE} {pos : Pos} (ha : PD X a da) (hb : PD X b db) : PD X (.BinOp a .Add b pos) (dOp rAdd da db) := pd_op op_addV lr_add ha hb
def rMul : DR2 := fun x y μ Q => match rd μ x, rd μ y with
  | some (.int i), some (.int j) => CMulW i j ∧ Q (.dat (.int (i * j))) μ
  | some (.tuple xs), some (.int k) => (xs ≠ [] ∧ 2 ≤ k ∧ k ≤ 1000 ∧ xs.length ≤ 1000) ∧ Q (mk (isV x) (.tuple (List.replicate k.toNat xs).flatten)) μ
  | _, _ => False
theorem dpAll_rep {H : Hp} {xs : List V} {ds : List PyData} (h : DvAll K H xs ds) : ∀ n : Nat, DvAll K H (List.replicate n xs).flatten (List.replicate n ds).flatten
  | 0 => .nil
  | n + 1 => by
    rw [List.replicate_succ, List.replicate_succ, List.flatten_cons, List.flatten_cons]
    exact h.app (dpAll_rep h n)
abbrev rMulV (K : PySem.W.Frag) : R2 := fun x y H Q => rI CMulW (fun i j => .int (i * j)) x y H Q ∨ rRepT K x y H Q
theorem lr_mul : LR2 K (rMulV K) rMul := fun x y μ Q' h W H vx vy r hx hy Q q => by
  unfold rMul at h
  split at h
  · rename_i i j e1 e2
    cases rd_int r hx e1
    cases rd_int r hy e2
    exact .inl ⟨i, j, rfl, rfl, h.1, q.int r h.2⟩
  · rename_i ds k e1 e2
    obtain ⟨a, xs, rfl, ha, ia⟩ := rd_tup r hx e1
    cases rd_int r hy e2
    obtain ⟨⟨h1, h2, h3, h4⟩, h5⟩ := h
    refine .inr ⟨a, k, xs, rfl, rfl, ha, fun z => h1 ?_, h2, h3, by rw [ia.length]; exact h4, fun p hp => q.newT r (dpAll_rep ia k.toNat) h5 p hp⟩
    subst z
    exact List.length_eq_zero_iff.mp (by rw [← ia.length]; rfl)
  · exact h.elim
theorem pd_mul {a b : Expr} {da db : DE} {pos : Pos} (ha : PD X a da) (hb : PD X b db) : PD X (.BinOp a .Mult b pos) (dOp rMul da db) := pd_op (op_mulW.or op_repT) lr_mul ha hb
def rNeg : DR1 := fun x μ Q => match rd μ x with
  | some (.int i) => Q (.dat (.int (-i))) μ
  | _ => False
theorem lr_neg : LR1 K (rU fun i => .int (-i)) rNeg := fun x μ Q' h W H vx r hx Q q => by
  unfold rNeg at h
  split at h
  · rename_i i e
    cases rd_int r hx e
    exact ⟨i, rfl, q.int r h⟩
  · exact h.elim
theorem pd_neg {a : Expr} {da : DE} {pos : Pos} (ha : PD X a da) : PD X (.UnaryOp .USub a pos) (dUn rNeg da) := pd_un un_neg lr_neg ha
def eqD (f : Bool → Bool) : DR2 := fun x y μ Q => match rd μ x, rd μ y with
  | some (.int i), some (.int j) => Q (.dat (.bool (f (decide (i = j))))) μ
  | some (.str i), some (.str j) => Q (.dat (.bool (f (decide (i = j))))) μ
  | some (.bool i), some (.bool j) => Q (.dat (.bool (f (decide (i = j))))) μ
  | some d, some e => (SeqAt.shaped d = true ∧ SeqAt.shaped e = true) ∧ Q (.dat (.bool (f (PyData.eqv d e)))) μ
  | _, _ => False
def rEq : DR2 := eqD fun b => b
def rNe : DR2 := eqD fun b => !b
theorem eqD_of {f : Bool → Bool} {W : Wd} {H : Hp} {μ : Mu} {x y : Sl} {vx vy : V} {Q' : DQ} (h : eqD f x y μ Q') (r : Rep K W H μ) (hx : SlOk K W vx x) (hy : SlOk K W vy y) :
    (scal vx vy = true ∧ Q' (.dat (.bool (f (decide (vx = vy))))) μ) ∨ ∃ d e, Dv K H vx d ∧ Dv K H vy e ∧ (SeqAt.shaped d = true ∧ SeqAt.shaped e = true) ∧ Q' (.dat (.bool (f (PyData.eqv d e)))) μ := by
  unfold eqD at h
  split at h
  · rename_i i j e1 e2
    cases rd_int r hx e1
    cases rd_int r hy e2
    refine .inl ⟨rfl, ?_⟩
    rw [show decide (V.int i = V.int j) = decide (i = j) from decide_eq_decide.mpr ⟨V.int.inj, congrArg V.int⟩]
    exact h
  · rename_i i j e1 e2
    cases rd_str r hx e1
    cases rd_str r hy e2
    refine .inl ⟨rfl, ?_⟩
    rw [show decide (V.str i = V.str j) = decide (i = j) from decide_eq_decide.mpr ⟨V.str.inj, congrArg V.str⟩]
    exact h
  · rename_i i j e1 e2
    cases rd_bool r hx e1
    cases rd_bool r hy e2
    refine .inl ⟨rfl, ?_⟩
    rw [show decide (V.bl i = V.bl j) = decide (i = j) from decide_eq_decide.mpr ⟨V.bl.inj, congrArg V.bl⟩]
    exact h
  · rename_i d e _ _ _ e1 e2
    exact .inr ⟨d, e, rd_dp r hx e1, rd_dp r hy e2, h.1, h.2⟩
  · exact h.elim
theorem lr_eq : LR2 K (fun x y H Q => L2.rEq x y H Q ∨ rEqD K x y H Q) rEq := fun x y μ Q' h W H vx vy r hx hy Q q => by
  rcases eqD_of h r hx hy with ⟨h1, h2⟩ | ⟨d, e, h1, h2, h3, h4⟩
  · exact .inl ⟨h1, q.bl r h2⟩
  · exact .inr ⟨d, e, h1.dpS h3.1, h2.dpS h3.2, h3.1, h3.2, q.bl r h4⟩
theorem lr_ne : LR2 K (fun x y H Q => L2.rNe x y H Q ∨ rNeD K x y H Q) rNe := fun x y μ Q' h W H vx vy r hx hy Q q => by
  rcases eqD_of h r hx hy with ⟨h1, h2⟩ | ⟨d, e, h1, h2, h3, h4⟩
  · exact .inl ⟨h1, q.bl r h2⟩
  · exact .inr ⟨d, e, h1.dpS h3.1, h2.dpS h3.2, h3.1, h3.2, q.bl r h4⟩
theorem op_eqV (hu : X.A.units + 64 < cLine) : OpR X (compareOp .Eq) (fun x y H Q => L2.rEq x y H Q ∨ rEqD X.K x y H Q) := op_eq.or (op_eqD hu)
theorem op_neV (hu : X.A.units + 64 < cLine) : OpR X (compareOp .NotEq) (fun x y H Q => L2.rNe x y H Q ∨ rNeD X.K x y H Q) := op_ne.or (op_neD hu)
theorem op_isV : OpR X (compareOp .Is) (fun x y H Q => (y = .non ∧ Q (.bl (decide (x = .non))) H) ∨ (∃ a b, x = .bl a ∧ y = .bl b ∧ Q (.bl (decide (a = b))) H)) := op_isN.or op_is_bl
theorem op_isnotV : OpR X (compareOp .IsNot) (fun x y H Q => (y = .non ∧ Q (.bl (!decide (x = .non))) H) ∨ (∃ a b, x = .bl a ∧ y = .bl b ∧ Q (.bl (!decide (a = b))) H)) := op_notN.or op_isnot_bl
def ltS (i j : Str) : Bool := decide (i.cps.toList < j.cps.toList)
def ord2 (f : Int → Int → Bool) (g : Str → Str → Bool) : DR2 := fun x y μ Q => match rd μ x, rd μ y with
  | some (.int i), some (.int j) => Q (.dat (.bool (f i j))) μ
  | some (.str i), some (.str j) => Q (.dat (.bool (g i j))) μ
  | _, _ => False
def rLt : DR2 := ord2 (fun i j => decide (i < j)) ltS
def rLe : DR2 := ord2 (fun i j => decide (i ≤ j)) fun i j => !ltS j i
def rGt : DR2 := ord2 (fun i j => decide (j < i)) fun i j => ltS j i
def rGe : DR2 := ord2 (fun i j => decide (j ≤ i)) fun i j => !ltS i j
theorem op_ltV : OpR X (compareOp .Lt) (fun x y H Q => rI0 (fun i j => .bl (decide (i < j))) x y H Q ∨ ∃ i j, x = .str i ∧ y = .str j ∧ Q (.bl (ltS i j)) H) := op_lt.or op_lt_str
theorem op_leV : OpR X (compareOp .LtE) (fun x y H Q => rI0 (fun i j => .bl (decide (i ≤ j))) x y H Q ∨ ∃ i j, x = .str i ∧ y = .str j ∧ Q (.bl (!ltS j i)) H) := op_le.or op_le_str
theorem op_gtV : OpR X (compareOp .Gt) (fun x y H Q => rI0 (fun i j => .bl (decide (j < i))) x y H Q ∨ ∃ i j, x = .str i ∧ y = .str j ∧ Q (.bl (ltS j i)) H) := op_gt.or op_gt_str
theorem op_geV : OpR X (compareOp .GtE) (fun x y H Q => rI0 (fun i j => .bl (decide (j ≤ i))) x y H Q ∨ ∃ i j, x = .str i ∧ y = .str j ∧ Q (.bl (!ltS i j)) H) := op_ge.or op_ge_str
def isNon : PyData → Bool
  | .none => true
  | _ => false
def rIs (neg : Bool) : DR2 := fun x y μ Q => match rd μ x, y with
  | some d, .dat .none => Q (.dat (.bool (neg != isNon d))) μ
  | some (.bool b), .dat (.bool c) => Q (.dat (.bool (neg != decide (b = c)))) μ
  | _, _ => False
theorem dp_non {H : Hp} {v : V} {d : PyData} (h : Dv K H v d) : decide (v = .non) = isNon d := by
  cases h <;> rfl
theorem lr_is : LR2 K (fun x y H Q => (y = .non ∧ Q (.bl (decide (x = .non))) H) ∨ (∃ a b, x = .bl a ∧ y = .bl b ∧ Q (.bl (decide (a = b))) H)) (rIs false) := fun x y μ Q' h W H vx vy r hx hy Q q => by
  unfold rIs at h
  split at h
  · rename_i d e1
    have hd := rd_dp r hx e1
    cases (show Dv K W.G vy .none from hy)
    refine .inl ⟨rfl, ?_⟩
    rw [dp_non hd]
    have := q.bl r h
    simpa using this
  · rename_i b c e1
    cases rd_bool r hx e1
    cases (show Dv K W.G vy (.bool c) from hy)
    refine .inr ⟨b, c, rfl, rfl, ?_⟩
    have := q.bl r h
    simpa using this
  · exact h.elim
theorem lr_isnot : LR2 K (fun x y H Q => (y = .non ∧ Q (.bl (!decide (x = .non))) H) ∨ (∃ a b, x = .bl a ∧ y = .bl b ∧ Q (.bl (!decide (a = b))) H)) (rIs true) := fun x y μ Q' h W H vx vy r hx hy Q q => by
  unfold rIs at h
  split at h
  · rename_i d e1
    have hd := rd_dp r hx e1
    cases (show Dv K W.G vy .none from hy)
    refine .inl ⟨rfl, ?_⟩
    rw [dp_non hd]
    have := q.bl r h
    simpa using this
  · rename_i b c e1
    cases rd_bool r hx e1
    cases (show Dv K W.G vy (.bool c) from hy)
    refine .inr ⟨b, c, rfl, rfl, ?_⟩
    have := q.bl r h
    simpa using this
  · exact h.elim
end
end DL
namespace DL
open PySem PySem.Spec PyProof.Rows L2 Evl
def truD : PyData → Bool
  | .none => false
  | .bool b => b
  | .int i => i != 0
  | .str y => (y.length : Int) != 0
  | .list xs => !xs.isEmpty
  | .tuple xs => !xs.isEmpty
  | .dict _ => true
def okT : PyData → Prop
  | .str y => y.length ≤ sizeLine
  | .dict _ => False
  | _ => True
def dTru (d : DE) : DT := fun ρ μ Q => d ρ μ fun x μ1 => match rd μ1 x with
  | some z => okT z ∧ Q (truD z) μ1
  | _ => False
def dAnd (t u : DT) : DT := fun ρ μ Q => t ρ μ fun c μ1 => if c = true then u ρ μ1 Q else Q false μ1
def dOr (t u : DT) : DT := fun ρ μ Q => t ρ μ fun c μ1 => if c = true then Q true μ1 else u ρ μ1 Q
def dNot (t : DT) : DT := fun ρ μ Q => t ρ μ fun c μ1 => Q (!c) μ1
def dIf (t : DT) (a b : DE) : DE := fun ρ μ Q => t ρ μ fun c μ1 => if c = true then a ρ μ1 Q else b ρ μ1 Q
def dAndV (a b : DE) : DE := fun ρ μ Q => a ρ μ fun x μ1 => match x with
  | .dat (.bool c) => if c = true then b ρ μ1 Q else Q (.dat (.bool false)) μ1
  | _ => False
def dOrV (a b : DE) : DE := fun ρ μ Q => a ρ μ fun x μ1 => match x with
  | .dat (.bool c) => if c = true then Q (.dat (.bool true)) μ1 else b ρ μ1 Q
  | _ => False
def dNotV (a : DE) : DE := fun ρ μ Q => a ρ μ fun x μ1 => match x with
  | .dat (.bool c) => Q (.dat (.bool (!c))) μ1
  | _ => False
theorem bool_of {K : PySem.W.Frag} {W : Wd} {v : V} {c : Bool} (h : SlOk K W v (.dat (.bool c))) : v = .bl c := by
  cases (show Dv K W.G v (.bool c) from h)
  rfl
section
variable {X : Cx} {K : PySem.W.Frag} {a b : Expr} {pos : Pos} {rest : List Expr}
theorem isEmpty_len {α β : Type} {xs : List α} {ys : List β} (h : xs.length = ys.length) : xs.isEmpty = ys.isEmpty := by
  cases xs <;> cases ys <;> first | rfl | simp at h
theorem truV_of {W : Wd} {H : Hp} {μ : Mu} {v : V} {s : Sl} {z : PyData} (r : Rep K W H μ) (h : SlOk K W v s) (e : rd μ s = some z) (ho : okT z) : TruV K v H (truD z) := by
  cases z with
  | none => cases rd_none r h e; exact (rfl : false = false)
  | bool b => cases rd_bool r h e; exact (rfl : b = b)
  | int i => cases rd_int r h e; exact (rfl : (i != 0) = (i != 0))
  | str y => cases rd_str r h e; exact ⟨ho, rfl⟩
  | list ds =>
    obtain ⟨p, xs, rfl, hx, hi⟩ := rd_lst r h e
    exact .inl ⟨xs, hx, by rw [isEmpty_len hi.length]; rfl⟩
  | tuple ds =>
    obtain ⟨p, xs, rfl, hx, hi⟩ := rd_tup r h e
    exact .inr (.inl ⟨xs, hx, by rw [isEmpty_len hi.length]; rfl⟩)
  | dict kvs => exact ho.elim
theorem lt_tru {t : TE} {d : DE} (h : LE K t d) : LT K (fun σ H Q => t σ H fun x H' => ∃ k, TruV K x H' k ∧ Q k H') (dTru d) := fun ρ μ Q' hd W σ H he rp Q q =>
  h ρ μ _ hd W σ H he rp _ fun vx x W1 H1 μ1 l1 r1 hx h1 => by
    replace h1 : (match rd μ1 x with | some z => okT z ∧ Q' (truD z) μ1 | _ => False) := h1
    cases e : rd μ1 x with
    | none => rw [e] at h1; exact h1.elim
    | some z =>
      rw [e] at h1
      exact ⟨truD z, truV_of r1 hx e h1.1, q _ W1 H1 μ1 l1 r1 h1.2⟩
theorem pdt_tru {d : DE} (h : PD X a d) (he : ∀ whole, isTrue a X.env whole = (do let v ← whole; standAt a.pos; holding [v] (truthy v)) := by exact fun _ => rfl) : PDT X a (dTru d) := by
  obtain ⟨t, p, l⟩ := h
  exact ⟨_, pt_truth p he, lt_tru l⟩
theorem lt_and {t u : TT} {d e : DT} (h1 : LT K t d) (h2 : LT K u e) : LT K (tAnd t u) (dAnd d e) := fun ρ μ Q' hd W σ H he rp Q q =>
  h1 ρ μ _ hd W σ H he rp _ fun b W1 H1 μ1 l1 r1 q1 => by
    cases b with
    | true => exact h2 ρ μ1 Q' q1 W1 σ H1 (he.mono l1) r1 Q (q.le l1)
    | false => exact q false W1 H1 μ1 l1 r1 q1
theorem lt_or {t u : TT} {d e : DT} (h1 : LT K t d) (h2 : LT K u e) : LT K (tOr t u) (dOr d e) := fun ρ μ Q' hd W σ H he rp Q q =>
  h1 ρ μ _ hd W σ H he rp _ fun b W1 H1 μ1 l1 r1 q1 => by
    cases b with
    | false => exact h2 ρ μ1 Q' q1 W1 σ H1 (he.mono l1) r1 Q (q.le l1)
    | true => exact q true W1 H1 μ1 l1 r1 q1
theorem pdw_and1 {d : DT} (h : PDT X a d) : PDW X (.BoolOp .And [a] pos) d := by
  obtain ⟨t, p, l⟩ := h
  exact ⟨_, pw_and1 p, l⟩
theorem pdw_or1 {d : DT} (h : PDT X a d) : PDW X (.BoolOp .Or [a] pos) d := by
  obtain ⟨t, p, l⟩ := h
  exact ⟨_, pw_or1 p, l⟩
theorem pdw_and {d e : DT} (h : PDT X a d) (h2 : PDW X (.BoolOp .And (b :: rest) pos) e) : PDW X (.BoolOp .And (a :: b :: rest) pos) (dAnd d e) := by
  obtain ⟨t, p, l⟩ := h
  obtain ⟨t2, p2, l2⟩ := h2
  exact ⟨_, pw_and p p2, lt_and l l2⟩
theorem pdw_or {d e : DT} (h : PDT X a d) (h2 : PDW X (.BoolOp .Or (b :: rest) pos) e) : PDW X (.BoolOp .Or (a :: b :: rest) pos) (dOr d e) := by
  obtain ⟨t, p, l⟩ := h
  obtain ⟨t2, p2, l2⟩ := h2
  exact ⟨_, pw_or p p2, lt_or l l2⟩
theorem PDW.pdt {d : DT} (h : PDW X a d) : PDT X a d := by
  obtain ⟨t, p, l⟩ := h
  exact ⟨_, p.pt, l⟩
theorem pdt_not {d : DT} (h : PDT X a d) : PDT X (.UnaryOp .Not a pos) (dNot d) := by
  obtain ⟨t, p, l⟩ := h
  exact ⟨_, pt_not p, fun ρ μ Q' hd W σ H he rp Q q => l ρ μ _ hd W σ H he rp _ fun b W1 H1 μ1 l1 r1 q1 => q _ W1 H1 μ1 l1 r1 q1⟩
theorem pd_ifExp {c : Expr} {d : DT} {da db : DE} (hc : PDT X c d) (ha : PD X a da) (hb : PD X b db) : PD X (.IfExp c a b pos) (dIf d da db) := by
  obtain ⟨t, p, l⟩ := hc
  obtain ⟨ta, p1, l1⟩ := ha
  obtain ⟨tb, p2, l2⟩ := hb
  refine ⟨_, pe_ifExp p p1 p2, fun ρ μ Q' hd W σ H he rp Q q => l ρ μ _ hd W σ H he rp _ fun b W1 H1 μ1 le1 r1 q1 => ?_⟩
  cases b with
  | true => exact l1 ρ μ1 Q' q1 W1 σ H1 (he.mono le1) r1 Q (q.le le1)
  | false => exact l2 ρ μ1 Q' q1 W1 σ H1 (he.mono le1) r1 Q (q.le le1)
theorem pd_one {op} {d : DE} (h : PD X a d) : PD X (.BoolOp op [a] pos) d := by
  obtain ⟨t, p, l⟩ := h
  exact ⟨_, pe_one p, l⟩
theorem pd_and {da db : DE} (ha : PD X a da) (hb : PD X (.BoolOp .And (b :: rest) pos) db) : PD X (.BoolOp .And (a :: b :: rest) pos) (dAndV da db) := by
  obtain ⟨ta, p1, l1⟩ := ha
  obtain ⟨tb, p2, l2⟩ := hb
  refine ⟨_, pe_and p1 p2, fun ρ μ Q' hd W σ H he rp Q q => l1 ρ μ _ hd W σ H he rp _ fun v s W1 H1 μ1 le1 r1 hs h1 => ?_⟩
  cases s with
  | dat d =>
    cases d with
    | bool c =>
      cases bool_of hs
      refine ⟨c, rfl, ?_⟩
      cases c with
      | true => exact l2 ρ μ1 Q' h1 W1 σ H1 (he.mono le1) r1 Q (q.le le1)
      | false => exact (q.le le1).bl r1 h1
    | _ => exact False.elim h1
  | _ => exact False.elim h1
theorem pd_or {da db : DE} (ha : PD X a da) (hb : PD X (.BoolOp .Or (b :: rest) pos) db) : PD X (.BoolOp .Or (a :: b :: rest) pos) (dOrV da db) := by
  obtain ⟨ta, p1, l1⟩ := ha
  obtain ⟨tb, p2, l2⟩ := hb
  refine ⟨_, pe_or p1 p2, fun ρ μ Q' hd W σ H he rp Q q => l1 ρ μ _ hd W σ H he rp _ fun v s W1 H1 μ1 le1 r1 hs h1 => ?_⟩
  cases s with
  | dat d =>
    cases d with
    | bool c =>
      cases bool_of hs
      refine ⟨c, rfl, ?_⟩
      cases c with
      | false => exact l2 ρ μ1 Q' h1 W1 σ H1 (he.mono le1) r1 Q (q.le le1)
      | true => exact (q.le le1).bl r1 h1
    | _ => exact False.elim h1
  | _ => exact False.elim h1
theorem pd_not {da : DE} (ha : PD X a da) : PD X (.UnaryOp .Not a pos) (dNotV da) := by
  obtain ⟨ta, p1, l1⟩ := ha
  refine ⟨_, pe_not p1, fun ρ μ Q' hd W σ H he rp Q q => l1 ρ μ _ hd W σ H he rp _ fun v s W1 H1 μ1 le1 r1 hs h1 => ?_⟩
  cases s with
  | dat d =>
    cases d with
    | bool c =>
      cases bool_of hs
      exact ⟨c, rfl, (q.le le1).bl r1 h1⟩
    | _ => exact False.elim h1
  | _ => exact False.elim h1
def datsOf : List Sl → Option (Bool × List PyData)
  | [] => some (false, [])
  | .dat d :: r => match datsOf r with
    | some (b, ds) => some (b, d :: ds)
    | none => none
  | .vw d :: r => match datsOf r with
    | some (_, ds) => some (true, d :: ds)
    | none => none
  | _ :: _ => none
theorem datsOf_ok {W : Wd} (e : Ex W.G W.F) : ∀ {ss : List Sl} {vs : List V} {b : Bool} {ds : List PyData}, SlAll K W vs ss → datsOf ss = some (b, ds) → DvAll K (bh W b) vs ds
  | [], _, _, _, h, e1 => by
    cases h
    cases e1
    exact .nil
  | .dat d :: r, _, b, ds, h, e1 => by
    cases h with
    | cons h1 h2 =>
      unfold datsOf at e1
      cases q : datsOf r with
      | none => rw [q] at e1; cases e1
      | some z =>
        rw [q] at e1
        obtain ⟨b', ds'⟩ := z
        cases e1
        exact .cons (Dv.mono (show Dv K W.G _ d from h1) (bh_or1 (b := false) (c := b) e)) (datsOf_ok e h2 q)
  | .vw d :: r, _, b, ds, h, e1 => by
    cases h with
    | cons h1 h2 =>
      unfold datsOf at e1
      cases q : datsOf r with
      | none => rw [q] at e1; cases e1
      | some z =>
        rw [q] at e1
        obtain ⟨b', ds'⟩ := z
        cases e1
        exact .cons h1 (DvAll.mono (datsOf_ok e h2 q) (bh_ff e))
  | .cell k :: r, _, _, _, _, e1 => by cases e1
  | .raw v :: r, _, _, _, _, e1 => by cases e1
def dTup (a : DA) : DE := fun ρ μ Q => a ρ μ fun ss μ1 => match datsOf ss with
  | some (b, ds) => ds.length ≤ sizeLine ∧ Q (mk b (.tuple ds)) μ1
  | none => False
def dLst (a : DA) : DE := fun ρ μ Q => a ρ μ fun ss μ1 => match datsOf ss with
  | some (b, ds) => ds.length ≤ sizeLine ∧ Q (mk b (.list ds)) μ1
  | none => False
def dLstC (a : DA) : DE := fun ρ μ Q => a ρ μ fun ss μ1 => match datsOf ss with
  | some (false, ds) => ds.length ≤ sizeLine ∧ Q (.cell μ1.length) (μ1 ++ [.lst ds])
  | _ => False
variable {es : List Expr}
theorem pd_tup {x1} {a : DA} (h : PDA X es a) : PD X (.Tuple es x1 pos) (dTup a) := by
  obtain ⟨t, p, l⟩ := h
  refine ⟨_, pe_tup p, fun ρ μ Q' hd W σ H he rp Q q => l ρ μ _ hd W σ H he rp _ fun vs ss W1 H1 μ1 l1 r1 hs h1 => ?_⟩
  replace h1 : (match datsOf ss with | some (b, ds) => ds.length ≤ sizeLine ∧ Q' (mk b (.tuple ds)) μ1 | none => False) := h1
  cases e : datsOf ss with
  | none => rw [e] at h1; exact h1.elim
  | some z =>
    rw [e] at h1
    obtain ⟨b, ds⟩ := z
    have hx := datsOf_ok r1.gf hs e
    exact ⟨by rw [hx.length]; exact h1.1, (q.le l1).newT r1 hx h1.2⟩
theorem pd_lst {a : DA} (h : PDA X es a) : PD X (.List es pos) (dLst a) := by
  obtain ⟨t, p, l⟩ := h
  refine ⟨_, pe_lst p, fun ρ μ Q' hd W σ H he rp Q q => l ρ μ _ hd W σ H he rp _ fun vs ss W1 H1 μ1 l1 r1 hs h1 => ?_⟩
  replace h1 : (match datsOf ss with | some (b, ds) => ds.length ≤ sizeLine ∧ Q' (mk b (.list ds)) μ1 | none => False) := h1
  cases e : datsOf ss with
  | none => rw [e] at h1; exact h1.elim
  | some z =>
    rw [e] at h1
    obtain ⟨b, ds⟩ := z
    have hx := datsOf_ok r1.gf hs e
    exact ⟨by rw [hx.length]; exact h1.1, (q.le l1).newL r1 hx h1.2⟩
theorem pd_lstC {a : DA} (h : PDA X es a) : PD X (.List es pos) (dLstC a) := by
  obtain ⟨t, p, l⟩ := h
  refine ⟨_, pe_lst p, fun ρ μ Q' hd W σ H he rp Q q => l ρ μ _ hd W σ H he rp _ fun vs ss W1 H1 μ1 l1 r1 hs h1 => ?_⟩
  replace h1 : (match datsOf ss with | some (false, ds) => ds.length ≤ sizeLine ∧ Q' (.cell μ1.length) (μ1 ++ [.lst ds]) | _ => False) := h1
  cases e : datsOf ss with
  | none => rw [e] at h1; exact h1.elim
  | some z =>
    rw [e] at h1
    obtain ⟨b, ds⟩ := z
    cases b with
    | true => exact False.elim h1
    | false =>
      have hx := datsOf_ok r1.gf hs e
      exact ⟨by rw [hx.length]; exact h1.1, (q.le l1).newCell r1 hx h1.2⟩
def rIx : DR2 := fun x y μ Q => match rd μ x, rd μ y with
  | some (.list ds), some (.int i) => ∃ d, atI ds i = some d ∧ Q (elt x d) μ
  | some (.tuple ds), some (.int i) => ∃ d, atI ds i = some d ∧ Q (elt x d) μ
  | some (.str z), some (.int i) => z.length ≤ sizeLine ∧ ∃ c, atI z.cps.toList i = some c ∧ Q (.dat (.str ⟨#[c]⟩)) μ
  | _, _ => False
theorem its_at {W : Wd} {s : Sl} {xs : List V} {ds : List PyData} {i : Int} {d : PyData} (h : Its K W s xs ds) (e : atI ds i = some d) : ∃ v, atI xs i = some v ∧ SlOk K W v (elt s d) := by
  unfold atI at e ⊢
  rw [h.length]
  cases q : ixN ds.length i with
  | none => rw [q] at e; cases e
  | some j =>
    rw [q] at e
    exact h.get e
theorem lr_ix : LR2 K (fun x y H Q => rIxL K x y H Q ∨ (rIxT K x y H Q ∨ rIxS x y H Q)) rIx := fun x y μ Q' h W H vx vy r hx hy Q q => by
  unfold rIx at h
  split at h
  · rename_i ds i e1 e2
    obtain ⟨d, h1, h2⟩ := h
    obtain ⟨p, xs, rfl, hp, hi⟩ := rd_lst r hx e1
    cases rd_int r hy e2
    obtain ⟨v, hv, hs⟩ := its_at hi h1
    exact .inl ⟨p, xs, i, v, rfl, rfl, hp, hv, q.here r hs h2⟩
  · rename_i ds i e1 e2
    obtain ⟨d, h1, h2⟩ := h
    obtain ⟨p, xs, rfl, hp, hi⟩ := rd_tup r hx e1
    cases rd_int r hy e2
    obtain ⟨v, hv, hs⟩ := its_at hi h1
    exact .inr (.inl ⟨p, xs, i, v, rfl, rfl, hp, hv, q.here r hs h2⟩)
  · rename_i z i e1 e2
    obtain ⟨hz, c, h1, h2⟩ := h
    cases rd_str r hx e1
    cases rd_int r hy e2
    exact .inr (.inr ⟨z, i, c, rfl, rfl, hz, h1, q.str r h2⟩)
  · exact h.elim
theorem pd_ix {da db : DE} (ha : PD X a da) (hb : PD X b db) (hs : PlainIx b := by exact fun _ _ => rfl) : PD X (.Subscript a b pos) (dOp rIx da db) := by
  obtain ⟨ta, p1, l1⟩ := ha
  obtain ⟨tb, p2, l2⟩ := hb
  exact ⟨_, pe_ix (ix_list.or (ix_tup.or ix_str)) p1 p2 hs, le_op lr_ix l1 l2⟩
abbrev DO := Rho → Mu → (Option Int → Mu → Prop) → Prop
def LO (K : PySem.W.Frag) (t : TO) (d : DO) : Prop := ∀ ρ μ Q', d ρ μ Q' → ∀ W σ H, EnvOk K W σ ρ → Rep K W H μ → ∀ Q : Option Int → Hp → Prop, (∀ o W' H' μ', Le W W' → Rep K W' H' μ' → Q' o μ' → Q o H') → t σ H Q
structure PDO (X : Cx) (e : Option Expr) (d : DO) : Prop where
  ex : ∃ t, PO X e t ∧ LO X.K t d
def oNone : DO := fun _ μ Q => Q none μ
def oSome (d : DE) : DO := fun ρ μ Q => d ρ μ fun x μ1 => match x with
  | .dat (.int i) => Q (some i) μ1
  | _ => False
theorem pdo_none : PDO X none oNone := ⟨_, po_none, fun ρ μ Q' h W σ H he r Q q => q none W H μ (Le.refl W) r h⟩
theorem pdo_some {d : DE} (h : PD X a d) : PDO X (some a) (oSome d) := by
  obtain ⟨t, p, l⟩ := h
  refine ⟨_, po_some p, fun ρ μ Q' hd W σ H he rp Q q => l ρ μ _ hd W σ H he rp _ fun v s W1 H1 μ1 l1 r1 hs h1 => ?_⟩
  cases s with
  | dat d =>
    cases d with
    | int i =>
      cases (show Dv X.K W1.G v (.int i) from hs)
      exact ⟨i, rfl, q _ W1 H1 μ1 l1 r1 h1⟩
    | _ => exact False.elim h1
  | _ => exact False.elim h1
def cutD (ds : List PyData) (lo hi : Option Int) : List PyData := (ds.drop (HT.sIx ds.length 0 lo)).take (HT.sIx ds.length ds.length hi - HT.sIx ds.length 0 lo)
def rSl (x : Sl) (lo hi : Option Int) (μ : Mu) (Q : DQ) : Prop := match rd μ x with
  | some (.tuple ds) => Q (mk (isV x) (.tuple (cutD ds lo hi))) μ
  | some (.list ds) => Q (mk (isV x) (.list (cutD ds lo hi))) μ
  | some (.str z) => z.length ≤ sizeLine ∧ Q (.dat (.str (cutS z lo hi))) μ
  | _ => False
def dSl (da : DE) (dl dh : DO) : DE := fun ρ μ Q => da ρ μ fun x μ1 => dl ρ μ1 fun l μ2 => dh ρ μ2 fun u μ3 => rSl x l u μ3 Q
theorem its_cut {W : Wd} {s : Sl} {xs : List V} {ds : List PyData} (h : Its K W s xs ds) (lo hi : Option Int) : DvAll K (bh W (isV s)) (cutV xs lo hi) (cutD ds lo hi) := by
  unfold cutV cutD
  rw [h.length]
  exact (DvAll.drop _ h).take _
theorem rd_tup_v {W : Wd} {v : V} {μ : Mu} {s : Sl} {ds : List PyData} (h : SlOk K W v s) (e : rd μ s = some (.tuple ds)) : Dv K (bh W (isV s)) v (.tuple ds) := by
  cases s with
  | dat d' => cases e; exact h
  | vw d' => cases e; exact h
  | raw w => cases e
  | cell k =>
    replace e : rdC μ[k]? = _ := e
    cases qq : μ[k]? with
    | none => rw [qq] at e; cases e
    | some c => rw [qq] at e; cases c <;> cases e
theorem pd_sl {lo hi : Option Expr} {p2 : Pos} {da : DE} {dl dh : DO} (ha : PD X a da) (hl : PDO X lo dl) (hh : PDO X hi dh) : PD X (.Subscript a (.Slice lo hi none p2) pos) (dSl da dl dh) := by
  obtain ⟨ta, p1, l1⟩ := ha
  obtain ⟨tl, p2, l2⟩ := hl
  obtain ⟨th, p3, l3⟩ := hh
  refine ⟨_, pe_slice (sl_list.or (sl_tupA.or sl_str)) p1 p2 p3, fun ρ μ Q' hd W σ H he rp Q q => l1 ρ μ _ hd W σ H he rp _ fun v x W1 H1 μ1 le1 r1 hx h1 =>
    l2 ρ μ1 _ h1 W1 σ H1 (he.mono le1) r1 _ fun l W2 H2 μ2 le2 r2 h2 => l3 ρ μ2 _ h2 W2 σ H2 (he.mono (le1.trans le2)) r2 _ fun u W3 H3 μ3 le3 r3 h3 => ?_⟩
  have hx3 := (hx.mono le2).mono le3
  have q3 := q.le ((le1.trans le2).trans le3)
  unfold rSl at h3
  split at h3
  · rename_i ds e
    obtain ⟨p, xs, rfl, hp, hi⟩ := rd_tup r3 hx3 e
    refine .inr (.inl ⟨p, xs, rfl, hp, fun z => ?_, fun _ a ha => q3.newT r3 (its_cut hi l u) h3 a ha⟩)
    have hc : cutD ds l u = ds := by
      unfold cutD
      rw [hi.length] at z
      rw [z.1, z.2, List.drop_zero, Nat.sub_zero, List.take_length]
    rw [hc] at h3
    exact q3 _ _ W3 H3 μ3 (Le.refl _) r3 (slOk_mk (rd_tup_v hx3 e)) h3
  · rename_i ds e
    obtain ⟨p, xs, rfl, hp, hi⟩ := rd_lst r3 hx3 e
    exact .inl ⟨p, xs, rfl, hp, fun a ha => q3.newL r3 (its_cut hi l u) h3 a ha⟩
  · rename_i z e
    cases rd_str r3 hx3 e
    exact .inr (.inr ⟨z, rfl, h3.1, q3.str r3 h3.2⟩)
  · exact h3.elim
end
end DL
namespace DL
open PySem PySem.Spec PyProof.Rows L2 Evl
section
variable {X : Cx} {K : PySem.W.Frag} {e : Expr} {es : List Expr} {x : Str} {p pos : Pos}
theorem pd_cb {id : String} {r : List V → Hp → VK → Prop} {d : DRA} {a : DA} (hc : CallR X (.builtin id) r) (hr : LRA X.K r d) (hv : bootBuiltins x = some (.builtin id)) (ha : PDA X (e :: es) a) (hm : X.mg x = none) (hg : Gl X x := by rfl)
    (hn : x ≠ "__name__" := by decide) (hdb : (x == ("__debug__" : Str)) = false := by decide)
    (he : starEach (e :: es) X.env = (false, eval e X.env) :: starEach es X.env := by rfl) (hpl : (backTo pos (starEach es X.env)).any (·.1) = false := by rfl) : PD X (.Call (.Name x p) (e :: es) [] pos) (dCB d a) := by
  obtain ⟨t, p1, l1⟩ := ha
  exact ⟨_, pe_callB hc hg hm hv p1 hn hdb he hpl, le_cb hr l1⟩
theorem pd_ct {T : String} {r : List V → Hp → VK → Prop} {d : DRA} {a : DA} (hc : CallR X (.type T) r) (hr : LRA X.K r d) (hv : bootBuiltins x = some (.type T)) (ha : PDA X (e :: es) a) (hm : X.mg x = none) (hg : Gl X x := by rfl)
    (hn : x ≠ "__name__" := by decide) (hdb : (x == ("__debug__" : Str)) = false := by decide)
    (he : starEach (e :: es) X.env = (false, eval e X.env) :: starEach es X.env := by rfl) (hpl : (backTo pos (starEach es X.env)).any (·.1) = false := by rfl) : PD X (.Call (.Name x p) (e :: es) [] pos) (dCB d a) := by
  obtain ⟨t, p1, l1⟩ := ha
  exact ⟨_, pe_callTy hc hg hm hv p1 hn hdb he hpl, le_cb hr l1⟩
def arg1 (f : PyData → Sl → Mu → DQ → Prop) : DRA := fun xs μ Q => match xs with
  | [x] => match rd μ x with
    | some d => f d x μ Q
    | none => False
  | _ => False
theorem arg1_of {f : PyData → Sl → Mu → DQ → Prop} {xs : List Sl} {μ : Mu} {Q : DQ} (h : arg1 f xs μ Q) : ∃ x d, xs = [x] ∧ rd μ x = some d ∧ f d x μ Q := by
  unfold arg1 at h
  split at h
  · rename_i x
    split at h
    · rename_i d e
      exact ⟨x, d, rfl, e, h⟩
    · exact h.elim
  · exact h.elim
theorem slAll1 {W : Wd} {vs : List V} {x : Sl} (h : SlAll K W vs [x]) : ∃ v, vs = [v] ∧ SlOk K W v x := by
  cases h with
  | cons a t =>
    cases t
    exact ⟨_, rfl, a⟩
theorem slAll2 {W : Wd} {vs : List V} {x y : Sl} (h : SlAll K W vs [x, y]) : ∃ v u, vs = [v, u] ∧ SlOk K W v x ∧ SlOk K W u y := by
  cases h with
  | cons a t =>
    obtain ⟨u, rfl, b⟩ := slAll1 t
    exact ⟨_, _, rfl, a, b⟩
def ints2A (f : Int → Int → PyData) (c : Int → Int → Prop) : DRA := fun xs μ Q => match xs with
  | [x, y] => ints2 f c x y μ Q
  | _ => False
theorem ints2A_of {f : Int → Int → PyData} {c : Int → Int → Prop} {xs : List Sl} {μ : Mu} {Q : DQ} (h : ints2A f c xs μ Q) {W : Wd} {H : Hp} {vs : List V} (r : Rep K W H μ) (hs : SlAll K W vs xs) : ∃ i j, vs = [.int i, .int j] ∧ c i j ∧ Q (.dat (f i j)) μ := by
  unfold ints2A at h
  split at h
  · obtain ⟨i, j, e1, e2, hc, h⟩ := ints2_of h
    obtain ⟨v, u, rfl, h1, h2⟩ := slAll2 hs
    cases rd_int r h1 e1
    cases rd_int r h2 e2
    exact ⟨i, j, rfl, hc, h⟩
  · exact h.elim
def fLen : DRA := arg1 fun d _ μ Q => match d with
  | .list ds => Q (.dat (.int ds.length)) μ
  | .tuple ds => Q (.dat (.int ds.length)) μ
  | .str z => z.length ≤ sizeLine ∧ Q (.dat (.int z.length)) μ
  | _ => False
theorem pd_len {a : DA} (ha : PDA X (e :: es) a) (hm : X.mg "len" = none) (hg : Gl X "len" := by rfl)
    (he : starEach (e :: es) X.env = (false, eval e X.env) :: starEach es X.env := by rfl) (hpl : (backTo pos (starEach es X.env)).any (·.1) = false := by rfl) : PD X (.Call (.Name "len" p) (e :: es) [] pos) (dCB fLen a) := by
  refine pd_cb (call_len_seq.or call_len_str) (fun xs μ Q' h W H vs r hs Q q => ?_) PySem.boot_len ha hm hg (by decide) (by decide) he hpl
  obtain ⟨x, d, rfl, e1, h⟩ := arg1_of h
  obtain ⟨v, rfl, hx⟩ := slAll1 hs
  cases d with
  | list ds =>
    obtain ⟨a, ys, rfl, hl, hi⟩ := rd_lst r hx e1
    exact .inl ⟨a, ys, rfl, .inl hl, by rw [hi.length]; exact q.int r h⟩
  | tuple ds =>
    obtain ⟨a, ys, rfl, hl, hi⟩ := rd_tup r hx e1
    exact .inl ⟨a, ys, rfl, .inr hl, by rw [hi.length]; exact q.int r h⟩
  | str z =>
    cases rd_str r hx e1
    exact .inr ⟨z, rfl, h.1, q.int r h.2⟩
  | _ => exact False.elim h
def fAbs : DRA := arg1 fun d _ μ Q => match d with
  | .int i => Q (.dat (.int (if i < 0 then -i else i))) μ
  | _ => False
theorem pd_abs {a : DA} (ha : PDA X (e :: es) a) (hm : X.mg "abs" = none) (hg : Gl X "abs" := by rfl)
    (he : starEach (e :: es) X.env = (false, eval e X.env) :: starEach es X.env := by rfl) (hpl : (backTo pos (starEach es X.env)).any (·.1) = false := by rfl) : PD X (.Call (.Name "abs" p) (e :: es) [] pos) (dCB fAbs a) := by
  refine pd_cb call_abs (fun xs μ Q' h W H vs r hs Q q => ?_) (by decide +kernel) ha hm hg (by decide) (by decide) he hpl
  obtain ⟨x, d, rfl, e1, h⟩ := arg1_of h
  obtain ⟨v, rfl, hx⟩ := slAll1 hs
  cases d with
  | int i =>
    cases rd_int r hx e1
    exact ⟨i, rfl, q.int r h⟩
  | _ => exact False.elim h
def fMax2 : DRA := ints2A (fun i j => .int (if j > i then j else i)) fun _ _ => True
def fMin2 : DRA := ints2A (fun i j => .int (if j < i then j else i)) fun _ _ => True
theorem pd_max2 {a : DA} (hc : X.calm = true) (ha : PDA X (e :: es) a) (hm : X.mg "max" = none) (hg : Gl X "max" := by rfl)
    (he : starEach (e :: es) X.env = (false, eval e X.env) :: starEach es X.env := by rfl) (hpl : (backTo pos (starEach es X.env)).any (·.1) = false := by rfl) : PD X (.Call (.Name "max" p) (e :: es) [] pos) (dCB fMax2 a) :=
  pd_cb (call_max2 hc) (fun xs μ Q' h W H vs r hs Q q => let ⟨i, j, e1, _, h⟩ := ints2A_of h r hs; ⟨i, j, e1, q.int r h⟩) (by decide +kernel) ha hm hg (by decide) (by decide) he hpl
def fInt : DRA := arg1 fun d _ μ Q => match d with
  | .int i => Q (.dat (.int i)) μ
  | .bool b => Q (.dat (.int (if b then 1 else 0))) μ
  | .str a => ∃ n, PySem.intText? a = some n ∧ a.length ≤ 640 ∧ Q (.dat (.int n)) μ
  | _ => False
theorem pd_intc {a : DA} (ha : PDA X (e :: es) a) (hm : X.mg "int" = none) (hg : Gl X "int" := by rfl)
    (he : starEach (e :: es) X.env = (false, eval e X.env) :: starEach es X.env := by rfl) (hpl : (backTo pos (starEach es X.env)).any (·.1) = false := by rfl) : PD X (.Call (.Name "int" p) (e :: es) [] pos) (dCB fInt a) := by
  refine pd_ct (call_int1.or call_int_str) (fun xs μ Q' h W H vs r hs Q q => ?_) (by decide +kernel) ha hm hg (by decide) (by decide) he hpl
  obtain ⟨x, d, rfl, e1, h⟩ := arg1_of h
  obtain ⟨v, rfl, hx⟩ := slAll1 hs
  cases d with
  | int i =>
    cases rd_int r hx e1
    exact .inl (.inl ⟨i, rfl, q.int r h⟩)
  | bool b =>
    cases rd_bool r hx e1
    exact .inl (.inr ⟨b, rfl, q.int r h⟩)
  | str z =>
    cases rd_str r hx e1
    obtain ⟨n, h1, h2, h3⟩ := h
    exact .inr ⟨z, n, rfl, h1, h2, q.int r h3⟩
  | _ => exact False.elim h
def CDm (_ j : Int) : Prop := 0 < j ∧ j.natAbs.log2 < 9000
def fDm : DRA := ints2A (fun i j => .tuple [.int (i / j), .int (i % j)]) CDm
theorem pd_dm {a : DA} (ha : PDA X (e :: es) a) (hm : X.mg "divmod" = none) (hg : Gl X "divmod" := by rfl)
    (he : starEach (e :: es) X.env = (false, eval e X.env) :: starEach es X.env := by rfl) (hpl : (backTo pos (starEach es X.env)).any (·.1) = false := by rfl) : PD X (.Call (.Name "divmod" p) (e :: es) [] pos) (dCB fDm a) := by
  refine pd_cb call_divmodW (fun xs μ Q' h W H vs r hs Q q => ?_) (by decide +kernel) ha hm hg (by decide) (by decide) he hpl
  obtain ⟨i, j, rfl, hc, h⟩ := ints2A_of h r hs
  exact ⟨i, j, rfl, ⟨hc.1, PyProof.noPylong_of_log2 hc.2⟩, q.newT (b := false) r (.cons (.int _) (.cons (.int _) .nil)) h⟩
def fGcd : DRA := ints2A (fun i j => .int ((Nat.gcd i.natAbs j.natAbs : Nat) : Int)) fun _ _ => True
def CLcm (i j : Int) : Prop := i.natAbs.log2 < 9000 ∧ j.natAbs.log2 < 9000
end
end DL
namespace DL
open PySem PySem.Spec PyProof.Rows L2 Evl
section
variable {X : Cx} {K : PySem.W.Frag} {e : Expr} {es : List Expr} {x : Str} {p pos : Pos}
def rLcmV : List V → Hp → VK → Prop := fun vs H Q => ∃ a b : Int, vs = [.int a, .int b] ∧ CLcm a b ∧ Q (.int ((Nat.lcm a.natAbs b.natAbs : Nat) : Int)) H
def fLcm : DRA := ints2A (fun i j => .int ((Nat.lcm i.natAbs j.natAbs : Nat) : Int)) CLcm
def intsOf : List PyData → Option (List Int)
  | [] => some []
  | .int i :: r => (intsOf r).map (i :: ·)
  | _ :: _ => none
def boolsOf : List PyData → Option (List Bool)
  | [] => some []
  | .bool i :: r => (boolsOf r).map (i :: ·)
  | _ :: _ => none
theorem of_intsOf : ∀ {ds : List PyData} {is : List Int}, intsOf ds = some is → ds = is.map PyData.int
  | [], _, h => by cases h; rfl
  | .int i :: r, _, h => by
    replace h : (intsOf r).map (i :: ·) = _ := h
    cases q : intsOf r with
    | none => rw [q] at h; cases h
    | some z => rw [q] at h; cases h; rw [of_intsOf q]; rfl
  | .none :: _, _, h => by cases h
  | .bool _ :: _, _, h => by cases h
  | .str _ :: _, _, h => by cases h
  | .list _ :: _, _, h => by cases h
  | .tuple _ :: _, _, h => by cases h
  | .dict _ :: _, _, h => by cases h
theorem of_boolsOf : ∀ {ds : List PyData} {is : List Bool}, boolsOf ds = some is → ds = is.map PyData.bool
  | [], _, h => by cases h; rfl
  | .bool i :: r, _, h => by
    replace h : (boolsOf r).map (i :: ·) = _ := h
    cases q : boolsOf r with
    | none => rw [q] at h; cases h
    | some z => rw [q] at h; cases h; rw [of_boolsOf q]; rfl
  | .none :: _, _, h => by cases h
  | .int _ :: _, _, h => by cases h
  | .str _ :: _, _, h => by cases h
  | .list _ :: _, _, h => by cases h
  | .tuple _ :: _, _, h => by cases h
  | .dict _ :: _, _, h => by cases h
def fSum : DRA := arg1 fun d _ μ Q => match d with
  | .list ds => match intsOf ds with
    | some is => Q (.dat (.int is.sum)) μ
    | none => False
  | _ => False
def fBools (f : List Bool → Bool) : DRA := arg1 fun d _ μ Q => match d with
  | .list ds => match boolsOf ds with
    | some is => Q (.dat (.bool (f is))) μ
    | none => False
  | _ => False
def fAll : DRA := fBools fun bs => bs.all id
def fAny : DRA := fBools fun bs => bs.any id
theorem pd_sum {a : DA} (hc : X.calm = true) (ha : PDA X (e :: es) a) (hm : X.mg "sum" = none) (hg : Gl X "sum" := by rfl)
    (he : starEach (e :: es) X.env = (false, eval e X.env) :: starEach es X.env := by rfl) (hpl : (backTo pos (starEach es X.env)).any (·.1) = false := by rfl) : PD X (.Call (.Name "sum" p) (e :: es) [] pos) (dCB fSum a) := by
  refine pd_cb (cr_sum hc) (fun xs μ Q' h W H vs r hs Q q => ?_) (by decide +kernel) ha hm hg (by decide) (by decide) he hpl
  obtain ⟨x, d, rfl, e1, h⟩ := arg1_of h
  obtain ⟨v, rfl, hx⟩ := slAll1 hs
  cases d with
  | list ds =>
    replace h : (match intsOf ds with | some is => Q' (.dat (.int is.sum)) μ | none => False) := h
    cases qq : intsOf ds with
    | none => rw [qq] at h; exact h.elim
    | some is =>
      rw [qq] at h
      cases of_intsOf qq
      obtain ⟨a, ys, rfl, hl, hi⟩ := rd_lst r hx e1
      cases DvAll.of_ints is hi
      exact ⟨a, is, rfl, hl, q.int r h⟩
  | _ => exact False.elim h
theorem pd_all {a : DA} (hc : X.calm = true) (ha : PDA X (e :: es) a) (hm : X.mg "all" = none) (hg : Gl X "all" := by rfl)
    (he : starEach (e :: es) X.env = (false, eval e X.env) :: starEach es X.env := by rfl) (hpl : (backTo pos (starEach es X.env)).any (·.1) = false := by rfl) : PD X (.Call (.Name "all" p) (e :: es) [] pos) (dCB fAll a) := by
  refine pd_cb (cr_all hc) (fun xs μ Q' h W H vs r hs Q q => ?_) (by decide +kernel) ha hm hg (by decide) (by decide) he hpl
  unfold fAll fBools at h
  obtain ⟨x, d, rfl, e1, h⟩ := arg1_of h
  obtain ⟨v, rfl, hx⟩ := slAll1 hs
  cases d with
  | list ds =>
    replace h : (match boolsOf ds with | some is => Q' (.dat (.bool (is.all id))) μ | none => False) := h
    cases qq : boolsOf ds with
    | none => rw [qq] at h; exact h.elim
    | some is =>
      rw [qq] at h
      cases of_boolsOf qq
      obtain ⟨a, ys, rfl, hl, hi⟩ := rd_lst r hx e1
      cases DvAll.of_bools is hi
      exact ⟨a, is, rfl, hl, q.bl r h⟩
  | _ => exact False.elim h
theorem pd_any {a : DA} (hc : X.calm = true) (ha : PDA X (e :: es) a) (hm : X.mg "any" = none) (hg : Gl X "any" := by rfl)
    (he : starEach (e :: es) X.env = (false, eval e X.env) :: starEach es X.env := by rfl) (hpl : (backTo pos (starEach es X.env)).any (·.1) = false := by rfl) : PD X (.Call (.Name "any" p) (e :: es) [] pos) (dCB fAny a) := by
  refine pd_cb (cr_any hc) (fun xs μ Q' h W H vs r hs Q q => ?_) (by decide +kernel) ha hm hg (by decide) (by decide) he hpl
  unfold fAny fBools at h
  obtain ⟨x, d, rfl, e1, h⟩ := arg1_of h
  obtain ⟨v, rfl, hx⟩ := slAll1 hs
  cases d with
  | list ds =>
    replace h : (match boolsOf ds with | some is => Q' (.dat (.bool (is.any id))) μ | none => False) := h
    cases qq : boolsOf ds with
    | none => rw [qq] at h; exact h.elim
    | some is =>
      rw [qq] at h
      cases of_boolsOf qq
      obtain ⟨a, ys, rfl, hl, hi⟩ := rd_lst r hx e1
      cases DvAll.of_bools is hi
      exact ⟨a, is, rfl, hl, q.bl r h⟩
  | _ => exact False.elim h
def fTuple : DRA := arg1 fun d x μ Q => match d with
  | .list ds => Q (mk (isV x) (.tuple ds)) μ
  | .tuple ds => Q (mk (isV x) (.tuple ds)) μ
  | _ => False
def fList : DRA := arg1 fun d x μ Q => match d with
  | .list ds => Q (mk (isV x) (.list ds)) μ
  | .tuple ds => Q (mk (isV x) (.list ds)) μ
  | _ => False
def fListC : DRA := arg1 fun d x μ Q => match d with
  | .list ds => isV x = false ∧ Q (.cell μ.length) (μ ++ [.lst ds])
  | .tuple ds => isV x = false ∧ Q (.cell μ.length) (μ ++ [.lst ds])
  | _ => False
theorem pd_tuple {a : DA} (ha : PDA X (e :: es) a) (hm : X.mg "tuple" = none) (hg : Gl X "tuple" := by rfl)
    (he : starEach (e :: es) X.env = (false, eval e X.env) :: starEach es X.env := by rfl) (hpl : (backTo pos (starEach es X.env)).any (·.1) = false := by rfl) : PD X (.Call (.Name "tuple" p) (e :: es) [] pos) (dCB fTuple a) := by
  refine pd_ct call_tuple_of (fun xs μ Q' h W H vs r hs Q q => ?_) (by decide +kernel) ha hm hg (by decide) (by decide) he hpl
  obtain ⟨x, d, rfl, e1, h⟩ := arg1_of h
  obtain ⟨v, rfl, hx⟩ := slAll1 hs
  cases d with
  | list ds =>
    obtain ⟨a, ys, rfl, hl, hi⟩ := rd_lst r hx e1
    exact ⟨a, ys, rfl, .inl ⟨hl, q.newT r hi h⟩⟩
  | tuple ds =>
    obtain ⟨a, ys, rfl, hl, hi⟩ := rd_tup r hx e1
    exact ⟨a, ys, rfl, .inr ⟨hl, q _ _ W H μ (Le.refl W) r (slOk_mk (rd_tup_v hx e1)) h⟩⟩
  | _ => exact False.elim h
theorem pd_list {a : DA} (ha : PDA X (e :: es) a) (hm : X.mg "list" = none) (hg : Gl X "list" := by rfl)
    (he : starEach (e :: es) X.env = (false, eval e X.env) :: starEach es X.env := by rfl) (hpl : (backTo pos (starEach es X.env)).any (·.1) = false := by rfl) : PD X (.Call (.Name "list" p) (e :: es) [] pos) (dCB fList a) := by
  refine pd_ct call_list_of (fun xs μ Q' h W H vs r hs Q q => ?_) (by decide +kernel) ha hm hg (by decide) (by decide) he hpl
  obtain ⟨x, d, rfl, e1, h⟩ := arg1_of h
  obtain ⟨v, rfl, hx⟩ := slAll1 hs
  cases d with
  | list ds =>
    obtain ⟨a, ys, rfl, hl, hi⟩ := rd_lst r hx e1
    exact ⟨a, ys, rfl, .inl hl, q.newL r hi h⟩
  | tuple ds =>
    obtain ⟨a, ys, rfl, hl, hi⟩ := rd_tup r hx e1
    exact ⟨a, ys, rfl, .inr hl, q.newL r hi h⟩
  | _ => exact False.elim h
inductive Ty5 where
  | int | bool | str | tup | lst
def Ty5.nm : Ty5 → String
  | .int => "int"
  | .bool => "bool"
  | .str => "str"
  | .tup => "tuple"
  | .lst => "list"
def isTy : Ty5 → PyData → Bool
  | .int, .int _ => true
  | .int, .bool _ => true
  | .bool, .bool _ => true
  | .str, .str _ => true
  | .tup, .tuple _ => true
  | .lst, .list _ => true
  | _, _ => false
def tyN : PyData → String
  | .none => "NoneType"
  | .bool _ => "bool"
  | .int _ => "int"
  | .str _ => "str"
  | .list _ => "list"
  | .tuple _ => "tuple"
  | .dict _ => "dict"
theorem kit_of5 (T : Ty5) (d : PyData) : PySem.W.kitOne K (.type (tyN d)) (.type T.nm) = some (isTy T d) := by
  cases T <;> cases d <;> refine kit_ty ?_ <;> simp only [tyN, Ty5.nm, isTy] <;> decide +kernel
theorem tyX_of {H : Hp} {v : V} {d : PyData} (h : Dv K H v d) : TyX K H v (.type (tyN d)) := by
  cases h with
  | non => exact .base .non
  | bl b => exact .base (.bl b)
  | int i => exact .base (.int i)
  | str z => exact .base (.str z)
  | lst hs _ =>
    rcases hs with (hs | ⟨o, hs⟩) | ⟨o, its, n, hk, hc, _⟩
    · exact .base (.lst hs)
    · exact .base (.frz hs)
    · exact .kList hk hc
  | tup hs _ =>
    rcases hs with (hs | ⟨o, hs⟩) | ⟨o, its, n, hk, hc, _⟩
    · exact .base (.tup hs)
    · exact .fTuple hs
    · exact .kTuple hk hc
  | emp hs => exact .base (.dK hs)
def fIsi (T : Ty5) : DR1 := fun x μ Q => match rd μ x with
  | some d => Q (.dat (.bool (isTy T d))) μ
  | none => False
theorem pd_isi (T : Ty5) {c : Str} {cp : Pos} {d : DE} (ha : PD X e d) (hm : X.mg "isinstance" = none) (hmc : X.mg c = none) (hv : bootBuiltins c = some (.type T.nm)) (hg : Gl X "isinstance" := by rfl) (hgc : Gl X c := by rfl)
    (hn : c ≠ "__name__" := by decide) (hdb : (c == ("__debug__" : Str)) = false := by decide)
    (he : starEach [e, .Name c cp] X.env = (false, eval e X.env) :: starEach [.Name c cp] X.env := by rfl) (he2 : starEach [.Name c cp] X.env = (false, eval (.Name c cp) X.env) :: starEach [] X.env := by rfl)
    (hpl : (backTo pos (starEach [.Name c cp] X.env)).any (·.1) = false := by rfl) : PD X (.Call (.Name "isinstance" p) [e, .Name c cp] [] pos) (dUn (fIsi T) d) := by
  obtain ⟨t, p1, l1⟩ := ha
  refine ⟨_, pe_callB call_isi hg hm (by decide +kernel) (pa_cons p1 (pa_cons (pe_bltn (v := .ty T.nm) hgc hmc hv rfl hn hdb) pa_nil he2) he) (by decide) (by decide) he hpl, fun ρ μ Q' h W σ H henv rp Q q =>
    l1 ρ μ _ h W σ H henv rp _ fun v s W1 H1 μ1 le1 r1 hs h1 => ?_⟩
  replace h1 : (match rd μ1 s with | some d => Q' (.dat (.bool (isTy T d))) μ1 | none => False) := h1
  cases ee : rd μ1 s with
  | none => rw [ee] at h1; exact h1.elim
  | some z =>
    rw [ee] at h1
    exact ⟨v, .ty T.nm, .type (tyN z), .type T.nm, isTy T z, rfl, .ty _, tyX_of (rd_dp r1 hs ee), kit_of5 T z, (q.le le1).bl r1 h1⟩
end
end DL
namespace DL
open PySem PySem.Spec PyProof.Rows L2 Evl
def dNext : DS := fun D ρ μ => D.nx ρ μ
def dSeq (a b : DS) : DS := fun D ρ μ => a { D with nx := b D } ρ μ
def dAsg (d : DE) (i : Nat) : DS := fun D ρ μ => d ρ μ fun s μ1 => D.nx (ρ.set i (some s)) μ1
def dRet (d : DE) : DS := fun D ρ μ => d ρ μ D.rt
def dRetN : DS := fun D _ μ => D.rt (.dat .none) μ
def dIfS (t : DT) (a b : DS) : DS := fun D ρ μ => t ρ μ fun c μ1 => if c = true then a D ρ μ1 else b D ρ μ1
def dDrop (d : DE) : DS := fun D ρ μ => d ρ μ fun _ μ1 => D.nx ρ μ1
def dNever : DS := fun _ _ _ => False
def dCont : DS := fun D ρ μ => D.ct ρ μ
def dBreak : DS := fun D ρ μ => D.bk ρ μ
def dAug (i : Nat) (r : DR2) (d : DE) : DS := fun D ρ μ => dVar i ρ μ fun x μ0 => d ρ μ0 fun y μ1 => r x y μ1 fun z μ2 => D.nx (ρ.set i (some z)) μ2
def dPar (i j : Nat) (a : DA) : DS := fun D ρ μ => a ρ μ fun ss μ1 => match ss with
  | [s, t] => D.nx ((ρ.set i (some s)).set j (some t)) μ1
  | _ => False
section
variable {K : PySem.W.Frag} {W : Wd}
theorem EndsOk.with_nx {D' : DEnds} {D : Ends} (h : EndsOk K W D' D) {nx' : Rho → Mu → Prop} {nx : L2.St → Hp → Prop} (hn : NOk K W nx' nx) : EndsOk K W { D' with nx := nx' } { D with nx := nx } := ⟨hn, h.rt, h.bk, h.ct⟩
end
section
variable {X : Cx} {K : PySem.W.Frag} {st : Stmt} {rest : List Stmt} {e : Expr} {pos : Pos} {d : DE} {t : DT} {a b : DS}
theorem pds_nil : PDSs X [] dNext := ⟨_, pss_nil, fun D' ρ μ h W σ H he r D hd => hd.nx σ ρ W H μ (Le.refl W) r he h⟩
theorem pds_cons (h1 : PDS X st a) (h2 : PDSs X rest b) : PDSs X (st :: rest) (dSeq a b) := by
  obtain ⟨t1, p1, l1⟩ := h1
  obtain ⟨t2, p2, l2⟩ := h2
  exact ⟨_, pss_cons p1 p2, fun D' ρ μ h W σ H he r D hd => l1 _ ρ μ h W σ H he r _ (hd.with_nx fun σ1 ρ1 W1 H1 μ1 le1 r1 he1 q => l2 D' ρ1 μ1 q W1 σ1 H1 he1 r1 D (hd.le le1))⟩
theorem pds_one (h1 : PDS X st a) : PDSs X [st] a := by
  obtain ⟨t1, p1, l1⟩ := h1
  exact ⟨_, pss_one p1, l1⟩
theorem pd_never : PDS X st dNever := ⟨_, ps_never, fun D' ρ μ h W σ H he r D hd => h.elim⟩
theorem pd_ret (h : PD X e d) : PDS X (.Return (some e) pos) (dRet d) := by
  obtain ⟨t, p, l⟩ := h
  exact ⟨_, ps_ret p, fun D' ρ μ h W σ H he r D hd => l ρ μ _ h W σ H he r _ hd.rt⟩
theorem pd_expr (h : PD X e d) (hs : swapsWith e none pos.line X.env = pure false := by rfl) : PDS X (.Expr e pos) (dDrop d) := by
  obtain ⟨t, p, l⟩ := h
  exact ⟨_, ps_expr p hs, fun D' ρ μ h W σ H he r D hd => l ρ μ _ h W σ H he r _ fun v s W1 H1 μ1 le1 r1 hs q => hd.nx σ ρ W1 H1 μ1 le1 r1 (he.mono le1) q⟩
theorem pd_set {i : Nat} {x : Str} {pos' : Pos} (hN : X.N.Nodup) (h : PD X e d) (hi : X.N[i]? = some x := by rfl) (hx : Loc X.env.scope x := by exact Or.inl rfl) (hs : swapsWith e (some (.Name x pos')) pos.line X.env = pure false := by rfl)
    (hf : X.fn x = true ∨ X.env.scope.names.lookup x = some .local := by exact .inl rfl) : PDS X (.Assign [.Name x pos'] e pos) (dAsg d i) := by
  obtain ⟨t, p, l⟩ := h
  exact ⟨_, ps_set hN hi hx p hs hf, fun D' ρ μ h W σ H he r D hd => l ρ μ _ h W σ H he r _ fun v s W1 H1 μ1 le1 r1 hs q => hd.nx _ _ W1 H1 μ1 le1 r1 ((he.mono le1).set i hs) q⟩
theorem pd_if {c : Expr} {sa sb : List Stmt} (hc : PDT X c t) (ha : PDSs X sa a) (hb : PDSs X sb b) : PDS X (.If c sa sb pos) (dIfS t a b) := by
  obtain ⟨tc, p, l⟩ := hc
  obtain ⟨t1, p1, l1⟩ := ha
  obtain ⟨t2, p2, l2⟩ := hb
  refine ⟨_, ps_if p p1 p2, fun D' ρ μ h W σ H he r D hd => l ρ μ _ h W σ H he r _ fun k W1 H1 μ1 le1 r1 q => ?_⟩
  cases k with
  | true => exact l1 D' ρ μ1 q W1 σ H1 (he.mono le1) r1 D (hd.le le1)
  | false => exact l2 D' ρ μ1 q W1 σ H1 (he.mono le1) r1 D (hd.le le1)
theorem pd_par {i j : Nat} {x y : Str} {e1 e2 : Expr} {ar : DA} {px py pt : Pos} {kt k2 pt2} (hc : X.calm = true) (hN : X.N.Nodup) (ha : PDA X [e1, e2] ar) (hi : X.N[i]? = some x := by rfl) (hj : X.N[j]? = some y := by rfl) (hij : i ≠ j := by decide)
    (hx : X.env.scope.names.lookup x = some .local := by rfl) (hy : X.env.scope.names.lookup y = some .local := by rfl)
    (hw : swappedStores [.Tuple [.Name x px, .Name y py] kt pt] (.Tuple [e1, e2] k2 pt2) X.env = pure (some [x, y]) := by rfl)
    (hs : swapsWithSole [.Tuple [.Name x px, .Name y py] kt pt] (.Tuple [e1, e2] k2 pt2) pos.line X.env = pure false := by rfl) :
    PDS X (.Assign [.Tuple [.Name x px, .Name y py] kt pt] (.Tuple [e1, e2] k2 pt2) pos) (dPar i j ar) := by
  obtain ⟨t, p, l⟩ := ha
  refine ⟨_, ps_par hc hN hi hj hij hx hy p hw hs, fun D' ρ μ h W σ H he r D hd => l ρ μ _ h W σ H he r _ fun vs ss W1 H1 μ1 le1 r1 hss q => ?_⟩
  match ss, hss, q with
  | [s, t], hss, q =>
    obtain ⟨v, u, rfl, h1, h2⟩ := slAll2 hss
    exact ⟨v, u, rfl, hd.nx _ _ W1 H1 μ1 le1 r1 (((he.mono le1).set i h1).set j h2) q⟩
def rIadd : DR2 := fun x y μ Q => match rd μ x, rd μ y with
  | some (.int i), some (.int j) => Q (.dat (.int (i + j))) μ
  | some (.str i), some (.str j) => i.length + j.length ≤ sizeLine ∧ Q (.dat (.str (i ++ j))) μ
  | _, _ => False
end
abbrev DG := Sl → Rho → Mu → (Rho → Mu → Prop) → Prop
abbrev DGs := List Sl → Rho → Mu → (Rho → Mu → Prop) → Prop
def LG (K : PySem.W.Frag) (g : TG) (d : DG) : Prop := ∀ s ρ μ Q', d s ρ μ Q' → ∀ W σ H v, EnvOk K W σ ρ → Rep K W H μ → SlOk K W v s → ∀ Q, NOk K W Q' Q → g v σ H Q
def LGs (K : PySem.W.Frag) (g : TGs) (d : DGs) : Prop := ∀ ss ρ μ Q', d ss ρ μ Q' → ∀ W σ H vs, EnvOk K W σ ρ → Rep K W H μ → SlAll K W vs ss → ∀ Q, NOk K W Q' Q → g vs σ H Q
structure PDG (X : Cx) (t : Expr) (d : DG) : Prop where
  ex : ∃ g, PG X t g ∧ LG X.K g d
structure PDGs (X : Cx) (ts : List Expr) (d : DGs) : Prop where
  ex : ∃ g, PGs X ts g ∧ LGs X.K g d
def gN (i : Nat) : DG := fun s ρ μ Q => Q (ρ.set i (some s)) μ
def gsNil : DGs := fun ss ρ μ Q => match ss with
  | [] => Q ρ μ
  | _ => False
def gsCons (g : DG) (gs : DGs) : DGs := fun ss ρ μ Q => match ss with
  | s :: r => g s ρ μ fun ρ1 μ1 => gs r ρ1 μ1 Q
  | [] => False
def gT (n : Nat) (gs : DGs) : DG := fun s ρ μ Q => match rd μ s with
  | some (.tuple ds) => ds.length = n ∧ gs (ds.map (elt s)) ρ μ Q
  | _ => False
def wrL (o i v : Sl) (μ : Mu) (Q : Mu → Prop) : Prop := match o, i, v with
  | .cell k, .dat (.int j), .dat d => match μ[k]? with
    | some (.lst ds) => ∃ m, ixN ds.length j = some m ∧ Q (μ.set k (.lst (ds.set m d)))
    | _ => False
  | _, _, _ => False
def gS (o i : DE) : DG := fun s ρ μ Q => o ρ μ fun x μ1 => i ρ μ1 fun y μ2 => wrL x y s μ2 fun μ3 => Q ρ μ3
def dAsgG (d : DE) (g : DG) : DS := fun D ρ μ => d ρ μ fun s μ1 => g s ρ μ1 D.nx
section
variable {X : Cx} {K : PySem.W.Frag} {pos : Pos} {e : Expr} {es : List Expr} {d : DE}
theorem its_sl {W : Wd} {s : Sl} : ∀ {xs : List V} {ds : List PyData}, DvAll K (bh W (isV s)) xs ds → SlAll K W xs (ds.map (elt s))
  | _, _, .nil => .nil
  | _, _, .cons a t => .cons (slOk_mk a) (its_sl t)
theorem pdg_name {i : Nat} {x : Str} (hN : X.N.Nodup) (hi : X.N[i]? = some x := by rfl) (hx : Loc X.env.scope x := by exact Or.inl rfl) (hf : X.fn x = true ∨ X.env.scope.names.lookup x = some .local := by first | exact .inl rfl | exact .inr rfl) : PDG X (.Name x pos) (gN i) :=
  ⟨_, pg_name hN hi hx hf, fun s ρ μ Q' h W σ H v he r hs Q q => q _ _ W H μ (Le.refl W) r (he.set i hs) h⟩
theorem pdgs_nil : PDGs X [] gsNil := ⟨_, pgs_nil, fun ss ρ μ Q' h W σ H vs he r hs Q q => by
  cases ss with
  | nil => cases hs; exact ⟨rfl, q _ _ W H μ (Le.refl W) r he h⟩
  | cons s r => exact False.elim h⟩
theorem pdgs_cons {g : DG} {gs : DGs} (h1 : PDG X e g) (h2 : PDGs X es gs) (hs : (assignEach (e :: es) X.env).map (·.2) = assign e X.env :: (assignEach es X.env).map (·.2) := by rfl) : PDGs X (e :: es) (gsCons g gs) := by
  obtain ⟨t1, p1, l1⟩ := h1
  obtain ⟨t2, p2, l2⟩ := h2
  refine ⟨_, pgs_cons p1 p2 hs, fun ss ρ μ Q' h W σ H vs he r hss Q q => ?_⟩
  cases hss with
  | nil => exact False.elim h
  | cons a t =>
    exact ⟨_, _, rfl, l1 _ ρ μ _ h W σ H _ he r a _ fun σ1 ρ1 W1 H1 μ1 le1 r1 he1 h1 => l2 _ ρ1 μ1 Q' h1 W1 σ1 H1 _ he1 r1 (SlAll.mono le1 t) Q (q.le le1)⟩
theorem pdg_tup {k n : Nat} {gs : DGs} (hc : X.calm = true) (h : PDGs X es gs) (hn : (assignEach es X.env).length = n := by rfl) (hst : (assignEach es X.env).findIdx? (·.1) = none := by rfl) : PDG X (.Tuple es k pos) (gT n gs) := by
  obtain ⟨t1, p1, l1⟩ := h
  refine ⟨_, pg_tup hc p1 hn hst, fun s ρ μ Q' h W σ H v he r hs Q q => ?_⟩
  unfold gT at h
  split at h
  · rename_i ds e1
    obtain ⟨a, xs, rfl, hx, hi⟩ := rd_tup r hs e1
    exact ⟨a, xs, rfl, hx, by rw [hi.length]; exact h.1, l1 _ ρ μ Q' h.2 W σ H xs he r (its_sl hi) Q q⟩
  · exact h.elim
theorem pdg_sub {o i : Expr} {od id : DE} (ho : PD X o od) (hi : PD X i id) (ha : ∀ v, assign (.Subscript o i pos) X.env v = (do
      let ov ← holding [v] (eval o X.env)
      let iv ← holding [v, ov] (eval i X.env)
      standAt pos
      holding [v, ov, iv] (setItem ov iv v)
      release [v, ov, iv] []) := by intro _; rfl) : PDG X (.Subscript o i pos) (gS od id) := by
  obtain ⟨t1, p1, l1⟩ := ho
  obtain ⟨t2, p2, l2⟩ := hi
  refine ⟨_, pg_sub p1 p2 set_list ha, fun s ρ μ Q' h W σ H v he r hs Q q => l1 ρ μ _ h W σ H he r _ fun ov o1 W1 H1 μ1 le1 r1 h1 q1 => l2 ρ μ1 _ q1 W1 σ H1 (he.mono le1) r1 _ fun iv i1 W2 H2 μ2 le2 r2 h2 q2 => ?_⟩
  replace q2 : wrL o1 i1 s μ2 (fun μ3 => Q' ρ μ3) := q2
  unfold wrL at q2
  split at q2
  · rename_i k j dd
    split at q2
    · rename_i ds e1
      obtain ⟨m, hm, hq⟩ := q2
      obtain ⟨a, ha, rfl⟩ := h1.mono le2
      obtain ⟨_, ob, hob, hc⟩ := r2.cell k a _ ha e1
      cases ob <;> first | exact False.elim hc | skip
      rename_i xs
      replace hc : DvAll X.K W2.G xs ds := hc
      cases (show Dv X.K W2.G iv (.int j) from h2)
      have hv : Dv X.K W2.G v dd := (hs.mono (le1.trans le2))
      refine ⟨a, xs, j, m, rfl, rfl, hob, by rw [hc.length]; exact hm, ?_⟩
      exact q _ _ W2 _ _ (le1.trans le2) (r2.write ha (show CellOk X.K W2.G (.lst (xs.set m v)) (.lst (ds.set m dd)) from hc.set m hv)) (he.mono (le1.trans le2)) hq
    · exact q2.elim
  · exact q2.elim
theorem pd_asgG {tg : Expr} {g : DG} (he : PD X e d) (hg : PDG X tg g) (hs : swapsWithSole [tg] e pos.line X.env = pure false := by rfl) (hw : swappedStores [tg] e X.env = pure none := by rfl)
    (h1 : (assignEach [tg] X.env).map (·.2) = [assign tg X.env] := by rfl) : PDS X (.Assign [tg] e pos) (dAsgG d g) := by
  obtain ⟨t1, p1, l1⟩ := he
  obtain ⟨t2, p2, l2⟩ := hg
  exact ⟨_, ps_asg p1 p2 hs hw h1, fun D' ρ μ h W σ H he r D hd => l1 ρ μ _ h W σ H he r _ fun v s W1 H1 μ1 le1 r1 hs q => l2 s ρ μ1 _ q W1 σ H1 v (he.mono le1) r1 hs _ (hd.nx.le le1)⟩
end
end DL
namespace DL
open PySem PySem.Spec PyProof.Rows L2 Evl
def whileD (c : DT) (b : DS) (D : DEnds) : Nat → Rho → Mu → Prop
  | 0, _, _ => False
  | n + 1, ρ, μ => c ρ μ fun t μ1 => if t = true then b { D with nx := whileD c b D n, ct := whileD c b D n, bk := D.nx } ρ μ1 else D.nx ρ μ1
def dWhile (c : DT) (b : DS) : DS := fun D ρ μ => ∃ n, whileD c b D n ρ μ
section
variable {X : Cx} {K : PySem.W.Frag} {pos : Pos}
theorem ls_while {tc : TT} {tb : TS} {c : DT} {b : DS} (hc : LT K tc c) (hb : LS K tb b) : LS K (tWhile tc tb) (dWhile c b) := fun D' ρ μ h W σ H he r D hd => by
  obtain ⟨n, h⟩ := h
  refine ⟨fun m σ' H' => ∃ ρ' μ' W', Le W W' ∧ EnvOk K W' σ' ρ' ∧ Rep K W' H' μ' ∧ whileD c b D' m ρ' μ', ⟨n, ρ, μ, W, Le.refl W, he, r, h⟩, fun m σ' H' hW => ?_⟩
  obtain ⟨ρ', μ', W', le, he', r', h'⟩ := hW
  cases m with
  | zero => exact h'.elim
  | succ m =>
    refine hc ρ' μ' _ h' W' σ' H' he' r' _ fun k W1 H1 μ1 le1 r1 q => ?_
    cases k with
    | true =>
      refine ⟨fun σ2 H2 => ∃ ρ2 μ2 W2, Le W W2 ∧ EnvOk K W2 σ2 ρ2 ∧ Rep K W2 H2 μ2 ∧ whileD c b D' m ρ2 μ2, fun σ2 H2 h2 => ⟨m, Nat.lt_succ_self m, h2⟩, ?_⟩
      have turn : NOk K W1 (whileD c b D' m) (fun σ2 H2 => ∃ ρ2 μ2 W2, Le W W2 ∧ EnvOk K W2 σ2 ρ2 ∧ Rep K W2 H2 μ2 ∧ whileD c b D' m ρ2 μ2) := fun σ2 ρ2 W2 H2 μ2 le2 r2 he2 q2 => ⟨ρ2, μ2, W2, (le.trans le1).trans le2, he2, r2, q2⟩
      have hd1 := hd.le (le.trans le1)
      exact hb _ ρ' μ1 q W1 σ' H1 (he'.mono le1) r1 _ ⟨turn, hd1.rt, hd1.nx, turn⟩
    | false => exact hd.nx σ' ρ' W1 H1 μ1 (le.trans le1) r1 (he'.mono le1) q
theorem pd_while {c : Expr} {body : List Stmt} {dc : DT} {b : DS} (hp : PassesOwn (model X.prog X.w) X.A X.env X.xe) (hc : PDT X c dc) (hb : PDSs X body b) : PDS X (.While c body [] pos) (dWhile dc b) := by
  obtain ⟨t1, p1, l1⟩ := hc
  obtain ⟨t2, p2, l2⟩ := hb
  exact ⟨_, ps_while hp p1 p2, ls_while l1 l2⟩
end
def ItOk (K : PySem.W.Frag) (W : Wd) (J : It) (ss : List Sl) (C : Mu → Prop) : Prop :=
  ∀ W2 H2 μ2, Le W W2 → Rep K W2 H2 μ2 → C μ2 → ∀ i : Nat,
    (ss.length ≤ i → J.stop i H2) ∧ (∀ s, ss[i]? = some s → J.go i H2 ∧ ∀ x H', J.yld i H2 x H' → ∃ W3, Le W2 W3 ∧ Rep K W3 H' μ2 ∧ SlOk K W3 x s)
theorem ItOk.le {K : PySem.W.Frag} {W W' : Wd} (l : Le W W') {J : It} {ss : List Sl} {C : Mu → Prop} (h : ItOk K W J ss C) : ItOk K W' J ss C := fun W2 H2 μ2 l2 => h W2 H2 μ2 (l.trans l2)
abbrev DI := Rho → Mu → (List Sl → (Mu → Prop) → Mu → Prop) → Prop
def LI (K : PySem.W.Frag) (t : TI) (d : DI) : Prop := ∀ ρ μ R', d ρ μ R' → ∀ W σ H, EnvOk K W σ ρ → Rep K W H μ → ∀ R : It → Hp → Prop,
  (∀ J ss C W' H' μ', Le W W' → Rep K W' H' μ' → ItOk K W' J ss C → R' ss C μ' → R J H') → t σ H R
structure PDI (X : Cx) (tg iter : Expr) (d : DI) : Prop where
  ex : ∃ t, PI X tg iter t ∧ LI X.K t d
def iSeq (d : DE) : DI := fun ρ μ R => d ρ μ fun x μ1 => match rd μ1 x with
  | some (.list ds) => R (ds.map (elt x)) (fun ν => rd ν x = some (.list ds)) μ1
  | some (.tuple ds) => R (ds.map (elt x)) (fun _ => True) μ1
  | _ => False
section
variable {X : Cx} {K : PySem.W.Frag} {tg l : Expr} {d : DE} {p pos : Pos}
theorem rd_tup_keep {W W' : Wd} {v : V} {μ μ' : Mu} {s : Sl} {ds : List PyData} (h : SlOk K W v s) (e : rd μ s = some (.tuple ds)) : rd μ' s = some (.tuple ds) := by
  cases s with
  | dat d' => exact e
  | vw d' => exact e
  | raw w => exact e
  | cell k =>
    replace e : rdC μ[k]? = _ := e
    cases qq : μ[k]? with
    | none => rw [qq] at e; cases e
    | some c => rw [qq] at e; cases c <;> cases e
def iAny (K : PySem.W.Frag) (tl : TE) : TI := fun σ H R => tl σ H fun x H1 => ∃ a, x = .ref a ∧ (((∃ xs, SqL K H1 a xs) ∧ R (Itl K a) H1) ∨ ((∃ xs, SqT K H1 a xs) ∧ R (Itt K a) H1))
theorem pi_any {tl : TE} (hl : PE X l tl) : PI X tg l (iAny X.K tl) := by
  refine ⟨fun pins s σ H R I h => ?_⟩
  refine thn (hl.run pins s σ H _ I h) fun v s1 ⟨x, H1, I1, r1, q1⟩ => ?_
  obtain ⟨a, e, q1⟩ := q1
  subst e
  cases r1
  have old : s1.heap.objs.size ≤ s1.heap.objs.size := Nat.le_refl _
  rcases q1 with ⟨⟨xs, hq⟩, q⟩ | ⟨⟨xs, hq⟩, q⟩
  · obtain ⟨its, rv, p, hz⟩ := I1.list hq
    refine wpAny_pyIter_list p.isList ⟨s1.heap.objs.size, [s1.heap.objs.size], _, _, H1, rfl, I1.kept (t' := s1.toks) fun b o e => Heap.get?_push_of_some _ e, turn_list a _, ⟨_, Heap.get?_push_size _ rfl, rfl, rfl⟩, fun b hb => ?_, q⟩
    cases List.mem_singleton.mp hb
    exact I1.fpOk old (I1.hok.fresh old)
  · obtain ⟨its, rv, p, hz⟩ := I1.tuple hq
    refine wpAny_pyIter_tuple (show s1.heap.IsTuple a its.toArray from p) ⟨s1.heap.objs.size, [s1.heap.objs.size], _, _, H1, rfl, I1.kept (t' := s1.toks) fun b o e => Heap.get?_push_of_some _ e, turn_tuple a _, ⟨_, Heap.get?_push_size _ rfl, rfl, rfl⟩, fun b hb => ?_, q⟩
    cases List.mem_singleton.mp hb
    exact I1.fpOk old (I1.hok.fresh old)
theorem li_any {tl : TE} (h : LE K tl d) : LI K (iAny K tl) (iSeq d) := fun ρ μ R' hd W σ H he r R q => h ρ μ _ hd W σ H he r _ fun v x W1 H1 μ1 le1 r1 hs h1 => by
  replace h1 : (match rd μ1 x with | some (.list ds) => R' (ds.map (elt x)) (fun ν => rd ν x = some (.list ds)) μ1 | some (.tuple ds) => R' (ds.map (elt x)) (fun _ => True) μ1 | _ => False) := h1
  split at h1
  · rename_i ds e1
    obtain ⟨a, xs, rfl, hl, hi⟩ := rd_lst r1 hs e1
    refine ⟨a, rfl, .inl ⟨⟨xs, hl⟩, q _ _ _ W1 H1 μ1 le1 r1 (fun W2 H2 μ2 le2 r2 hC i => ?_) h1⟩⟩
    obtain ⟨a', ys, ea, hl2, hi2⟩ := rd_lst r2 (hs.mono le2) hC
    cases ea
    refine ⟨fun hle => ⟨ys, hl2, by rw [hi2.length]; simpa using hle⟩, fun s es => ?_⟩
    rw [List.getElem?_map] at es
    cases ed : ds[i]? with
    | none => rw [ed] at es; cases es
    | some dd =>
      rw [ed] at es
      cases es
      obtain ⟨w, hw, hok⟩ := hi2.get ed
      refine ⟨⟨ys, w, hl2, hw⟩, fun y H' hy => ?_⟩
      obtain ⟨rfl, fy⟩ := hy
      have := (fy _ hl2).symm.trans hw
      cases this
      exact ⟨W2, Le.refl W2, r2, hok⟩
  · rename_i ds e1
    obtain ⟨a, xs, rfl, hl, hi⟩ := rd_tup r1 hs e1
    refine ⟨a, rfl, .inr ⟨⟨xs, hl⟩, q _ _ _ W1 H1 μ1 le1 r1 (fun W2 H2 μ2 le2 r2 hC i => ?_) h1⟩⟩
    obtain ⟨a', ys, ea, hl2, hi2⟩ := rd_tup r2 (hs.mono le2) (rd_tup_keep (W' := W2) (μ' := μ2) hs e1)
    cases ea
    refine ⟨fun hle => ⟨ys, hl2, by rw [hi2.length]; simpa using hle⟩, fun s es => ?_⟩
    rw [List.getElem?_map] at es
    cases ed : ds[i]? with
    | none => rw [ed] at es; cases es
    | some dd =>
      rw [ed] at es
      cases es
      obtain ⟨w, hw, hok⟩ := hi2.get ed
      refine ⟨⟨ys, w, hl2, hw⟩, fun y H' hy => ?_⟩
      obtain ⟨rfl, fy⟩ := hy
      have := (fy _ hl2).symm.trans hw
      cases this
      exact ⟨W2, Le.refl W2, r2, hok⟩
  · exact h1.elim
theorem pdi_seq (h : PD X l d) : PDI X tg l (iSeq d) := by
  obtain ⟨t, p, lh⟩ := h
  exact ⟨_, pi_any p, li_any lh⟩
def rgI (lo : Int) (n : Nat) : List Sl := (List.range n).map fun (i : Nat) => Sl.dat (.int (lo + (i : Int)))
def iRg1 (a : DA) : DI := fun ρ μ R => a ρ μ fun ss μ1 => match ss with
  | [.dat (.int j)] => (-(2 ^ 62) ≤ j ∧ j < 2 ^ 62) ∧ R (rgI 0 j.toNat) (fun _ => True) μ1
  | _ => False
def iRg2 (a : DA) : DI := fun ρ μ R => a ρ μ fun ss μ1 => match ss with
  | [.dat (.int i), .dat (.int j)] => (-(2 ^ 62) ≤ i ∧ i < 2 ^ 62 ∧ -(2 ^ 62) ≤ j ∧ j < 2 ^ 62) ∧ R (rgI i (j - i).toNat) (fun _ => True) μ1
  | _ => False
theorem itOk_rg {W : Wd} (lo : Int) (n : Nat) : ItOk K W (Itr lo n) (rgI lo n) (fun _ => True) := fun W2 H2 μ2 le2 r2 _ i => by
  refine ⟨fun h => show n ≤ i by simpa [rgI] using h, fun s es => ?_⟩
  unfold rgI at es
  rw [List.getElem?_map] at es
  cases ed : (List.range n)[i]? with
  | none => rw [ed] at es; cases es
  | some j =>
    rw [ed] at es
    cases es
    obtain ⟨hl, e⟩ := List.getElem?_eq_some_iff.mp ed
    have hi : i < n := by simpa using hl
    have ej : j = i := by rw [List.getElem_range] at e; exact e.symm
    subst ej
    exact ⟨hi, fun x H' hy => by obtain ⟨rfl, rfl⟩ := hy; exact ⟨W2, Le.refl W2, r2, Dv.int _⟩⟩
theorem pdi_range1 {a : Expr} {da : DA} (ha : PDA X [a] da) (hm : X.mg "range" = none) (hg : Gl X "range" := by rfl) (hs : starEach [a] X.env = [(false, eval a X.env)] := by rfl) : PDI X tg (.Call (.Name "range" p) [a] [] pos) (iRg1 da) := by
  obtain ⟨t, p1, l1⟩ := ha
  refine ⟨_, pi_range1 hg hm p1 hs, fun ρ μ R' hd W σ H he r R q => l1 ρ μ _ hd W σ H he r _ fun vs ss W1 H1 μ1 le1 r1 hss h1 => ?_⟩
  match ss, hss, h1 with
  | [.dat (.int j)], hss, h1 =>
    obtain ⟨v, rfl, hv⟩ := slAll1 hss
    cases (show Dv X.K W1.G v (.int j) from hv)
    exact ⟨j, rfl, h1.1.1, h1.1.2, q _ _ _ W1 H1 μ1 le1 r1 (itOk_rg 0 j.toNat) h1.2⟩
theorem pdi_range2 {a b : Expr} {da : DA} (ha : PDA X [a, b] da) (hm : X.mg "range" = none) (hg : Gl X "range" := by rfl) (hs : starEach [a, b] X.env = [(false, eval a X.env), (false, eval b X.env)] := by rfl) (hs2 : starEach [b] X.env = [(false, eval b X.env)] := by rfl) :
    PDI X tg (.Call (.Name "range" p) [a, b] [] pos) (iRg2 da) := by
  obtain ⟨t, p1, l1⟩ := ha
  refine ⟨_, pi_range2 hg hm p1 hs hs2, fun ρ μ R' hd W σ H he r R q => l1 ρ μ _ hd W σ H he r _ fun vs ss W1 H1 μ1 le1 r1 hss h1 => ?_⟩
  match ss, hss, h1 with
  | [.dat (.int i), .dat (.int j)], hss, h1 =>
    obtain ⟨v, u, rfl, hv, hu⟩ := slAll2 hss
    cases (show Dv X.K W1.G v (.int i) from hv)
    cases (show Dv X.K W1.G u (.int j) from hu)
    exact ⟨i, j, rfl, h1.1, q _ _ _ W1 H1 μ1 le1 r1 (itOk_rg i (j - i).toNat) h1.2⟩
end
def forD (C : Mu → Prop) (g : DG) (b : DS) (D : DEnds) : List Sl → Rho → Mu → Prop
  | [], ρ, μ => C μ ∧ D.nx ρ μ
  | s :: ss, ρ, μ => C μ ∧ g s ρ μ fun ρ1 μ1 => b { D with nx := forD C g b D ss, ct := forD C g b D ss, bk := D.nx } ρ1 μ1
def dFor (i : DI) (g : DG) (b : DS) : DS := fun D ρ μ => i ρ μ fun ss C μ1 => forD C g b D ss ρ μ1
section
variable {X : Cx} {K : PySem.W.Frag} {pos : Pos}
theorem ls_for {ti : TI} {tg : TG} {tb : TS} {i : DI} {g : DG} {b : DS} (hi : LI K ti i) (hg : LG K tg g) (hb : LS K tb b) : LS K (tFor ti tg tb) (dFor i g b) := fun D' ρ μ h W σ H he r D hd =>
  hi ρ μ _ h W σ H he r _ fun J ss C W0 H0 μ0 le0 r0 hJ h0 => by
    refine ⟨fun j m σ' H' => ∃ ρ' μ' W', Le W0 W' ∧ EnvOk K W' σ' ρ' ∧ Rep K W' H' μ' ∧ j + m = ss.length ∧ forD C g b D' (ss.drop j) ρ' μ', ⟨ss.length, ρ, μ0, W0, Le.refl W0, he.mono le0, r0, Nat.zero_add _, h0⟩, fun j m σ' H' hW => ?_⟩
    obtain ⟨ρ', μ', W', le, he', r', em, h'⟩ := hW
    cases hs : ss.drop j with
    | nil =>
      rw [hs] at h'
      have hl : ss.length ≤ j := by
        have := congrArg List.length hs
        rw [List.length_drop] at this
        simp at this
        omega
      exact .inl ⟨(hJ W' H' μ' le r' h'.1 j).1 hl, hd.nx σ' ρ' W' H' μ' (le0.trans le) r' he' h'.2⟩
    | cons s rest =>
      rw [hs] at h'
      have hl : j < ss.length := by
        have := congrArg List.length hs
        rw [List.length_drop] at this
        simp at this
        omega
      have hget : ss[j]? = some s := by
        have := congrArg (fun l => l[0]?) hs
        simpa [List.getElem?_drop] using this
      have hrest : ss.drop (j + 1) = rest := by
        rw [← List.drop_drop, hs]
        rfl
      obtain ⟨hgo, hy⟩ := (hJ W' H' μ' le r' h'.1 j).2 s hget
      refine .inr ⟨hgo, fun σ2 H2 => ∃ ρ2 μ2 W2, Le W0 W2 ∧ EnvOk K W2 σ2 ρ2 ∧ Rep K W2 H2 μ2 ∧ forD C g b D' rest ρ2 μ2, fun σ2 H2 h2 => ?_, fun x H1 hx => ?_⟩
      · obtain ⟨ρ2, μ2, W2, a1, a2, a3, a4⟩ := h2
        exact ⟨m - 1, by omega, ρ2, μ2, W2, a1, a2, a3, by omega, by rw [hrest]; exact a4⟩
      · obtain ⟨W3, le3, r3, hs3⟩ := hy x H1 hx
        refine hg s ρ' μ' _ h'.2 W3 σ' H1 x (he'.mono le3) r3 hs3 _ fun σ4 ρ4 W4 H4 μ4 le4 r4 he4 q4 => ?_
        have turn : NOk K W4 (forD C g b D' rest) (fun σ2 H2 => ∃ ρ2 μ2 W2, Le W0 W2 ∧ EnvOk K W2 σ2 ρ2 ∧ Rep K W2 H2 μ2 ∧ forD C g b D' rest ρ2 μ2) := fun σ2 ρ2 W2 H2 μ2 le2 r2 he2 q2 => ⟨ρ2, μ2, W2, ((le.trans le3).trans le4).trans le2, he2, r2, q2⟩
        have hd1 := hd.le (((le0.trans le).trans le3).trans le4)
        exact hb _ ρ4 μ4 q4 W4 σ4 H4 he4 r4 _ ⟨turn, hd1.rt, hd1.nx, turn⟩
theorem pd_for {tg iter : Expr} {body : List Stmt} {i : DI} {g : DG} {b : DS} (hp : PassesOwn (model X.prog X.w) X.A X.env X.xe) (hc : X.calm = true) (hi : PDI X tg iter i) (hg : PDG X tg g) (hb : PDSs X body b)
    (hs : ∀ x, foldedSetIterable iter X.env x = pure x := by intro _; rfl) : PDS X (.For tg iter body [] pos) (dFor i g b) := by
  obtain ⟨t1, p1, l1⟩ := hi
  obtain ⟨t2, p2, l2⟩ := hg
  obtain ⟨t3, p3, l3⟩ := hb
  exact ⟨_, ps_for hp hc p1 p2 p3 hs, ls_for l1 l2 l3⟩
end
end DL
namespace DL
open PySem PySem.Spec PyProof.Rows L2 Evl
section
variable {K : PySem.W.Frag} {W : Wd} {H : Hp} {μ : Mu}
def Wd.cut (W : Wd) (n : Nat) : Wd := ⟨W.G, W.F, W.ad.take n⟩
def Wd.frz (W : Wd) (a : Addr) (o : HO) (n : Nat) : Wd := ⟨upd W.G a o, upd W.F a o, W.ad.take n⟩
theorem take_some {α : Type} {l : List α} {n k : Nat} {x : α} (h : (l.take n)[k]? = some x) : l[k]? = some x ∧ k < n := by
  have hk : k < (l.take n).length := (List.getElem?_eq_some_iff.mp h).1
  rw [List.length_take] at hk
  have hn : k < n := by omega
  rw [List.getElem?_take_of_lt hn] at h
  exact ⟨h, hn⟩
theorem Rep.cut (r : Rep K W H μ) (n : Nat) : Rep K (W.cut n) H (μ.take n) :=
  ⟨r.gf, r.fh, by show (W.ad.take n).length = _; rw [List.length_take, List.length_take, r.len], fun i j a hi hj => r.nd i j a (take_some hi).1 (take_some hj).1, fun k a c ha hc => r.cell k a c (take_some ha).1 (take_some hc).1⟩
theorem Le.cut {W0 : Wd} (l : Le W0 W) {n : Nat} (hn : W0.ad.length ≤ n) : Le W0 (W.cut n) := ⟨l.g, l.f, l.n, fun k x h => by
  have hk : k < W0.ad.length := (List.getElem?_eq_some_iff.mp h).1
  show (W.ad.take n)[k]? = some x
  rw [List.getElem?_take_of_lt (by omega)]
  exact l.a k x h⟩
theorem Rep.frz (r : Rep K W H μ) {k : Nat} {a : Addr} {xs : List V} (ha : W.ad[k]? = some a) (hH : H a = some (.lst xs)) (n : Nat) (hn : n ≤ k) : Rep K (W.frz a (.lst xs) n) H (μ.take n) := by
  have hk : k < μ.length := by rw [← r.len]; exact (List.getElem?_eq_some_iff.mp ha).1
  obtain ⟨q1, _, _, _⟩ := r.cell k a _ ha (List.getElem?_eq_getElem hk)
  refine ⟨ex_upd r.gf, fun b o e => ?_, by show (W.ad.take n).length = _; rw [List.length_take, List.length_take, r.len], fun i j a hi hj => r.nd i j a (take_some hi).1 (take_some hj).1, fun j b c hb hc => ?_⟩
  · by_cases q : b = a
    · subst q
      rw [show (W.frz b (.lst xs) n).F = upd W.F b (.lst xs) from rfl, upd_same] at e
      cases e
      exact hH
    · rw [show (W.frz a (.lst xs) n).F = upd W.F a (.lst xs) from rfl, upd_ne q] at e
      exact r.fh b o e
  · obtain ⟨hb1, hjn⟩ := take_some hb
    obtain ⟨z1, o, z2, z3⟩ := r.cell j b c hb1 (take_some hc).1
    have ne : b ≠ a := fun z => by
      subst z
      have := r.nd j k b hb1 ha
      omega
    refine ⟨?_, o, z2, z3.mono (Ex.new (fresh_back r.gf q1))⟩
    show upd W.F a (.lst xs) b = none
    rw [upd_ne ne]
    exact z1
theorem Le.frz {W0 : Wd} (l : Le W0 W) (r : Rep K W H μ) {k : Nat} {a : Addr} {xs : List V} (ha : W.ad[k]? = some a) {n : Nat} (hn : W0.ad.length ≤ n) (hF : W0.F a = none) : Le W0 (W.frz a (.lst xs) n) := by
  have hk : k < μ.length := by rw [← r.len]; exact (List.getElem?_eq_some_iff.mp ha).1
  obtain ⟨q1, _, _, _⟩ := r.cell k a _ ha (List.getElem?_eq_getElem hk)
  refine ⟨l.g.trans (Ex.new (fresh_back r.gf q1)), l.f.trans (Ex.new q1), fun b h1 h2 h3 => ?_, fun j x h => ?_⟩
  · show upd W.G a (.lst xs) b = none
    rw [upd_ne (show b ≠ a from fun z => h1 (z ▸ hF))]
    exact l.n b h1 h2 h3
  · have hj : j < W0.ad.length := (List.getElem?_eq_some_iff.mp h).1
    show (W.ad.take n)[j]? = some x
    rw [List.getElem?_take_of_lt (by omega)]
    exact l.a j x h
theorem fNone {W0 : Wd} (l : Le W0 W) (r : Rep K W H μ) {k : Nat} {a : Addr} (ha : W.ad[k]? = some a) : W0.F a = none := by
  have hk : k < μ.length := by rw [← r.len]; exact (List.getElem?_eq_some_iff.mp ha).1
  obtain ⟨q1, _, _, _⟩ := r.cell k a _ ha (List.getElem?_eq_getElem hk)
  exact fresh_back l.f q1
def frzQ (k : Nat) (Q : DQ) (μ : Mu) : Prop := match μ[k]? with
  | some (.lst ds) => Q (.dat (.list ds)) (μ.take k)
  | _ => False
theorem frz_ok {W0 : Wd} (l : Le W0 W) (r : Rep K W H μ) {k n : Nat} {a : Addr} {ds : List PyData} (ha : W.ad[k]? = some a) (hc : μ[k]? = some (.lst ds)) (hn : W0.ad.length ≤ n) (hk : n ≤ k) {Q' : DQ} {Q : VK} (q : VOk K W0 Q' Q) (h : Q' (.dat (.list ds)) (μ.take n)) : Q (.ref a) H := by
  obtain ⟨_, o, ho, hd⟩ := r.cell k a _ ha hc
  cases o <;> first | exact False.elim hd | skip
  rename_i xs
  replace hd : DvAll K W.G xs ds := hd
  refine q _ (.dat (.list ds)) (W.frz a (.lst xs) n) H _ (l.frz r ha hn (fNone l r ha)) (r.frz ha ho n hk) ?_ h
  exact .lst (.inl (.inl upd_same)) (hd.mono (Ex.new (fresh_back r.gf (r.cell k a _ ha hc).1)))
end
def wipeD (ρ : Rho) : List Nat → Rho
  | [] => ρ
  | v :: vs => (wipeD ρ vs).set v none
def addTo (k : Nat) (v : Sl) (μ : Mu) (Q : Mu → Prop) : Prop := match v, μ[k]? with
  | .dat d, some (.lst ds) => ds.length < sizeLine ∧ Q (μ.set k (.lst (ds ++ [d])))
  | _, _ => False
def lcD (C : Mu → Prop) (g : DG) (t : DT) (e : DE) (k : Nat) (Q : Mu → Prop) (ρ : Rho) : List Sl → Mu → Prop
  | [], μ => C μ ∧ Q μ
  | s :: ss, μ => C μ ∧ g s ρ μ fun ρ1 μ1 => t ρ1 μ1 fun b μ2 => if b = true then e ρ1 μ2 fun v μ3 => addTo k v μ3 (lcD C g t e k Q ρ ss) else lcD C g t e k Q ρ ss μ2
def dLcQ (F : Nat → DQ → Mu → Prop) (i : DI) (g : DG) (t : DT) (e : DE) (vs : List Nat) : DE := fun ρ μ Q => i ρ μ fun ss C μ1 => lcD C g t e μ1.length (F μ1.length Q) (wipeD ρ vs) ss (μ1 ++ [.lst []])
def dLc : DI → DG → DT → DE → List Nat → DE := dLcQ frzQ
def dLcC : DI → DG → DT → DE → List Nat → DE := dLcQ fun k Q μ => Q (.cell k) μ
def dYes : DT := fun _ μ Q => Q true μ
def teOf (K : PySem.W.Frag) (d : DE) : TE := fun σ H Q => ∃ W ρ μ Q', EnvOk K W σ ρ ∧ Rep K W H μ ∧ d ρ μ Q' ∧ VOk K W Q' Q
def ttOf (K : PySem.W.Frag) (d : DT) : TT := fun σ H Q => ∃ W ρ μ Q', EnvOk K W σ ρ ∧ Rep K W H μ ∧ d ρ μ Q' ∧ BOk K W Q' Q
theorem PD.of {X : Cx} {e : Expr} {d : DE} (h : PD X e d) : PE X e (teOf X.K d) := by
  obtain ⟨t, p, l⟩ := h
  exact ⟨fun pins s σ H Q I ⟨W, ρ, μ, Q', he, r, hd, q⟩ => p.run pins s σ H Q I (l ρ μ Q' hd W σ H he r Q q)⟩
theorem PDT.of {X : Cx} {e : Expr} {d : DT} (h : PDT X e d) : PT X e (ttOf X.K d) := by
  obtain ⟨t, p, l⟩ := h
  exact ⟨fun pins s σ H Q I ⟨W, ρ, μ, Q', he, r, hd, q⟩ => p.run pins s σ H Q I (l ρ μ Q' hd W σ H he r Q q)⟩
theorem le_of (K : PySem.W.Frag) (d : DE) : LE K (teOf K d) d := fun ρ μ Q' h W σ H he r Q q => ⟨W, ρ, μ, Q', he, r, h, q⟩
theorem lt_of (K : PySem.W.Frag) (d : DT) : LT K (ttOf K d) d := fun ρ μ Q' h W σ H he r Q q => ⟨W, ρ, μ, Q', he, r, h, q⟩
def Keeps (g : TG) (vs : List Nat) : Prop := ∀ v σ H Q Q2 σ0, wipe σ vs = wipe σ0 vs → (∀ σ2 H2, wipe σ2 vs = wipe σ0 vs → Q σ2 H2 → Q2 σ2 H2) → g v σ H Q → g v σ H Q2
def KeepsS (g : TGs) (vs : List Nat) : Prop := ∀ v σ H Q Q2 σ0, wipe σ vs = wipe σ0 vs → (∀ σ2 H2, wipe σ2 vs = wipe σ0 vs → Q σ2 H2 → Q2 σ2 H2) → g v σ H Q → g v σ H Q2
theorem wipe_set {j : Nat} {x : Option V} : ∀ {vs : List Nat} {σ : L2.St}, j ∈ vs → wipe (σ.set j x) vs = wipe σ vs
  | v :: vs, σ, h => by
    by_cases e : j ∈ vs
    · show (wipe (σ.set j x) vs).set v none = (wipe σ vs).set v none
      rw [wipe_set e]
    · have ej : j = v := by
        rcases List.mem_cons.mp h with h | h
        · exact h
        · exact absurd h e
      subst ej
      have out : ∀ (us : List Nat) (τ : L2.St), j ∉ us → wipe (τ.set j x) us = (wipe τ us).set j x := fun us => by
        induction us with
        | nil => intro τ _; rfl
        | cons u us ih =>
          intro τ hu
          have h1 : j ≠ u := fun z => hu (z ▸ List.mem_cons_self)
          show (wipe (τ.set j x) us).set u none = ((wipe τ us).set u none).set j x
          rw [ih τ (fun z => hu (List.mem_cons_of_mem _ z)), List.set_comm _ _ h1]
      show (wipe (σ.set j x) vs).set j none = (wipe σ vs).set j none
      rw [out vs σ e, List.set_set]
theorem keeps_name {j : Nat} {vs : List Nat} (h : j ∈ vs) : Keeps (gName j) vs := fun v σ H Q Q2 σ0 e f q => f _ _ ((wipe_set h).trans e) q
theorem keeps_nil {vs : List Nat} : KeepsS gNil vs := fun v σ H Q Q2 σ0 e f ⟨h1, h2⟩ => ⟨h1, f _ _ e h2⟩
theorem keeps_cons {g : TG} {gs : TGs} {vs : List Nat} (h1 : Keeps g vs) (h2 : KeepsS gs vs) : KeepsS (gCons g gs) vs := fun v σ H Q Q2 σ0 e f ⟨a, r, er, q⟩ =>
  ⟨a, r, er, h1 a σ H _ _ σ0 e (fun σ1 H1 e1 q1 => h2 r σ1 H1 Q Q2 σ0 e1 f q1) q⟩
theorem keeps_tup {K : PySem.W.Frag} {n : Nat} {gs : TGs} {vs : List Nat} (h : KeepsS gs vs) : Keeps (gTup K n gs) vs := fun v σ H Q Q2 σ0 e f ⟨a, xs, e1, h1, h2, q⟩ => ⟨a, xs, e1, h1, h2, h xs σ H Q Q2 σ0 e f q⟩
theorem wipe_wipe (σ : L2.St) (vs : List Nat) : wipe (wipe σ vs) vs = wipe σ vs := by
  have key : ∀ (us : List Nat) (τ : L2.St), (∀ u ∈ us, u ∈ vs) → wipe (wipe τ us) vs = wipe τ vs := fun us => by
    induction us with
    | nil => intro τ _; rfl
    | cons u us ih =>
      intro τ h
      show wipe ((wipe τ us).set u none) vs = _
      rw [wipe_set (h u List.mem_cons_self), ih τ (fun z hz => h z (List.mem_cons_of_mem _ hz))]
  exact key vs σ (fun _ h => h)
section
variable {X : Cx} {K : PySem.W.Frag}
theorem env_wipe {W : Wd} {σ : L2.St} {ρ : Rho} (h : EnvOk K W σ ρ) : ∀ vs : List Nat, EnvOk K W (wipe σ vs) (wipeD ρ vs)
  | [] => h
  | v :: vs => by
    have ih := env_wipe h vs
    refine ⟨by show ((wipe σ vs).set v none).length = ((wipeD ρ vs).set v none).length; rw [List.length_set, List.length_set, ih.len], fun i s e => ?_⟩
    replace e : ((wipeD ρ vs).set v none)[i]? = _ := e
    show ∃ u, ((wipe σ vs).set v none)[i]? = _ ∧ _
    by_cases q : v = i
    · subst q
      have hl : v < (wipeD ρ vs).length := by
        have := (List.getElem?_eq_some_iff.mp e).1
        simpa using this
      rw [List.getElem?_set_self hl] at e
      cases e
    · rw [List.getElem?_set_ne q] at e
      rw [List.getElem?_set_ne q]
      exact ih.get i s e
structure CTg (X : Cx) (scope : Scope) (t : Expr) (vs : List Nat) (d : DG) : Prop where
  ex : ∃ g, (∀ (s : Shared) (H : Hp) (C : Addr) (cl : List (Str × Addr)) (fp : List Addr), PG (X.blk s H scope (compEnvC scope cl C X.env) fp) t g) ∧ LG X.K g d ∧ Keeps g vs
structure CTgs (X : Cx) (scope : Scope) (ts : List Expr) (vs : List Nat) (d : DGs) : Prop where
  ex : ∃ g, (∀ (s : Shared) (H : Hp) (C : Addr) (cl : List (Str × Addr)) (fp : List Addr), PGs (X.blk s H scope (compEnvC scope cl C X.env) fp) ts g) ∧ LGs X.K g d ∧ KeepsS g vs
structure CTst (X : Cx) (scope : Scope) (ifs : List Expr) (d : DT) : Prop where
  ex : ∃ t, (∀ (s : Shared) (H : Hp) (C : Addr) (cl : List (Str × Addr)) (fp : List Addr), PTs (X.blk s H scope (compEnvC scope cl C X.env) fp) ifs t) ∧ LT X.K t d
theorem ctst_nil {scope : Scope} : CTst X scope [] dYes := ⟨tYes, fun _ _ _ _ _ => pts_nil, fun ρ μ Q' h W σ H he r Q q => q true W H μ (Le.refl W) r h⟩
theorem ctst_one {scope : Scope} {c : Expr} {d : DT} (h : ∀ (s : Shared) (H : Hp) (C : Addr) (cl : List (Str × Addr)) (fp : List Addr), PDT (X.blk s H scope (compEnvC scope cl C X.env) fp) c d) : CTst X scope [c] d :=
  ⟨ttOf X.K d, fun s H C cl fp => pts_one (h s H C cl fp).of, lt_of X.K d⟩
theorem ctg_name {scope : Scope} {x : Str} {pos : Pos} {vs : List Nat} (j : Nat) (hj : j ∈ vs) (h : ∀ (s : Shared) (H : Hp) (C : Addr) (cl : List (Str × Addr)) (fp : List Addr), PG (X.blk s H scope (compEnvC scope cl C X.env) fp) (.Name x pos) (gName j)) : CTg X scope (.Name x pos) vs (gN j) :=
  ⟨_, h, fun s ρ μ Q' h W σ H v he r hs Q q => q _ _ W H μ (Le.refl W) r (he.set j hs) h, keeps_name hj⟩
theorem lgs_cons {g1 : TG} {g2 : TGs} {g : DG} {gs : DGs} (l1 : LG K g1 g) (l2 : LGs K g2 gs) : LGs K (gCons g1 g2) (gsCons g gs) := fun ss ρ μ Q' h W σ H vs he r hss Q q => by
  cases hss with
  | nil => exact False.elim h
  | cons a t =>
    exact ⟨_, _, rfl, l1 _ ρ μ _ h W σ H _ he r a _ fun σ1 ρ1 W1 H1 μ1 le1 r1 he1 h1 => l2 _ ρ1 μ1 Q' h1 W1 σ1 H1 _ he1 r1 (SlAll.mono le1 t) Q (q.le le1)⟩
theorem ctgs_nil {scope : Scope} {vs : List Nat} : CTgs X scope [] vs gsNil := ⟨gNil, fun _ _ _ _ _ => pgs_nil, fun ss ρ μ Q' h W σ H us he r hs Q q => by
  cases ss with
  | nil => cases hs; exact ⟨rfl, q _ _ W H μ (Le.refl W) r he h⟩
  | cons s r => exact False.elim h, keeps_nil⟩
theorem ctgs_cons {scope : Scope} {e : Expr} {es : List Expr} {vs : List Nat} {g : DG} {gs : DGs} (h1 : CTg X scope e vs g) (h2 : CTgs X scope es vs gs)
    (hs : ∀ (s : Shared) (H : Hp) (C : Addr) (cl : List (Str × Addr)) (fp : List Addr), (assignEach (e :: es) (X.blk s H scope (compEnvC scope cl C X.env) fp).env).map (·.2) = assign e (X.blk s H scope (compEnvC scope cl C X.env) fp).env :: (assignEach es (X.blk s H scope (compEnvC scope cl C X.env) fp).env).map (·.2) := by intros; rfl) : CTgs X scope (e :: es) vs (gsCons g gs) := by
  obtain ⟨t1, p1, l1, k1⟩ := h1
  obtain ⟨t2, p2, l2, k2⟩ := h2
  exact ⟨_, fun s H C cl fp => pgs_cons (p1 s H C cl fp) (p2 s H C cl fp) (hs s H C cl fp), lgs_cons l1 l2, keeps_cons k1 k2⟩
theorem ctg_tup {scope : Scope} {es : List Expr} {pos : Pos} {k n : Nat} {vs : List Nat} {gs : DGs} (hc : X.calm = true) (h : CTgs X scope es vs gs)
    (hn : ∀ (s : Shared) (H : Hp) (C : Addr) (cl : List (Str × Addr)) (fp : List Addr), (assignEach es (X.blk s H scope (compEnvC scope cl C X.env) fp).env).length = n := by intros; rfl)
    (hst : ∀ (s : Shared) (H : Hp) (C : Addr) (cl : List (Str × Addr)) (fp : List Addr), (assignEach es (X.blk s H scope (compEnvC scope cl C X.env) fp).env).findIdx? (·.1) = none := by intros; rfl) : CTg X scope (.Tuple es k pos) vs (gT n gs) := by
  obtain ⟨t1, p1, l1, k1⟩ := h
  refine ⟨gTup X.K n t1, fun s H C cl fp => pg_tup hc (p1 s H C cl fp) (hn s H C cl fp) (hst s H C cl fp), fun s ρ μ Q' h W σ H v he r hs Q q => ?_, keeps_tup k1⟩
  unfold gT at h
  split at h
  · rename_i ds e1
    obtain ⟨a, xs, rfl, hx, hi⟩ := rd_tup r hs e1
    exact ⟨a, xs, rfl, hx, by rw [hi.length]; exact h.1, l1 _ ρ μ Q' h.2 W σ H xs he r (its_sl hi) Q q⟩
  · exact h.elim
def FinOk (K : PySem.W.Frag) (F : Nat → DQ → Mu → Prop) : Prop := ∀ (W0 W : Wd) (H : Hp) (μ : Mu) (k : Nat) (a : Addr) (Q' : DQ) (Q : VK), Le W0 W → Rep K W H μ → W0.ad.length = k → W.ad[k]? = some a → VOk K W0 Q' Q → F k Q' μ → Q (.ref a) H
theorem fin_frz : FinOk K frzQ := fun W0 W H μ k a Q' Q l r hk ha q h => by
  unfold frzQ at h
  split at h
  · rename_i ds e
    exact frz_ok l r ha e (Nat.le_of_eq hk) (Nat.le_refl k) q h
  · exact h.elim
theorem le_lc {ti : TI} {tg : TG} {i : DI} {g : DG} {tt : TT} {t : DT} {te : TE} {e : DE} {vs : List Nat} {F : Nat → DQ → Mu → Prop} (hi : LI K ti i) (hg : LG K tg g) (hk : Keeps tg vs) (ht : LT K tt t) (hte : LE K te e) (hF : FinOk K F) :
    LE K (tLc ti tg tt te vs) (dLcQ F i g t e vs) := fun ρ μ Q' hd W σ H he r Q q =>
  hi ρ μ _ hd W σ H he r _ fun J ss C W0 H0 μ0 le0 r0 hJ h0 D hD => by
    have r1 := r0.cellNew (o := .lst []) (c := .lst []) hD (show CellOk K W0.G (.lst []) (.lst []) from .nil)
    have lc := Le.cellNew W0 D
    have hDk : (W0.cellNew D).ad[μ0.length]? = some D := by
      show (W0.ad ++ [D])[μ0.length]? = some D
      rw [List.getElem?_append_right (by rw [r0.len]; exact Nat.le_refl _), r0.len, Nat.sub_self]
      rfl
    have ew : EnvOk K W0 (wipe σ vs) (wipeD ρ vs) := env_wipe (he.mono le0) vs
    refine ⟨fun j m H' => ∃ μ' W', Le (W0.cellNew D) W' ∧ Rep K W' H' μ' ∧ j + m = ss.length ∧ lcD C g t e μ0.length (F μ0.length Q') (wipeD ρ vs) (ss.drop j) μ', ⟨ss.length, _, _, Le.refl _, r1, Nat.zero_add _, h0⟩, fun j m H' hW => ?_⟩
    obtain ⟨μ', W', le, r', em, h'⟩ := hW
    cases hs : ss.drop j with
    | nil =>
      rw [hs] at h'
      have hl : ss.length ≤ j := by
        have := congrArg List.length hs
        rw [List.length_drop] at this
        simp at this
        omega
      exact .inl ⟨(hJ W' H' μ' (lc.trans le) r' h'.1 j).1 hl, hF W0 W' H' μ' _ D Q' Q (lc.trans le) r' r0.len (le.a _ _ hDk) (q.le le0) h'.2⟩
    | cons s rest =>
      rw [hs] at h'
      have hl : j < ss.length := by
        have := congrArg List.length hs
        rw [List.length_drop] at this
        simp at this
        omega
      have hget : ss[j]? = some s := by
        have := congrArg (fun l => l[0]?) hs
        simpa [List.getElem?_drop] using this
      have hrest : ss.drop (j + 1) = rest := by
        rw [← List.drop_drop, hs]
        rfl
      obtain ⟨hgo, hy⟩ := (hJ W' H' μ' (lc.trans le) r' h'.1 j).2 s hget
      refine .inr ⟨hgo, fun H2 => ∃ μ2 W2, Le (W0.cellNew D) W2 ∧ Rep K W2 H2 μ2 ∧ lcD C g t e μ0.length (F μ0.length Q') (wipeD ρ vs) rest μ2, fun H2 h2 => ?_, fun x H1 hx => ?_⟩
      · obtain ⟨μ2, W2, a1, a2, a3⟩ := h2
        exact ⟨m - 1, by omega, μ2, W2, a1, a2, by omega, by rw [hrest]; exact a3⟩
      · obtain ⟨W3, le3, r3, hs3⟩ := hy x H1 hx
        have l3 := le.trans le3
        refine hk x (wipe σ vs) H1 _ _ σ (wipe_wipe σ vs) (fun σ2 H2 e2 q2 => ⟨e2, q2⟩) (hg s _ μ' _ h'.2 W3 (wipe σ vs) H1 x (ew.mono (lc.trans l3)) r3 hs3 _ fun σ4 ρ4 W4 H4 μ4 le4 r4 he4 q4 => ?_)
        refine ht ρ4 μ4 _ q4 W4 σ4 H4 he4 r4 _ fun b W5 H5 μ5 le5 r5 q5 => ?_
        cases b with
        | false => exact ⟨μ5, W5, (l3.trans le4).trans le5, r5, q5⟩
        | true =>
          refine hte ρ4 μ5 _ q5 W5 σ4 H5 (he4.mono le5) r5 _ fun y v W6 H6 μ6 le6 r6 hv q6 => ?_
          have l6 := ((l3.trans le4).trans le5).trans le6
          replace q6 : addTo μ0.length v μ6 _ := q6
          unfold addTo at q6
          split at q6
          · rename_i d ds ec
            have hD6 := l6.a _ _ hDk
            obtain ⟨_, o, ho, hc⟩ := r6.cell _ D _ hD6 ec
            cases o <;> first | exact False.elim hc | skip
            rename_i acc
            replace hc : DvAll K W6.G acc ds := hc
            refine ⟨acc, ho, by rw [hc.length]; exact q6.1, _, W6, l6, r6.write hD6 (show CellOk K W6.G (.lst (acc ++ [y])) (.lst (ds ++ [d])) from hc.app (.cons hv .nil)), q6.2⟩
          · exact q6.elim
variable {elt tg iter : Expr} {ifs : List Expr} {scope : Scope} {own : List (Str × Nat)} {pos : Pos} {i : DI} {g : DG} {t : DT} {e : DE}
theorem pd_lcQ {F : Nat → DQ → Mu → Prop} (hF : FinOk X.K F) (own : List (Str × Nat)) (hc : X.calm = true) (hN : X.N.Nodup) (hi : PDI X tg iter i) (ok : BlkOk X.N X.env.scope scope own) (hg : CTg X scope tg (own.map (·.2)) g) (ht : CTst X scope ifs t)
    (he : ∀ (s : Shared) (H : Hp) (C : Addr) (cl : List (Str × Addr)) (fp : List Addr), PD (X.blk s H scope (compEnvC scope cl C X.env) fp) elt e) (hs : ∀ x, foldedSetIterable iter X.env x = pure x := by intro _; rfl) :
    PD X (.ListComp elt [⟨tg, iter, ifs, 0⟩] scope pos) (dLcQ F i g t e (own.map (·.2))) := by
  obtain ⟨t1, p1, l1⟩ := hi
  obtain ⟨t2, p2, l2, k2⟩ := hg
  obtain ⟨t3, p3, l3⟩ := ht
  exact ⟨_, pe_lc hc hN p1 ok p2 p3 (fun s H C cl fp => (he s H C cl fp).of) hs, le_lc l1 l2 k2 l3 (le_of X.K e) hF⟩
theorem pd_setLcQ {F : Nat → DQ → Mu → Prop} (hF : FinOk X.K F) (own : List (Str × Nat)) {j : Nat} {y : Str} {py spos : Pos} (hc : X.calm = true) (hN : X.N.Nodup) (hi : PDI X tg iter i) (ok : BlkOk X.N X.env.scope scope own) (hg : CTg X scope tg (own.map (·.2)) g) (ht : CTst X scope ifs t)
    (he : ∀ (s : Shared) (H : Hp) (C : Addr) (cl : List (Str × Addr)) (fp : List Addr), PD (X.blk s H scope (compEnvC scope cl C X.env) fp) elt e)
    (hsw : swapsWith (.ListComp elt [⟨tg, iter, ifs, 0⟩] scope pos) (some (.Name y py)) spos.line X.env = pure true) (hy : X.N[j]? = some y := by rfl) (hyl : X.env.scope.names.lookup y = some .local := by rfl)
    (hs : ∀ x, foldedSetIterable iter X.env x = pure x := by intro _; rfl) : PDS X (.Assign [.Name y py] (.ListComp elt [⟨tg, iter, ifs, 0⟩] scope pos) spos) (dAsg (dLcQ F i g t e (own.map (·.2))) j) := by
  obtain ⟨t1, p1, l1⟩ := hi
  obtain ⟨t2, p2, l2, k2⟩ := hg
  obtain ⟨t3, p3, l3⟩ := ht
  have l := le_lc l1 l2 k2 l3 (le_of X.K e) hF
  exact ⟨_, ps_setLc hc hN hy hyl hsw p1 ok p2 p3 (fun s H C cl fp => (he s H C cl fp).of) hs, fun D' ρ μ h W σ H he r D hd => l ρ μ _ h W σ H he r _ fun v s W1 H1 μ1 le1 r1 hs q => hd.nx _ _ W1 H1 μ1 le1 r1 ((he.mono le1).set j hs) q⟩
end
end DL
namespace DL
open PySem PySem.Spec PyProof.Rows L2 Evl
def zipS (x y : Sl) : List PyData → List PyData → List Sl
  | d :: ds, e :: es => mk (isV x || isV y) (.tuple [d, e]) :: zipS x y ds es
  | _, _ => []
def iZp (a : DA) : DI := fun ρ μ R => a ρ μ fun ss μ1 => match ss with
  | [x, y] => match rd μ1 x, rd μ1 y with
    | some (.list ds), some (.list es) => R (zipS x y ds es) (fun ν => rd ν x = some (.list ds) ∧ rd ν y = some (.list es)) μ1
    | some (.tuple ds), some (.tuple es) => R (zipS x y ds es) (fun _ => True) μ1
    | _, _ => False
  | _ => False
theorem zipS_get {x y : Sl} : ∀ {ds es : List PyData} {i : Nat} {s : Sl}, (zipS x y ds es)[i]? = some s → ∃ d e, ds[i]? = some d ∧ es[i]? = some e ∧ s = mk (isV x || isV y) (.tuple [d, e])
  | d :: ds, e :: es, 0, s, h => ⟨d, e, rfl, rfl, (Option.some.inj h).symm⟩
  | d :: ds, e :: es, i + 1, s, h => zipS_get (ds := ds) (es := es) (i := i) (s := s) h
  | [], _, _, _, h => by simp [zipS] at h
  | _ :: _, [], _, _, h => by simp [zipS] at h
theorem zipS_len {x y : Sl} : ∀ {ds es : List PyData} {i : Nat}, (zipS x y ds es).length ≤ i → ds.length ≤ i ∨ es.length ≤ i
  | d :: ds, e :: es, 0, h => by simp [zipS] at h
  | d :: ds, e :: es, i + 1, h => by
    have := zipS_len (x := x) (y := y) (ds := ds) (es := es) (i := i) (by simpa [zipS] using h)
    simpa using this
  | [], _, _, _ => .inl (Nat.zero_le _)
  | _ :: _, [], _, _ => .inr (Nat.zero_le _)
section
variable {X : Cx} {K : PySem.W.Frag} {p pos : Pos}
theorem zip_item {W2 : Wd} {H2 : Hp} {μ2 : Mu} {x y : Sl} {xs ys : List V} {ds es : List PyData} {i : Nat} {s : Sl} (r2 : Rep K W2 H2 μ2) (hx : Its K W2 x xs ds) (hy : Its K W2 y ys es) (h : (zipS x y ds es)[i]? = some s) :
    ∃ v u, xs[i]? = some v ∧ ys[i]? = some u ∧ ∀ T, H2 T = none → ∃ W3, Le W2 W3 ∧ Rep K W3 (upd H2 T (.tup [v, u])) μ2 ∧ SlOk K W3 (.ref T) s := by
  obtain ⟨d, e, h1, h2, rfl⟩ := zipS_get h
  obtain ⟨v, hv, dv⟩ := DvAll.get hx h1
  obtain ⟨u, hu, du⟩ := DvAll.get hy h2
  refine ⟨v, u, hv, hu, fun T hT => ⟨W2.new T (.tup [v, u]), Le.new r2 hT, r2.new hT, slOk_mk ?_⟩⟩
  have l : Le W2 (W2.new T (.tup [v, u])) := Le.new r2 hT
  have two : DvAll K (bh W2 (isV x || isV y)) [v, u] [d, e] := .cons (dv.mono (bh_or1 r2.gf)) (.cons (du.mono (bh_or2 r2.gf)) .nil)
  refine .tup (.inl (.inl ?_)) (two.mono (bh_le l _))
  cases isV x || isV y
  · exact upd_same
  · exact upd_same
theorem pdi_zip {e e2 : Expr} {tpos : Pos} {elts : List Expr} {kk : Nat} {a : DA} (ha : PDA X [e, e2] a) (hm : X.mg "zip" = none) (hg : Gl X "zip" := by rfl)
    (hs : starEach [e, e2] X.env = (false, eval e X.env) :: starEach [e2] X.env := by rfl) (hpl : (backTo pos (starEach [e2] X.env)).any (·.1) = false := by rfl) : PDI X (.Tuple elts kk tpos) (.Call (.Name "zip" p) [e, e2] [] pos) (iZp a) := by
  obtain ⟨t, p1, l1⟩ := ha
  refine ⟨_, RZ.pi_zipA hg hm p1 hs hpl, fun ρ μ R' hd W σ H he r R q => l1 ρ μ _ hd W σ H he r _ fun vs ss W1 H1 μ1 le1 r1 hss h1 => ?_⟩
  match ss, hss, h1 with
  | [x, y], hss, h1 =>
    obtain ⟨v, u, rfl, hv, hu⟩ := slAll2 hss
    replace h1 : (match rd μ1 x, rd μ1 y with | some (.list ds), some (.list es) => R' (zipS x y ds es) (fun ν => rd ν x = some (.list ds) ∧ rd ν y = some (.list es)) μ1 | some (.tuple ds), some (.tuple es) => R' (zipS x y ds es) (fun _ => True) μ1 | _, _ => False) := h1
    split at h1
    · rename_i ds es e1 e2
      obtain ⟨a, xs, rfl, hl, hi⟩ := rd_lst r1 hv e1
      obtain ⟨b, ys, rfl, hl', hi'⟩ := rd_lst r1 hu e2
      refine ⟨a, b, xs, ys, rfl, .inl ⟨hl, hl', q _ _ _ W1 H1 μ1 le1 r1 (fun W2 H2 μ2 le2 r2 hC i => ?_) h1⟩⟩
      obtain ⟨a', xs', ea, m1, i1⟩ := rd_lst r2 (hv.mono le2) hC.1
      obtain ⟨b', ys', eb, m2, i2⟩ := rd_lst r2 (hu.mono le2) hC.2
      cases ea
      cases eb
      refine ⟨fun hle => ⟨xs', ys', m1, m2, by rw [i1.length, i2.length]; exact zipS_len hle⟩, fun s es' => ?_⟩
      obtain ⟨w1, w2, g1, g2, f⟩ := zip_item r2 i1 i2 es'
      refine ⟨⟨xs', ys', w1, w2, m1, m2, g1, g2⟩, fun z H' hz => ?_⟩
      obtain ⟨T, z1, z2, rfl, nT, rfl, k1, k2⟩ := hz
      have q1 : z1 = w1 := Option.some.inj ((k1 _ m1).symm.trans g1)
      have q2 : z2 = w2 := Option.some.inj ((k2 _ m2).symm.trans g2)
      subst q1; subst q2
      exact f T nT
    · rename_i ds es e1 e2
      obtain ⟨a, xs, rfl, hl, hi⟩ := rd_tup r1 hv e1
      obtain ⟨b, ys, rfl, hl', hi'⟩ := rd_tup r1 hu e2
      refine ⟨a, b, xs, ys, rfl, .inr ⟨hl, hl', q _ _ _ W1 H1 μ1 le1 r1 (fun W2 H2 μ2 le2 r2 hC i => ?_) h1⟩⟩
      obtain ⟨a', xs', ea, m1, i1⟩ := rd_tup r2 (hv.mono le2) (rd_tup_keep (W' := W2) (μ' := μ2) hv e1)
      obtain ⟨b', ys', eb, m2, i2⟩ := rd_tup r2 (hu.mono le2) (rd_tup_keep (W' := W2) (μ' := μ2) hu e2)
      cases ea
      cases eb
      refine ⟨fun hle => ⟨xs', ys', m1, m2, by rw [i1.length, i2.length]; exact zipS_len hle⟩, fun s es' => ?_⟩
      obtain ⟨w1, w2, g1, g2, f⟩ := zip_item r2 i1 i2 es'
      refine ⟨⟨xs', ys', w1, w2, m1, m2, g1, g2⟩, fun z H' hz => ?_⟩
      obtain ⟨T, z1, z2, rfl, nT, rfl, k1, k2⟩ := hz
      have q1 : z1 = w1 := Option.some.inj ((k1 _ m1).symm.trans g1)
      have q2 : z2 = w2 := Option.some.inj ((k2 _ m2).symm.trans g2)
      subst q1; subst q2
      exact f T nT
    · exact h1.elim
abbrev DM := Sl → List Sl → Mu → DQ → Prop
def mApp : DM := fun o vs μ Q => match o, vs with
  | .cell k, [.dat d] => match μ[k]? with
    | some (.lst ds) => ds.length < sizeLine ∧ Q (.dat .none) (μ.set k (.lst (ds ++ [d])))
    | _ => False
  | _, _ => False
def mPop : DM := fun o vs μ Q => match o, vs with
  | .cell k, [] => match μ[k]? with
    | some (.lst ds) => ∃ d, ds[ds.length - 1]? = some d ∧ Q (.dat d) (μ.set k (.lst ds.dropLast))
    | _ => False
  | _, _ => False
def dMt (m : DM) (o : DE) (a : DA) : DE := fun ρ μ Q => o ρ μ fun x μ1 => (∃ k, x = .cell k ∧ k < μ1.length) ∧ a ρ μ1 fun ss μ2 => m x ss μ2 Q
theorem tyV_cell {W : Wd} {H : Hp} {μ : Mu} {v : V} {k : Nat} {ds : List PyData} (r : Rep K W H μ) (h : SlOk K W v (.cell k)) (e : μ[k]? = some (.lst ds)) : ∃ a xs, v = .ref a ∧ W.ad[k]? = some a ∧ H a = some (.lst xs) ∧ DvAll K W.G xs ds := by
  obtain ⟨a, ha, rfl⟩ := h
  obtain ⟨_, o, ho, hc⟩ := r.cell k a _ ha e
  cases o <;> first | exact False.elim hc | skip
  exact ⟨a, _, rfl, ha, ho, hc⟩
def dMtL (m : DM) (o : DE) (a : DA) : DE := fun ρ μ Q => o ρ μ fun x μ1 => (∃ ds, rd μ1 x = some (.list ds)) ∧ a ρ μ1 fun ss μ2 => m x ss μ2 Q
theorem le_bm {r : V → List V → Hp → VK → Prop} {m : DM} {to : TE} {ta : TA} {o : DE} {a : DA} (ho : LE K to o) (ha : LA K ta a)
    (hr : ∀ x xs μ Q', m x xs μ Q' → ∀ W H v vs, Rep K W H μ → SlOk K W v x → SlAll K W vs xs → ∀ Q, VOk K W Q' Q → r v vs H Q) : LE K (tBM K "list" r to ta) (dMtL m o a) := fun ρ μ Q' h W σ H he rp Q q =>
  ho ρ μ _ h W σ H he rp _ fun v x W1 H1 μ1 le1 r1 hx h1 => by
    obtain ⟨⟨ds, hds⟩, h1⟩ := h1
    obtain ⟨p, xs, rfl, hl, _⟩ := rd_lst r1 hx hds
    exact ⟨.inl ⟨rfl, xs, hl⟩, ha ρ μ1 _ h1 W1 σ H1 (he.mono le1) r1 _ fun vs ss W2 H2 μ2 le2 r2 hss h2 => hr x ss μ2 Q' h2 W2 H2 _ vs r2 (hx.mono le2) hss Q (q.le (le1.trans le2))⟩
theorem pd_append {o e : Expr} {od : DE} {ed : DE} {apos cpos : Pos} (ho : PD X o od) (he : PD X e ed) (hs1 : starEach [e] X.env = (false, eval e X.env) :: starEach [] X.env := by rfl)
    (hbase : attributeBase o "append" X.env (eval o X.env) = eval o X.env := by rfl)
    (hfew : ((backTo cpos (starEach [e] X.env)).all (fun x => !x.1) && (backToKw cpos (keywordEach [] X.env)).all (fun x => x.1.isSome) && decide ([e].length + ([] : List Keyword).length + (if ([] : List Keyword).isEmpty then 0 else 1) < 30)) = true := by rfl)
    (hline : (apos.endLine == cpos.line) = true := by rfl) (hplain : (backTo cpos (starEach [] X.env)).any (·.1) = false := by rfl) : PD X (.Call (.Attribute o "append" apos) [e] [] cpos) (dMtL mApp od (aCons ed aNil)) := by
  obtain ⟨t1, p1, l1⟩ := ho
  obtain ⟨t2, p2, l2⟩ := he
  refine ⟨_, pe_bm PySem.F.plainAttrs_list PySem.F.slot_list_append PySem.F.type_list_append mt_append p1 (pa_cons p2 pa_nil hs1) hbase hfew hline hs1 hplain, le_bm l1 (la_cons l2 la_nil) fun x xs μ Q' h W H v vs r hx hss Q q => ?_⟩
  unfold mApp at h
  split at h
  · rename_i k d
    split at h
    · rename_i ds e1
      obtain ⟨a, ys, rfl, ha, hH, hd⟩ := tyV_cell r hx e1
      obtain ⟨u, rfl, hu⟩ := slAll1 hss
      refine ⟨a, ys, u, rfl, rfl, hH, by rw [hd.length]; exact h.1, ?_⟩
      exact q.dat (r.write ha (show CellOk X.K W.G (.lst (ys ++ [u])) (.lst (ds ++ [d])) from hd.app (.cons hu .nil))) .non h.2
    · exact h.elim
  · exact h.elim
end
end DL
namespace DL
open PySem PySem.Spec PyProof.Rows L2 Evl
structure RoomG (k : Nat) (A : Around) : Prop where
  r : Room k A
  g : A.guards = some []
theorem RoomG.mono {j k : Nat} {A : Around} (h : RoomG k A) (hj : j ≤ k) : RoomG j A := ⟨h.r.mono hj, h.g⟩
theorem RoomG.deeper {k : Nat} {A : Around} (h : RoomG (k + 1) A) (env : Env) : RoomG k (A.deeper env) := ⟨h.r.deeper env, h.g⟩
structure FnG (P : Program) (w : World) (K : PySem.W.Frag) (mg : Str → Option Value) (base : Heap) (CX : CXT) (k : Nat) (f : Addr) (fd : FuncData) (ps : List Str) (sp : Sp) : Prop where
  len : ∀ vs H Q E, sp vs H Q E → vs.length = ps.length
  run : ∀ (A : Around) (outer : List Env) (s : Shared) (H : Hp) (args : Args) (us : List Value) (vs : List V) (Q : VK) (E : XK), RoomG k A → Env0 P w K mg base A outer s H →
    BindsTo s fd args (ps.zip us) → Vals vs us → sp vs H Q E → codeAny (model P w) A (.call (.ref f) args) (CR CX outer P w H s Q E) s
section
variable {CX : CXT} {P : Program} {w : World} {K : PySem.W.Frag} {mg : Str → Option Value} {base : Heap} {k : Nat} {f : Addr} {ps : List Str} {sp : Sp}
theorem fnG_of {x qual : Str} {st : Stmt} {fd : FuncData} {N : List Str} (F : Fun K x qual st f fd) (S : FnScope N ps (defScope st)) (len : ∀ vs H Q E, sp vs H Q E → vs.length = ps.length)
    (body : ∀ (cdv : Value) (A : Around) (outer : List Env) (s : Shared) (H : Hp) (vs : List V) (Q : VK) (E : XK), RoomG k (A.deeper (envOfC qual (defScope st) s.heap.objs.size f cdv)) → sp vs H Q E →
      ∃ t, PSs (cxOf CX P w K mg base N qual (defScope st) f cdv A outer s H E) (defBody st) t ∧ t { nx := fun _ H' => Q .non H', rt := Q } (L2.start N vs) H) : FnG P w K mg base CX (k + 1) f fd ps sp := by
  obtain ⟨oc, od, kV, doc, pm, an, cdv, ct, osl, rfl, lk, hcd⟩ := F.ex
  refine ⟨len, fun A outer s H args us vs Q E room e0 bind rel hsp => ?_⟩
  have keep : ∀ b o, base.get? b = some o → s.heap.get? b = some o := fun b o e => (e0.bs b o e).1
  have par : ∀ y ∈ ps.zip us, (defScope st).names.lookup y.1 = some .local ∨ ((defScope st).names.lookup y.1 = some .cell ∧ ((cellsFrom (s.heap.objs.size + 1) (defScope st).names []).lookup y.1).isSome = true) := by
    rintro ⟨n, v⟩ hy
    cases S.par n (List.of_mem_zip hy).1 with
    | inl q => exact .inl q
    | inr q => exact .inr ⟨q, PySem.W.cellsFrom_some _ _ _ (.inl q)⟩
  refine codeAny_call_function room.r.depth (e0.mod.kin.keeps keep _ _ lk) rfl S.co S.gen rfl (PySem.W.codeRec_of (e0.mod.kin.keeps keep) hcd) (bind _ _ _ _ ?_)
  refine wpAny_newFunctionEnv_cells S.kind par fun env he s1 x => ?_
  subst he
  refine ⟨(e0.mod.nolimit.keeps keep).keeps x.toInCall.keep, codeAny_func ?_⟩
  obtain ⟨t, ht, hq⟩ := body cdv A outer s H vs Q E (room.deeper _) hsp
  have I := inv_start (CX := CX) (E := E) (f := f) (qual := qual) (cd := cdv) S room.r.hd e0 (len _ _ _ _ hsp) rel x
  refine wpAny_mono (ht.run [] s1 _ H _ I hq) (fun fl s' hs => ?_) (fun _ _ z => z)
  cases fl with
  | ret u =>
    obtain ⟨v, σ', H', J, rv, q⟩ := hs
    exact ⟨v, H', J.os, J.bare, J.base, J.hok, rv, q⟩
  | next =>
    obtain ⟨σ', H', J, q⟩ := hs
    exact ⟨.non, H', J.os, J.bare, J.base, J.hok, rfl, q⟩
  | brk => exact hs.elim fun _ z => z.elim fun _ z => False.elim z.2
  | cont => exact hs.elim fun _ z => z.elim fun _ z => False.elim z.2
end
section
variable {X : Cx} {CX : CXT} {k : Nat} {f : Addr} {fd : FuncData} {ps ks : List Str} {sp : Sp} {E : XK} {x : Str} {p pos : Pos} {e : Expr} {es : List Expr} {t : TA}
theorem runG {pins : List (Addr × Obj)} {σ : L2.St} {H : Hp} {s : Shared} {Q : VK} {args : Args} {us : List Value} {vs : List V} (F : FnG X.prog X.w X.K X.mg X.base CX k f fd ps sp) (hr : RoomG k X.A) (hx : Passes CX X E)
    (I : L2.Inv X pins σ H s) (r : Vals vs us) (hb : BindsTo s fd args (ps.zip us)) (h : sp vs H Q E) : wpAny (model X.prog X.w) X.A (call (.ref f) args.pos args.kw) (EP X pins σ Q) X.xe s := by
  refine wpAny_call (codeAny_mono (F.run X.A X.stack s H args us vs Q E hr I.env0 hb r h) fun r s' hq => ?_)
  cases r with
  | error e => exact hx pins σ H s e s' I hq
  | ok fl => cases fl <;> first | exact I.after hq | exact False.elim hq
theorem pe_callG (F : FnG X.prog X.w X.K X.mg X.base CX k f fd ps sp) (hr : RoomG k X.A) (hg : Gl X x) (hm : X.mg x = some (.ref f)) (hk : PySem.W.keepIn X.K (.ref f) = true) (hb : Binds X.K fd ps []) (hx : Passes CX X E)
    (ha : PA X (e :: es) t) (hdb : (x == ("__debug__" : Str)) = false) (he : starEach (e :: es) X.env = (false, eval e X.env) :: starEach es X.env) (hpl : (backTo pos (starEach es X.env)).any (·.1) = false) :
    PE X (.Call (.Name x p) (e :: es) [] pos) (fun σ H Q => t σ H fun vs H1 => sp vs H1 Q E) := by
  refine ⟨fun pins s σ H Q I h => wpAny_Call_Name_kw (ld_glob I hg hm ?_ hdb)⟩
  refine PySem.W.callWith_K (h₀ := X.base) I.ok.mod.kin hk (thn (ha.run pos pins s σ H _ I h) fun us s1 z => ?_) he hpl
  obtain ⟨vs, H1, I1, r, q⟩ := z
  have hl : us.length = ps.length := by rw [← r.length]; exact F.len _ _ _ _ q
  have b := hb s1 us I1.kIn (by rw [List.append_nil]; exact hl)
  rw [List.append_nil] at b
  exact ⟨I1.kIn, runG (args := ⟨us, []⟩) F hr hx I1 r b q⟩
variable {kws : List Keyword} {tk : TA} {g : List Value → List Value → List Value} {gV : List V → List V → List V}
theorem pe_callGK0 (F : FnG X.prog X.w X.K X.mg X.base CX k f fd ps sp) (hr : RoomG k X.A) (hg : Gl X x) (hm : X.mg x = some (.ref f)) (hk : PySem.W.keepIn X.K (.ref f) = true) (hb : KBinds X.K fd ps ks g gV) (hx : Passes CX X E)
    (hkw : PK X kws tk) (hall : (backToKw pos (keywordEach kws X.env)).all (·.1.isSome) = true) (hks : (backToKw pos (keywordEach kws X.env)).filterMap (·.1) = ks)
    (hdb : (x == ("__debug__" : Str)) = false) (hpl : ((backTo pos (starEach [] X.env)).any (·.1) || (backToKw pos (keywordEach kws X.env)).any (·.1.isNone)) = false) :
    PE X (.Call (.Name x p) [] kws pos) (fun σ H Q => tk σ H fun zs H2 => sp (gV [] zs) H2 Q E) := by
  refine ⟨fun pins s σ H Q I h => wpAny_Call_Name_kw (ld_glob I hg hm ?_ hdb)⟩
  refine PySem.W.callWith_KW0 (h₀ := X.base) I.ok.mod.kin hk hall (thn (hkw.run pos pins s σ H _ I h) fun ws s2 z => ?_) hpl
  obtain ⟨zs, H2, I2, rz, q2⟩ := z
  rw [hks]
  have r2 := hb.rel .nil rz
  exact ⟨I2.kIn, runG (args := ⟨[], ks.zip ws⟩) F hr hx I2 r2 (hb.to s2 [] ws I2.kIn (by rw [← r2.length]; exact F.len _ _ _ _ q2)) q2⟩
end
theorem law_runG {P : Program} {w : World} {K : PySem.W.Frag} {mg mb : Str → Option Value} {k : Nat} {fa a : Addr} {fd : FuncData} {x : Str} {sp : Sp} {s₁ : Shared} {vs : List Value} {ns : List Int}
    (KX : K.In s₁.heap) (hns : s₁.heap.Ns mainGlobals mg) (hb : s₁.heap.Ns builtinsNs mb) (hbb : ∀ x : Str, x ≠ "__name__" → mb x = bootBuiltins x) (hlim : s₁.heap.NoLimit) (hg : s₁.gens = #[])
    (ha : s₁.heap.get? a = some { cls := .type "list", data := .seq vs.toArray }) (hi : IntsAre vs ns) (hl : ns.length ≤ sizeLine) (hr : RoomG k callerA)
    (F : ∀ base : Heap, K.In base → base.Ns mainGlobals mg → FnG P w K mg base CX0 k fa fd [x] sp) (hbind : ∀ (s : Shared) (u : Value), BindsTo s fd ⟨[u], []⟩ [(x, u)])
    (hsp : ∀ H : Hp, Only H → SqL K H a (ns.map V.int) → sp [.ref a] H (fun v _ => v = .bl true) E0) :
    codeAny (model P w) callerA (.call (.ref fa) ⟨[.ref a], []⟩) (fun r s' => r = .ok (.ret (.bool true)) ∧ OldK s₁.heap s'.heap ∧ s'.os = s₁.os ∧ AllBare s'.gens) s₁ := by
  have lenV := hi.length
  suffices core : ∀ H : Hp, Only H → SqL K H a (ns.map V.int) → HOk P w H s₁.heap → (∀ b, H b ≠ none → b = a) → (H a ≠ none → K.lookup a = none) →
      codeAny (model P w) callerA (.call (.ref fa) ⟨[.ref a], []⟩) (fun r s' => r = .ok (.ret (.bool true)) ∧ OldK s₁.heap s'.heap ∧ s'.os = s₁.os ∧ AllBare s'.gens) s₁ by
    cases hk : K.lookup a with
    | some o =>
      have e := KX a o hk
      rw [ha] at e
      cases e
      exact core (fun _ => none) (fun _ => .inl rfl) (.inr ⟨_, vs.toArray, _, hk, rfl, rfl, rfl, by rw [List.size_toArray, lenV]; exact hl, by simpa using vals_ints hi⟩)
        (fun b u z => nomatch (show (none : Option HO) = some u from z)) (fun b z => (z rfl).elim) (fun z => (z rfl).elim)
    | none =>
      let Hs : Hp := fun b => if b = a then some (.frz { cls := .type "list", data := .seq vs.toArray } (.lst (ns.map V.int))) else none
      have at_ : Hs a = some (.frz { cls := .type "list", data := .seq vs.toArray } (.lst (ns.map V.int))) := if_pos rfl
      have off : ∀ b, b ≠ a → Hs b = none := fun b h => if_neg h
      refine core Hs (fun b => ?_) (.inl (.inr ⟨_, at_⟩)) (fun b u z => ?_) (fun b z => ?_) (fun _ => hk)
      · by_cases h : b = a
        · exact .inr ⟨_, _, h ▸ at_⟩
        · exact .inl (off b h)
      · by_cases h : b = a
        · subst h
          rw [at_] at z
          cases z
          exact ⟨ha, by rw [List.length_map]; exact hl, vs, _, vals_ints hi, ha⟩
        · rw [off b h] at z
          cases z
      · by_cases h : b = a
        · exact h
        · exact (z (off b h)).elim
  intro H hO hS hok only hK
  have only' : ∀ {b : Addr}, b ≠ a → H b = none := fun {b} h => by
    cases q : H b with
    | none => rfl
    | some u => exact (h (only b (by rw [q]; simp))).elim
  have dicts : ∀ {b : Addr} {o : Obj} {es : Array DictEntry} {ep : Nat}, s₁.heap.get? b = some o → o.data = .dict es ep → H b = none := fun {b o es ep} e d => only' fun h => by
    subst h
    rw [ha] at e
    cases e
    cases d
  have ns_ : ∀ {b : Addr} {m : Str → Option Value}, s₁.heap.Ns b m → (hidT s₁.heap H).Ns b m := fun {b m} ⟨o, es, ep, e, d, r⟩ => ⟨o, es, ep, hidT_get e (dicts e d), d, r⟩
  have inB : K.In (hidT s₁.heap H) := fun b o e => hidT_get (KX b o e) (by
    by_cases h : b = a
    · subst h
      cases q : H b with
      | none => rfl
      | some u =>
        have := hK (by rw [q]; simp)
        rw [this] at e
        cases e
    · exact only' h)
  have md : Mod K mg (hidT s₁.heap H) := ⟨inB, ns_ hns, ⟨mb, ns_ hb, hbb⟩, by obtain ⟨mc, h1, h2⟩ := hlim; exact ⟨mc, ns_ h1, h2⟩⟩
  have e0 : Env0 P w K mg (hidT s₁.heap H) callerA [] s₁ H := ⟨rfl, md, fun b o e => of_hidT e, Nat.le_of_eq (hidT_size _ _), trivial, fun b hb => absurd (show b ∈ ([] : List Addr) from hb) (by simp), hok, .of_eq hg⟩
  refine codeAny_mono ((F _ inB (ns_ hns)).run callerA [] s₁ H ⟨[.ref a], []⟩ [.ref a] [.ref a] _ _ hr e0 (hbind s₁ (.ref a)) (.cons rfl .nil) (hsp H hO hS)) fun r s' h => ?_
  cases r with
  | error e => exact False.elim h
  | ok fl =>
    cases fl with
    | ret u =>
      obtain ⟨v, H', os, bare, un, hok', r', q⟩ := h
      cases (show v = .bl true from q)
      cases (show u = Value.bool true from r')
      refine ⟨rfl, OldK.of_keep fun b o e => ?_, os, bare⟩
      cases q : H b with
      | none => exact un.keep b o e q (fun z => nomatch z) (fun z => nomatch z)
      | some u =>
        cases hO b with
        | inl z => rw [q] at z; cases z
        | inr z =>
          obtain ⟨ob, xs, z⟩ := z
          have z1 := (hok b _ z).1
          have z2 := (hok' b _ (un.frzs b ob _ z)).1
          rw [e] at z1
          cases z1
          exact z2
    | _ => exact False.elim h
theorem walkG {l : PySem.W.OpenLaw} {n k : Nat} {q : Program} {loose : List Str} {XP : (Str → Option Value) → Heap → Prop} {YP : World → Heap → Prop} {d : DefRec} {K : Params → PySem.W.Frag} {sp : PySem.W.Frag → Sp} {x : Str}
    (hn : l.most = some n) (hn2 : n ≤ sizeLine) (hdf : d.params.defaults = []) (hr : RoomG k callerA) (hY : ∀ (w : World) (h : Heap), YP w h → (K w.params).In h)
    (F : ∀ (w : World) (mg : Str → Option Value) (fa : Addr) (h : Heap), (K w.params).In h → h.Ns mainGlobals mg → mg d.name = some (.ref fa) →
      ∃ fd : FuncData, (∀ (s : Shared) (u : Value), BindsTo s fd ⟨[u], []⟩ [(x, u)]) ∧ ∀ base : Heap, (K w.params).In base → base.Ns mainGlobals mg → FnG l.prog w (K w.params) mg base CX0 k fa fd [x] (sp (K w.params)))
    (hsp : ∀ (K : PySem.W.Frag) (H : Hp) (a : Addr) (ns : List Int), ns.length ≤ n → SqL K H a (ns.map V.int) → sp K [.ref a] H (fun v _ => v = .bl true) E0) :
    PySem.W.WalkO q loose XP YP l.row.toRowW d [] (fun f vs => PySem.call f vs) := by
  refine Att.attach_call hn hdf fun w s₀ s₁ mg mb fa o pm cd doc a vs ns G Y ho hd hcd hmg hobj hints hlen hg => ?_
  obtain ⟨fd, hb, hF⟩ := F w mg fa _ (hY w _ Y) G.T.g hmg
  exact law_runG (hY w _ Y) G.T.g G.T.b G.T.builtins G.T.nolimit hg hobj hints (Nat.le_trans hlen hn2) hr hF hb fun H _ hS => hsp _ H a ns hlen hS
end DL
namespace DL
open PySem PySem.Spec PyProof.Rows L2 Evl
abbrev DF := List Sl → Mu → DQ → Prop
def SpD (K : PySem.W.Frag) (n : Nat) (φ : DF) : Sp := fun vs H Q _ => ∃ W ss μ Q', vs.length = n ∧ SlAll K W vs ss ∧ Rep K W H μ ∧ φ ss μ Q' ∧ VOk K W Q' Q
def finQ (n : Nat) (Q' : DQ) : DQ := fun s μ' => match s with
  | .cell k => if k < n then Q' (.cell k) (μ'.take n) else match μ'[k]? with
    | some (.lst ds) => Q' (.dat (.list ds)) (μ'.take n) ∨ Q' (.cell n) (μ'.take n ++ [.lst ds])
    | some (.dct ds) => Q' (.cell n) (μ'.take n ++ [.dct ds])
    | some (.dctT ds) => Q' (.cell n) (μ'.take n ++ [.dctT ds])
    | _ => False
  | .dat d => Q' (.dat d) (μ'.take n)
  | .vw d => Q' (.vw d) (μ'.take n)
  | .raw _ => False
def startD (N : List Str) (ss : List Sl) : Rho := ss.map some ++ List.replicate (N.length - ss.length) none
section
variable {K : PySem.W.Frag}
theorem at_pull {α : Type} {l : List α} {a x : α} {n i : Nat} (hn : n ≤ l.length) (h : (l.take n ++ [a])[i]? = some x) : (i < n ∧ l[i]? = some x) ∨ (i = n ∧ x = a) := by
  have hl : (l.take n).length = n := by rw [List.length_take]; omega
  by_cases hi : i < n
  · rw [List.getElem?_append_left (by omega)] at h
    exact .inl ⟨hi, (take_some h).1⟩
  · rw [List.getElem?_append_right (by omega), hl] at h
    cases q : i - n with
    | zero =>
      rw [q] at h
      exact .inr ⟨by omega, (Option.some.inj h).symm⟩
    | succ j => rw [q] at h; simp at h
theorem pull_ok {W0 W : Wd} {H : Hp} {μ : Mu} (l : Le W0 W) (r : Rep K W H μ) {k : Nat} {a : Addr} {c : Cell} (ha : W.ad[k]? = some a) (hc : μ[k]? = some c) (hk : W0.ad.length ≤ k) {Q' : DQ} {Q : VK} (q : VOk K W0 Q' Q) (h : Q' (.cell W0.ad.length) (μ.take W0.ad.length ++ [c])) : Q (.ref a) H := by
  have h1 : k < W.ad.length := (List.getElem?_eq_some_iff.mp ha).1
  have h2 : k < μ.length := (List.getElem?_eq_some_iff.mp hc).1
  have l1 : (W.ad.take W0.ad.length).length = W0.ad.length := by rw [List.length_take]; omega
  refine q _ (.cell W0.ad.length) ⟨W.G, W.F, W.ad.take W0.ad.length ++ [a]⟩ H _ ⟨l.g, l.f, l.n, fun j x e => ?_⟩ ⟨r.gf, r.fh, ?_, fun i j b hi hj => ?_, fun i b d hi hd => ?_⟩ ⟨a, ?_, rfl⟩ h
  · have hj : j < W0.ad.length := (List.getElem?_eq_some_iff.mp e).1
    show (W.ad.take W0.ad.length ++ [a])[j]? = some x
    rw [List.getElem?_append_left (by omega), List.getElem?_take_of_lt hj]
    exact l.a j x e
  · show (W.ad.take W0.ad.length ++ [a]).length = _
    rw [List.length_append, List.length_append, List.length_take, List.length_take, r.len]
    rfl
  · rcases at_pull (by omega) hi with ⟨q1, q2⟩ | ⟨q1, q2⟩ <;> rcases at_pull (by omega) hj with ⟨q3, q4⟩ | ⟨q3, q4⟩
    · exact r.nd i j b q2 q4
    · subst q4
      have := r.nd i k b q2 ha
      omega
    · subst q2
      have := r.nd j k b q4 ha
      omega
    · omega
  · rcases at_pull (by omega) hi with ⟨q1, q2⟩ | ⟨q1, q2⟩ <;> rcases at_pull (by omega) hd with ⟨q3, q4⟩ | ⟨q3, q4⟩
    · exact r.cell i b d q2 q4
    · omega
    · omega
    · subst q2
      subst q4
      exact r.cell k b d ha hc
  · show (W.ad.take W0.ad.length ++ [a])[W0.ad.length]? = some a
    rw [List.getElem?_append_right (by omega), l1, Nat.sub_self]
    rfl
theorem finQ_ok {W : Wd} {Q' : DQ} {Q : VK} (q : VOk K W Q' Q) : VOk K W (finQ W.ad.length Q') Q := fun v s W1 H1 μ1 l r hs h => by
  have lc := l.cut (n := W.ad.length) (Nat.le_refl _)
  have rc := r.cut W.ad.length
  cases s with
  | dat d => exact q v (.dat d) _ H1 _ lc rc (show Dv K W1.G v d from hs) h
  | vw d => exact q v (.vw d) _ H1 _ lc rc (show Dv K W1.F v d from hs) h
  | raw w => exact False.elim h
  | cell k =>
    replace h : (if k < W.ad.length then Q' (.cell k) (μ1.take W.ad.length) else match μ1[k]? with | some (.lst ds) => Q' (.dat (.list ds)) (μ1.take W.ad.length) ∨ Q' (.cell W.ad.length) (μ1.take W.ad.length ++ [.lst ds]) | some (.dct ds) => Q' (.cell W.ad.length) (μ1.take W.ad.length ++ [.dct ds]) | some (.dctT ds) => Q' (.cell W.ad.length) (μ1.take W.ad.length ++ [.dctT ds]) | _ => False) := h
    obtain ⟨a, ha, rfl⟩ := hs
    by_cases hk : k < W.ad.length
    · rw [if_pos hk] at h
      refine q _ (.cell k) _ H1 _ lc rc ⟨a, ?_, rfl⟩ h
      show (W1.ad.take W.ad.length)[k]? = some a
      rw [List.getElem?_take_of_lt hk]
      exact ha
    · rw [if_neg hk] at h
      split at h
      · rename_i ds e
        cases h with
        | inl h => exact frz_ok l r ha e (Nat.le_refl _) (Nat.not_lt.mp hk) q h
        | inr h => exact pull_ok l r ha e (Nat.not_lt.mp hk) q h
      · rename_i ds e
        exact pull_ok l r ha e (Nat.not_lt.mp hk) q h
      · rename_i ds e
        exact pull_ok l r ha e (Nat.not_lt.mp hk) q h
      · exact h.elim
theorem env_start {W : Wd} {N : List Str} {vs : List V} {ss : List Sl} (h : SlAll K W vs ss) : EnvOk K W (L2.start N vs) (startD N ss) := by
  have hl := h.length
  refine ⟨?_, fun i s e => ?_⟩
  · unfold L2.start startD
    simp only [List.length_append, List.length_map, List.length_replicate, hl]
  · unfold startD at e
    unfold L2.start
    by_cases hi : i < ss.length
    · rw [List.getElem?_append_left (by simpa using hi), List.getElem?_map] at e
      cases q : ss[i]? with
      | none => rw [q] at e; cases e
      | some t =>
        rw [q] at e
        cases e
        obtain ⟨v, hv, ok⟩ := h.get q
        refine ⟨v, ?_, ok⟩
        rw [List.getElem?_append_left (by rw [List.length_map, hl]; exact hi), List.getElem?_map, hv]
        rfl
    · rw [List.getElem?_append_right (by simpa using hi), List.getElem?_replicate] at e
      split at e <;> cases e
end
section
variable {P : Program} {w : World} {K : PySem.W.Frag} {mg : Str → Option Value} {base : Heap}
theorem okD {x qual : Str} {st : Stmt} {f : Addr} {fd : FuncData} {N ps : List Str} {k n : Nat} {φ : DF} {ds : DS} (F : Fun K x qual st f fd) (S : FnScope N ps (defScope st)) (hn : n = ps.length)
    (hbody : ∀ (cdv : Value) (A : Around) (outer : List Env) (s : Shared) (H : Hp) (E : XK), RoomG k (A.deeper (envOfC qual (defScope st) s.heap.objs.size f cdv)) →
      PDSs (cxOf CX0 P w K mg base N qual (defScope st) f cdv A outer s H E).nox (defBody st) ds)
    (hφ : ∀ ss μ Q', ss.length = n → φ ss μ Q' → ds ⟨fun _ μ' => finQ μ.length Q' (.dat .none) μ', finQ μ.length Q', fun _ _ => False, fun _ _ => False⟩ (startD N ss) μ) : FnG P w K mg base CX0 (k + 1) f fd ps (SpD K n φ) := by
  refine fnG_of F S (fun vs H Q E h => ?_) (fun cdv A outer s H vs Q E hr h => ?_)
  · obtain ⟨_, _, _, _, h, _⟩ := h
    exact h.trans hn
  · obtain ⟨W, ss, μ, Q', hl, hss, r, hp, q⟩ := h
    obtain ⟨t, p, l⟩ := hbody cdv A outer s H E hr
    refine ⟨t, p.nox, l _ (startD N ss) μ (hφ ss μ Q' (by rw [← hss.length]; exact hl) hp) W _ H (env_start hss) r _ ?_⟩
    have fq := finQ_ok q
    rw [r.len] at fq
    refine ⟨fun σ1 ρ1 W1 H1 μ1 l1 r1 he1 h1 => ?_, fq, fun σ1 ρ1 W1 H1 μ1 l1 r1 he1 h1 => h1, fun σ1 ρ1 W1 H1 μ1 l1 r1 he1 h1 => h1⟩
    exact fq .non (.dat .none) W1 H1 μ1 l1 r1 .non h1
structure Own (P : Program) (w : World) (K : PySem.W.Frag) (mg : Str → Option Value) (base : Heap) (x : Str) (st : Stmt) (ps : List Str) (k n : Nat) (φ : DF) : Prop where
  ex : ∃ f fd, Fun K x x st f fd ∧ FnG P w K mg base CX0 k f fd ps (SpD K n φ) ∧ mg x = some (.ref f)
end
def dCall (n : Nat) (φ : DF) (a : DA) : DE := fun ρ μ Q => a ρ μ fun ss μ1 => ss.length = n ∧ φ ss μ1 Q
section
variable {X : Cx} {K : PySem.W.Frag} {e : Expr} {es : List Expr} {x : Str} {p pos : Pos} {st : Stmt} {ps : List Str} {k n : Nat} {φ : DF}
theorem spD_of {W : Wd} {H : Hp} {μ : Mu} {vs : List V} {ss : List Sl} {Q' : DQ} {Q : VK} {E : XK} (hs : SlAll K W vs ss) (r : Rep K W H μ) (h : ss.length = n ∧ φ ss μ Q') (q : VOk K W Q' Q) : SpD K n φ vs H Q E :=
  ⟨W, ss, μ, Q', by rw [hs.length]; exact h.1, hs, r, h.2, q⟩
theorem pd_call {a : DA} (o : Own X.prog X.w X.K X.mg X.base x st ps k n φ) (hr : RoomG k X.A)
    (hb : ∀ (kV doc pm : Value) (an : Option Addr) (cdv ct : Value) (us : List Value), us.length = ps.length → bindArgs (PySem.W.fnOf x x (defArgs st) (defBody st) (defScope st) .none kV doc pm an cdv ct) ⟨us, []⟩ = pure (ps.zip us))
    (ha : PDA X (e :: es) a) (hg : Gl X x := by rfl) (hdb : (x == ("__debug__" : Str)) = false := by decide)
    (he : starEach (e :: es) X.env = (false, eval e X.env) :: starEach es X.env := by rfl) (hpl : (backTo pos (starEach es X.env)).any (·.1) = false := by rfl) : PD X (.Call (.Name x p) (e :: es) [] pos) (dCall n φ a) := by
  obtain ⟨f, fd, F, G, hm⟩ := o
  obtain ⟨t, p1, l1⟩ := ha
  refine ⟨_, pe_callG G hr hg hm F.kp (F.binds hb) pass0 p1 hdb he hpl, fun ρ μ Q' h W σ H henv r Q q => l1 ρ μ _ h W σ H henv r _ fun vs ss W1 H1 μ1 le1 r1 hss h1 => ?_⟩
  exact spD_of (E := E0) hss r1 h1 (q.le le1)
def kp {α : Type} (np : Nat) (idx : List Nat) (us ws : List α) : List α := if us.length = np ∧ ws.length = idx.length then us ++ idx.filterMap (fun i => ws[i]?) else []
theorem slAll_fm {W : Wd} {vs : List V} {ss : List Sl} (h : SlAll K W vs ss) : ∀ idx : List Nat, SlAll K W (idx.filterMap fun i => vs[i]?) (idx.filterMap fun i => ss[i]?)
  | [] => .nil
  | i :: idx => by
    have ih := slAll_fm h idx
    rw [List.filterMap_cons, List.filterMap_cons]
    cases q : ss[i]? with
    | none =>
      have : vs[i]? = none := by
        rw [List.getElem?_eq_none_iff] at q ⊢
        rw [h.length]
        exact q
      rw [this]
      exact ih
    | some s =>
      obtain ⟨v, hv, ok⟩ := h.get q
      rw [hv]
      exact .cons ok ih
theorem slAll_app {W : Wd} : ∀ {vs us : List V} {ss ts : List Sl}, SlAll K W vs ss → SlAll K W us ts → SlAll K W (vs ++ us) (ss ++ ts)
  | _, _, _, _, .nil, h => h
  | _, _, _, _, .cons a t, h => .cons a (slAll_app t h)
theorem slAll_kp {W : Wd} {np : Nat} {idx : List Nat} {vs us : List V} {ss ts : List Sl} (h1 : SlAll K W vs ss) (h2 : SlAll K W us ts) : SlAll K W (kp np idx vs us) (kp np idx ss ts) := by
  unfold kp
  rw [h1.length, h2.length]
  split
  · exact slAll_app h1 (slAll_fm h2 idx)
  · exact .nil
theorem vals_fm {vs : List V} {us : List Value} (h : Vals vs us) : ∀ idx : List Nat, Vals (idx.filterMap fun i => vs[i]?) (idx.filterMap fun i => us[i]?)
  | [] => .nil
  | i :: idx => by
    have ih := vals_fm h idx
    rw [List.filterMap_cons, List.filterMap_cons]
    cases q : vs[i]? with
    | none =>
      rw [h.none_of q]
      exact ih
    | some s =>
      obtain ⟨v, hv, ok⟩ := h.get q
      rw [hv]
      exact .cons ok ih
theorem vals_kp {np : Nat} {idx : List Nat} {vs zs : List V} {us ws : List Value} (h1 : Vals vs us) (h2 : Vals zs ws) : Vals (kp np idx vs zs) (kp np idx us ws) := by
  unfold kp
  rw [h1.length, h2.length]
  split
  · exact h1.append (vals_fm h2 idx)
  · exact .nil
structure PDK (X : Cx) (kws : List Keyword) (d : DA) : Prop where
  ex : ∃ t, PK X kws t ∧ LA X.K t d
theorem pdk_nil : PDK X [] aNil := ⟨_, pk_nil, la_nil⟩
theorem pdk_cons {nm : Option Str} {kpos : Pos} {kws : List Keyword} {d : DE} {a : DA} (h1 : PD X e d) (h2 : PDK X kws a) : PDK X (⟨nm, e, kpos⟩ :: kws) (aCons d a) := by
  obtain ⟨t1, p1, l1⟩ := h1
  obtain ⟨t2, p2, l2⟩ := h2
  exact ⟨_, pk_cons p1 p2, la_cons l1 l2⟩
def dCallK (np : Nat) (idx : List Nat) (n : Nat) (φ : DF) (a b : DA) : DE := fun ρ μ Q => a ρ μ fun ss μ1 => b ρ μ1 fun ts μ2 => (kp np idx ss ts).length = n ∧ φ (kp np idx ss ts) μ2 Q
theorem kbinds_of {f : Addr} {fd : FuncData} {ks : List Str} {np : Nat} {idx : List Nat} (F : Fun K x x st f fd) (hps : ps ≠ [])
    (hb : ∀ (kV doc pm : Value) (an : Option Addr) (cdv ct : Value) (us ws : List Value), us.length = np → ws.length = idx.length →
      bindArgs (PySem.W.fnOf x x (defArgs st) (defBody st) (defScope st) .none kV doc pm an cdv ct) ⟨us, ks.zip ws⟩ = pure (ps.zip (us ++ idx.filterMap fun i => ws[i]?))) : KBinds K fd ps ks (kp np idx) (kp np idx) := by
  obtain ⟨oc, od, kV, doc, pm, an, cdv, ct, osl, rfl, lk, hcd⟩ := F.ex
  refine ⟨fun s us ws _ hl => ?_, fun h1 h2 => vals_kp h1 h2⟩
  by_cases hc : us.length = np ∧ ws.length = idx.length
  · have e : kp np idx us ws = us ++ idx.filterMap (fun i => ws[i]?) := if_pos hc
    rw [e]
    exact .of_eq (hb kV doc pm an cdv ct us ws hc.1 hc.2)
  · have e : kp np idx us ws = [] := if_neg hc
    rw [e] at hl
    exact absurd (List.length_eq_zero_iff.mp hl.symm) hps
theorem pd_callK0 {ks : List Str} {kws : List Keyword} (idx : List Nat) {b : DA} (o : Own X.prog X.w X.K X.mg X.base x st ps k n φ) (hr : RoomG k X.A) (hps : ps ≠ [])
    (hb : ∀ (kV doc pm : Value) (an : Option Addr) (cdv ct : Value) (us ws : List Value), us.length = 0 → ws.length = idx.length →
      bindArgs (PySem.W.fnOf x x (defArgs st) (defBody st) (defScope st) .none kV doc pm an cdv ct) ⟨us, ks.zip ws⟩ = pure (ps.zip (us ++ idx.filterMap fun i => ws[i]?)))
    (hk : PDK X kws b) (hg : Gl X x := by rfl) (hall : (backToKw pos (keywordEach kws X.env)).all (·.1.isSome) = true := by rfl) (hks : (backToKw pos (keywordEach kws X.env)).filterMap (·.1) = ks := by rfl)
    (hdb : (x == ("__debug__" : Str)) = false := by decide) (hpl : ((backTo pos (starEach [] X.env)).any (·.1) || (backToKw pos (keywordEach kws X.env)).any (·.1.isNone)) = false := by rfl) : PD X (.Call (.Name x p) [] kws pos) (dCallK 0 idx n φ aNil b) := by
  obtain ⟨f, fd, F, G, hm⟩ := o
  obtain ⟨t2, p2, l2⟩ := hk
  refine ⟨_, pe_callGK0 G hr hg hm F.kp (kbinds_of F hps hb) pass0 p2 hall hks hdb hpl, fun ρ μ Q' h W σ H henv r Q q => l2 ρ μ _ h W σ H henv r _ fun us ts W2 H2 μ2 le2 r2 hts h2 => ?_⟩
  exact spD_of (E := E0) (slAll_kp .nil hts) r2 h2 (q.le le2)
end
end DL
namespace DL
open PySem PySem.Spec PyProof.Rows L2 Evl
section
variable {X : Cx} {K : PySem.W.Frag} {e : Expr} {es : List Expr} {x : Str} {p pos : Pos}
def okR (d : PyData) : Prop := d.showable = true ∧ (d.hasDict = false ∨ d = .dict []) ∧ d.depth ≤ 64 ∧ d.shown.length ≤ sizeLine
def rReprV (K : PySem.W.Frag) : List V → Hp → VK → Prop := fun vs H Q => ∃ v d, vs = [v] ∧ Dv K H v d ∧ okR d ∧ Q (.str d.shown) H
theorem cr_repr (hu : X.A.units + 128 < cLine) (hg : X.A.guards = some []) : CallR X (.builtin "repr") (rReprV X.K) := by
  intro pins s σ H vs us Q I r h
  obtain ⟨v, d, rfl, hd, ⟨h1, h2, h3, h4⟩, q⟩ := h
  cases r with
  | cons r1 r2 =>
    cases r2
    rename_i u
    obtain ⟨as, rr⟩ := Dv.reads I d v u hd r1
    cases d with
    | none =>
      cases hd
      cases r1
      exact PySem.P.repr_of_none ⟨.str _, H, I.tok _, ⟨_, rfl⟩, q⟩
    | bool b =>
      cases hd
      cases r1
      exact PySem.P.repr_of_bool ⟨.str _, H, I.tok _, ⟨_, rfl⟩, q⟩
    | int i =>
      cases hd
      obtain ⟨t, rfl⟩ := r1
      exact PySem.P.repr_of_int (of_decide_eq_true h1) ⟨.str _, H, I.tok _, ⟨_, rfl⟩, q⟩
    | str z =>
      cases hd
      obtain ⟨t, rfl⟩ := r1
      exact PySem.P.repr_of_str ⟨.str _, H, I.tok _, ⟨_, rfl⟩, q⟩ h4
    | list ds =>
      cases hd
      cases r1
      exact repr_of_reads' rr h1 (PyData.noDict_hsm (h2.resolve_right (fun z => by cases z))) hg (by omega) (fun _ _ z => z) (fun h' u tk hk => ⟨.str _, H, I.kept hk, ⟨_, rfl⟩, q⟩) h4
    | tuple ds =>
      cases hd
      cases r1
      exact repr_of_reads' rr h1 (PyData.noDict_hsm (h2.resolve_right (fun z => by cases z))) hg (by omega) (fun _ _ z => z) (fun h' u tk hk => ⟨.str _, H, I.kept hk, ⟨_, rfl⟩, q⟩) h4
    | dict kvs =>
      cases hd with
      | emp hs =>
        cases r1
        obtain ⟨r0, ne⟩ := dict_reads I hs
        exact repr_of_reads' r0 h1 (fun _ => by simpa using ne.symm) hg (by omega) (fun _ _ z => z) (fun h' u tk hk => ⟨.str _, H, I.kept hk, ⟨_, rfl⟩, q⟩) h4
def fRepr : DRA := arg1 fun d _ μ Q => okR d ∧ Q (.dat (.str d.shown)) μ
theorem RoomG.u128 {k : Nat} {A : Around} (h : RoomG k A) : A.units + 128 < cLine := by have := h.r.un; omega
theorem RoomG.u64 {k : Nat} {A : Around} (h : RoomG k A) : A.units + 64 < cLine := by have := h.r.un; omega
theorem pd_repr {k : Nat} (hr : RoomG k X.A) {a : DA} (ha : PDA X (e :: es) a) (hm : X.mg "repr" = none) (hg : Gl X "repr" := by rfl)
    (he : starEach (e :: es) X.env = (false, eval e X.env) :: starEach es X.env := by rfl) (hpl : (backTo pos (starEach es X.env)).any (·.1) = false := by rfl) : PD X (.Call (.Name "repr" p) (e :: es) [] pos) (dCB fRepr a) := by
  refine pd_cb (cr_repr hr.u128 hr.g) (fun xs μ Q' h W H vs r hs Q q => ?_) (by decide +kernel) ha hm hg (by decide) (by decide) he hpl
  obtain ⟨x, d, rfl, e1, h⟩ := arg1_of h
  obtain ⟨v, rfl, hx⟩ := slAll1 hs
  exact ⟨v, d, rfl, rd_dp r hx e1, h.1, q.str r h.2⟩
end
def lawF : DF := fun ss μ Q' => ∃ ns : List Int, ns.length ≤ 63 ∧ ss = [.dat (.list (ns.map PyData.int))] ∧ μ = [] ∧ Q' (.dat (.bool true)) []
theorem law_spD (K : PySem.W.Frag) (H : Hp) (a : Addr) (ns : List Int) (hl : ns.length ≤ 63) (hS : SqL K H a (ns.map V.int)) : SpD K 1 lawF [.ref a] H (fun v _ => v = .bl true) E0 := by
  refine ⟨⟨H, H, []⟩, [.dat (.list (ns.map PyData.int))], [], fun s _ => s = .dat (.bool true), rfl, .cons (.lst hS (DvAll.ints ns)) .nil, ⟨Ex.refl _, Ex.refl _, rfl, fun i j a h => ?_, fun k a c h => ?_⟩, ⟨ns, hl, rfl, rfl, rfl⟩, fun v s W' H' μ' l r hs e => ?_⟩
  · simp at h
  · simp at h
  · subst e
    exact bool_of hs
end DL
namespace DL
open PySem PySem.Spec PyProof.Rows L2 Evl
def Pure (N : List Str) (n : Nat) (φ : DF) (ds : DS) : Prop := ∀ ss μ Q', ss.length = n → φ ss μ Q' → ds ⟨fun _ μ' => finQ μ.length Q' (.dat .none) μ', finQ μ.length Q', fun _ _ => False, fun _ _ => False⟩ (startD N ss) μ
section
variable {ρ : Rho} {μ : Mu} {Q : DQ} {D : DEnds} {a b c d e : DE} {t u : DT} {as : DA} {r r' : DR2} {r1 : DR1} {ra : DRA} {s s' : DS}
@[simp ↓] theorem e_dVar {i : Nat} : dVar i ρ μ Q = (match ρ[i]? with | some (some s) => Q s μ | _ => False) := rfl
@[simp ↓] theorem e_dC {x : PyData} : dC x ρ μ Q = Q (.dat x) μ := rfl
@[simp ↓] theorem e_aNil {R : List Sl → Mu → Prop} : aNil ρ μ R = R [] μ := rfl
@[simp ↓] theorem e_aCons {R : List Sl → Mu → Prop} : aCons d as ρ μ R = d ρ μ fun s μ1 => as ρ μ1 fun ss μ2 => R (s :: ss) μ2 := rfl
@[simp ↓] theorem e_dOp : dOp r a b ρ μ Q = a ρ μ fun x μ1 => b ρ μ1 fun y μ2 => r x y μ2 Q := rfl
@[simp ↓] theorem e_dUn : dUn r1 a ρ μ Q = a ρ μ fun x μ1 => r1 x μ1 Q := rfl
@[simp ↓] theorem e_dCB : dCB ra as ρ μ Q = as ρ μ fun x μ1 => ra x μ1 Q := rfl
@[simp ↓] theorem e_dTest {R : Bool → Mu → Prop} : dTest d ρ μ R = d ρ μ fun x μ1 => match x with | .dat (.bool b) => R b μ1 | _ => False := rfl
@[simp ↓] theorem e_dChain : dChain r r' a b c ρ μ Q = a ρ μ fun x μ1 => b ρ μ1 fun y μ2 => r x y μ2 fun z μ3 => match z with | .dat (.bool k) => if k = true then c ρ μ3 (fun w μ4 => r' y w μ4 Q) else Q (.dat (.bool false)) μ3 | _ => False := rfl
@[simp ↓] theorem e_dTru {R : Bool → Mu → Prop} : dTru d ρ μ R = d ρ μ fun x μ1 => match rd μ1 x with | some z => okT z ∧ R (truD z) μ1 | _ => False := rfl
@[simp ↓] theorem e_dAnd {R : Bool → Mu → Prop} : dAnd t u ρ μ R = t ρ μ fun c μ1 => if c = true then u ρ μ1 R else R false μ1 := rfl
@[simp ↓] theorem e_dOr {R : Bool → Mu → Prop} : dOr t u ρ μ R = t ρ μ fun c μ1 => if c = true then R true μ1 else u ρ μ1 R := rfl
@[simp ↓] theorem e_dNot {R : Bool → Mu → Prop} : dNot t ρ μ R = t ρ μ fun c μ1 => R (!c) μ1 := rfl
@[simp ↓] theorem e_dIf : dIf t a b ρ μ Q = t ρ μ fun c μ1 => if c = true then a ρ μ1 Q else b ρ μ1 Q := rfl
@[simp ↓] theorem e_dAndV : dAndV a b ρ μ Q = a ρ μ fun x μ1 => match x with | .dat (.bool c) => if c = true then b ρ μ1 Q else Q (.dat (.bool false)) μ1 | _ => False := rfl
@[simp ↓] theorem e_dOrV : dOrV a b ρ μ Q = a ρ μ fun x μ1 => match x with | .dat (.bool c) => if c = true then Q (.dat (.bool true)) μ1 else b ρ μ1 Q | _ => False := rfl
@[simp ↓] theorem e_dNotV : dNotV a ρ μ Q = a ρ μ fun x μ1 => match x with | .dat (.bool c) => Q (.dat (.bool (!c))) μ1 | _ => False := rfl
@[simp ↓] theorem e_dTup : dTup as ρ μ Q = as ρ μ fun ss μ1 => match datsOf ss with | some (b, ds) => ds.length ≤ sizeLine ∧ Q (mk b (.tuple ds)) μ1 | none => False := rfl
@[simp ↓] theorem e_dLst : dLst as ρ μ Q = as ρ μ fun ss μ1 => match datsOf ss with | some (b, ds) => ds.length ≤ sizeLine ∧ Q (mk b (.list ds)) μ1 | none => False := rfl
@[simp ↓] theorem e_dLstC : dLstC as ρ μ Q = as ρ μ fun ss μ1 => match datsOf ss with | some (false, ds) => ds.length ≤ sizeLine ∧ Q (.cell μ1.length) (μ1 ++ [.lst ds]) | _ => False := rfl
@[simp ↓] theorem e_dNext : dNext D ρ μ = D.nx ρ μ := rfl
@[simp ↓] theorem e_dSeq : dSeq s s' D ρ μ = s { D with nx := s' D } ρ μ := rfl
@[simp ↓] theorem e_dAsg {i : Nat} : dAsg d i D ρ μ = d ρ μ fun s μ1 => D.nx (ρ.set i (some s)) μ1 := rfl
@[simp ↓] theorem e_dRet : dRet d D ρ μ = d ρ μ D.rt := rfl
@[simp ↓] theorem e_dRetN : dRetN D ρ μ = D.rt (.dat .none) μ := rfl
@[simp ↓] theorem e_dIfS : dIfS t s s' D ρ μ = t ρ μ fun c μ1 => if c = true then s D ρ μ1 else s' D ρ μ1 := rfl
@[simp ↓] theorem e_dDrop : dDrop d D ρ μ = d ρ μ fun _ μ1 => D.nx ρ μ1 := rfl
@[simp ↓] theorem e_dNever : dNever D ρ μ = False := rfl
@[simp ↓] theorem e_dCont : dCont D ρ μ = D.ct ρ μ := rfl
@[simp ↓] theorem e_dBreak : dBreak D ρ μ = D.bk ρ μ := rfl
@[simp ↓] theorem e_dAug {i : Nat} : dAug i r d D ρ μ = dVar i ρ μ fun x μ0 => d ρ μ0 fun y μ1 => r x y μ1 fun z μ2 => D.nx (ρ.set i (some z)) μ2 := rfl
@[simp ↓] theorem e_dPar {i j : Nat} : dPar i j as D ρ μ = as ρ μ fun ss μ1 => match ss with | [s, t] => D.nx ((ρ.set i (some s)).set j (some t)) μ1 | _ => False := rfl
@[simp ↓] theorem e_gN {i : Nat} {x : Sl} {R : Rho → Mu → Prop} : gN i x ρ μ R = R (ρ.set i (some x)) μ := rfl
@[simp ↓] theorem e_gsNil {R : Rho → Mu → Prop} : gsNil [] ρ μ R = R ρ μ := rfl
@[simp ↓] theorem e_gsCons {g : DG} {gs : DGs} {x : Sl} {xs : List Sl} {R : Rho → Mu → Prop} : gsCons g gs (x :: xs) ρ μ R = g x ρ μ fun ρ1 μ1 => gs xs ρ1 μ1 R := rfl
@[simp ↓] theorem e_gT {n : Nat} {gs : DGs} {ds : List PyData} {R : Rho → Mu → Prop} : gT n gs (.dat (.tuple ds)) ρ μ R = (ds.length = n ∧ gs (ds.map .dat) ρ μ R) := rfl
@[simp ↓] theorem e_gS {x : Sl} {R : Rho → Mu → Prop} : gS a b x ρ μ R = a ρ μ fun y μ1 => b ρ μ1 fun z μ2 => wrL y z x μ2 fun μ3 => R ρ μ3 := rfl
@[simp ↓] theorem e_dAsgG {g : DG} : dAsgG d g D ρ μ = d ρ μ fun s μ1 => g s ρ μ1 D.nx := rfl
@[simp ↓] theorem e_dCall {n : Nat} {φ : DF} : dCall n φ as ρ μ Q = as ρ μ fun ss μ1 => ss.length = n ∧ φ ss μ1 Q := rfl
@[simp ↓] theorem e_dCallK {np n : Nat} {idx : List Nat} {φ : DF} {bs : DA} : dCallK np idx n φ as bs ρ μ Q = as ρ μ fun ss μ1 => bs ρ μ1 fun ts μ2 => (kp np idx ss ts).length = n ∧ φ (kp np idx ss ts) μ2 Q := rfl
@[simp ↓] theorem e_rdD {x : PyData} : rd μ (.dat x) = some x := rfl
@[simp ↓] theorem e_rdV {x : PyData} : rd μ (.vw x) = some x := rfl
@[simp ↓] theorem e_rdC {k : Nat} : rd μ (.cell k) = rdC μ[k]? := rfl
@[simp ↓] theorem e_rdCl {ds : List PyData} : rdC (some (.lst ds)) = some (.list ds) := rfl
@[simp ↓] theorem e_isVd {x : PyData} : isV (.dat x) = false := rfl
@[simp ↓] theorem e_isVc {k : Nat} : isV (.cell k) = false := rfl
@[simp ↓] theorem e_mkF {x : PyData} : mk false x = .dat x := rfl
@[simp ↓] theorem e_eltD {x y : PyData} : elt (.dat x) y = .dat y := rfl
@[simp ↓] theorem e_eltC {k : Nat} {y : PyData} : elt (.cell k) y = .dat y := rfl
@[simp ↓] theorem e_eltfun {x : PyData} : elt (.dat x) = .dat := rfl
@[simp ↓] theorem e_datsNil : datsOf [] = some (false, []) := rfl
@[simp ↓] theorem e_datsCons {x : PyData} {ss : List Sl} : datsOf (.dat x :: ss) = (match datsOf ss with | some (b, ds) => some (b, x :: ds) | none => none) := rfl
@[simp ↓] theorem e_finD {n : Nat} {x : PyData} : finQ n Q (.dat x) μ = Q (.dat x) (μ.take n) := rfl
theorem e_wrL {k : Nat} {j : Int} {x : PyData} {R : Mu → Prop} : wrL (.cell k) (.dat (.int j)) (.dat x) μ R = (match μ[k]? with | some (.lst ds) => ∃ m, ixN ds.length j = some m ∧ R (μ.set k (.lst (ds.set m x))) | _ => False) := rfl
@[simp ↓] theorem e_sz2 : 2 ≤ sizeLine := by decide
theorem small_sz {n : Nat} (h : n ≤ 1000) : n ≤ sizeLine := Nat.le_trans h (by decide)
end
theorem fact_of {K : PySem.W.Frag} {h : Heap} {mg : Str → Option Value} {x : Str} {st : Stmt} {f : Addr} (X : K.In h) (G : h.Ns mainGlobals mg) {od an : Option Addr} {sl : Array (Option Value)} {oc kV dc pm cd ct : Value}
    (a : PySem.W.nsIn K mainGlobals x = some (some (.ref f))) (l : K.lookup f = some ⟨oc, od, .func (PySem.W.fnOf x x (defArgs st) (defBody st) (defScope st) .none kV dc pm an cd ct), sl⟩) (c : PySem.W.codeIn K cd x = true) (k : PySem.W.keepIn K (.ref f) = true) :
    ∃ f fd, Fun K x x st f fd ∧ mg x = some (.ref f) := ⟨f, _, fun_mk l c k, PySem.W.mg_of X G a⟩
theorem step_of {K : PySem.W.Frag} {h : Heap} {mg : Str → Option Value} {x : Str} {st : Stmt} {f : Addr} {Z : Prop} (X : K.In h) (G : h.Ns mainGlobals mg) {od an : Option Addr} {sl : Array (Option Value)} {oc kV dc pm cd ct : Value}
    (a : PySem.W.nsIn K mainGlobals x = some (some (.ref f))) (l : K.lookup f = some ⟨oc, od, .func (PySem.W.fnOf x x (defArgs st) (defBody st) (defScope st) .none kV dc pm an cd ct), sl⟩) (c : PySem.W.codeIn K cd x = true) (k : PySem.W.keepIn K (.ref f) = true)
    (z : (∃ f fd, Fun K x x st f fd ∧ mg x = some (.ref f)) → Z) : Z := z (fact_of X G a l c k)
end DL
namespace HT
open PySem PySem.Spec PySem.Entry PySem.Calls PyProof PyProof.Rows
section
variable {prog : Program} {w : World} {A : Around} {s : Shared} {E : Value → Shared → Prop}
end
end HT
namespace DL
open PySem PySem.Spec PyProof.Rows L2 Evl
def tRevT (K : PySem.W.Frag) (te : TE) : TE := fun σ H Q => te σ H fun x H1 => ∃ a xs, x = .ref a ∧ SqT K H1 a xs ∧ ∀ p, H1 p = none → Q (.ref p) (upd H1 p (.tup xs.reverse))
section
variable {X : Cx} {e : Expr} {te : TE} {k : Nat} {p1 p2 p3 pos : Pos}
def rRev : DR1 := fun x μ Q => match rd μ x with
  | some (.tuple ds) => Q (mk (isV x) (.tuple ds.reverse)) μ
  | _ => False
end
theorem VOk.seen {K : PySem.W.Frag} {W : Wd} {H : Hp} {μ : Mu} {Q' : DQ} {Q : VK} (h : VOk K W Q' Q) (r : Rep K W H μ) {p : Addr} (hp : H p = none) (o : HO) {b : Bool} (q : Q' (.dat (.bool b)) μ) : Q (.bl b) (upd H p o) :=
  h (.bl b) (.dat (.bool b)) _ _ μ (Le.new (o := o) r hp) (r.new hp) (.bl b) q
theorem kit_of5b {K : PySem.W.Frag} (T U : Ty5) (d : PyData) : PySem.W.kitAny K (.type (tyN d)) [.type T.nm, .type U.nm] = some (isTy T d || isTy U d) := by
  unfold PySem.W.kitAny
  rw [kit_of5]
  cases isTy T d
  · show PySem.W.kitAny K (.type (tyN d)) [.type U.nm] = _
    unfold PySem.W.kitAny
    rw [kit_of5]
    cases isTy U d <;> rfl
  · rfl
section
variable {X : Cx} {e : Expr} {p pos tpos : Pos} {k : Nat}
def fIsi2 (T U : Ty5) : DR1 := fun x μ Q => match rd μ x with
  | some d => Q (.dat (.bool (isTy T d || isTy U d))) μ
  | none => False
theorem pd_isi2 (T U : Ty5) {c c2 : Str} {cp cp2 : Pos} {d : DE} (ha : PD X e d) (hm : X.mg "isinstance" = none) (hmc : X.mg c = none) (hmc2 : X.mg c2 = none) (hv : bootBuiltins c = some (.type T.nm)) (hv2 : bootBuiltins c2 = some (.type U.nm))
    (hg : Gl X "isinstance" := by rfl) (hgc : Gl X c := by rfl) (hgc2 : Gl X c2 := by rfl)
    (hn : c ≠ "__name__" := by decide) (hdb : (c == ("__debug__" : Str)) = false := by decide) (hn2 : c2 ≠ "__name__" := by decide) (hdb2 : (c2 == ("__debug__" : Str)) = false := by decide)
    (he : starEach [e, .Tuple [.Name c cp, .Name c2 cp2] k tpos] X.env = (false, eval e X.env) :: starEach [.Tuple [.Name c cp, .Name c2 cp2] k tpos] X.env := by rfl)
    (he2 : starEach [.Tuple [.Name c cp, .Name c2 cp2] k tpos] X.env = (false, eval (.Tuple [.Name c cp, .Name c2 cp2] k tpos) X.env) :: starEach [] X.env := by rfl)
    (he3 : starEach [.Name c cp, .Name c2 cp2] X.env = (false, eval (.Name c cp) X.env) :: starEach [.Name c2 cp2] X.env := by rfl) (he4 : starEach [.Name c2 cp2] X.env = (false, eval (.Name c2 cp2) X.env) :: starEach [] X.env := by rfl)
    (hpl : (backTo pos (starEach [.Tuple [.Name c cp, .Name c2 cp2] k tpos] X.env)).any (·.1) = false := by rfl) : PD X (.Call (.Name "isinstance" p) [e, .Tuple [.Name c cp, .Name c2 cp2] k tpos] [] pos) (dUn (fIsi2 T U) d) := by
  obtain ⟨t, p1, l1⟩ := ha
  refine ⟨_, pe_callB call_isiT hg hm (by decide +kernel) (pa_cons p1 (pa_cons (pe_tup (pa_cons (pe_bltn (v := .ty T.nm) hgc hmc hv rfl hn hdb) (pa_cons (pe_bltn (v := .ty U.nm) hgc2 hmc2 hv2 rfl hn2 hdb2) pa_nil he4) he3)) pa_nil he2) he) (by decide) (by decide) he hpl, fun ρ μ Q' h W σ H henv rp Q q =>
    l1 ρ μ _ h W σ H henv rp _ fun v s W1 H1 μ1 le1 r1 hs h1 => ?_⟩
  replace h1 : (match rd μ1 s with | some d => Q' (.dat (.bool (isTy T d || isTy U d))) μ1 | none => False) := h1
  cases ee : rd μ1 s with
  | none => rw [ee] at h1; exact h1.elim
  | some z =>
    rw [ee] at h1
    refine ⟨by show 2 ≤ sizeLine; decide, fun tp hp => ⟨v, tp, [.ty T.nm, .ty U.nm], .type (tyN z), [.type T.nm, .type U.nm], isTy T z || isTy U z, rfl, upd_same, .cons (.ty _) (.cons (.ty _) .nil), tyX_of (Dv.mono (rd_dp r1 hs ee) (Ex.new hp)), kit_of5b T U z, VOk.seen (q.le le1) r1 hp _ h1⟩⟩
@[simp ↓] theorem o_isi2 {T U : Ty5} {x : PyData} {μ : Mu} {Q : DQ} : fIsi2 T U (.dat x) μ Q = Q (.dat (.bool (isTy T x || isTy U x))) μ := rfl
@[simp ↓] theorem o_rev {ds : List PyData} {μ : Mu} {Q : DQ} : rRev (.dat (.tuple ds)) μ Q = Q (.dat (.tuple ds.reverse)) μ := rfl
end
end DL
namespace DL
open PySem PySem.Spec PyProof.Rows L2 Evl
def Sh (n : Nat) (d : PyData) : Prop := d.canLay0 = true ∧ d.depth ≤ n
theorem Sh.int {n : Nat} {i : Int} : Sh n (.int i) := ⟨rfl, Nat.zero_le _⟩
theorem Sh.bool {n : Nat} {b : Bool} : Sh n (.bool b) := ⟨rfl, Nat.zero_le _⟩
theorem canAll : ∀ {xs : List PyData}, (∀ x ∈ xs, x.canLay0 = true) → PyData.canLayAll0 xs = true
  | [], _ => rfl
  | x :: xs, h => by
    simp only [PyData.canLayAll0, Bool.and_eq_true]
    exact ⟨h x (List.mem_cons_self ..), canAll fun y hy => h y (List.mem_cons_of_mem _ hy)⟩
theorem depAll {n : Nat} : ∀ {xs : List PyData}, (∀ x ∈ xs, x.depth ≤ n) → PyData.depthAll xs ≤ n
  | [], _ => Nat.zero_le _
  | x :: xs, h => Nat.max_le.mpr ⟨h x (List.mem_cons_self ..), depAll fun y hy => h y (List.mem_cons_of_mem _ hy)⟩
theorem Sh.tup {n : Nat} {xs : List PyData} (h : ∀ x ∈ xs, Sh n x) : Sh (n + 1) (.tuple xs) :=
  ⟨by simp only [PyData.canLay0]; exact canAll fun x hx => (h x hx).1, Nat.succ_le_succ (depAll fun x hx => (h x hx).2)⟩
theorem Sh.list {n : Nat} {xs : List PyData} (h : ∀ x ∈ xs, Sh n x) : Sh (n + 1) (.list xs) :=
  ⟨by simp only [PyData.canLay0]; exact canAll fun x hx => (h x hx).1, Nat.succ_le_succ (depAll fun x hx => (h x hx).2)⟩
theorem Sh.mono {m n : Nat} {d : PyData} (h : Sh m d) (g : m ≤ n) : Sh n d := ⟨h.1, Nat.le_trans h.2 g⟩
theorem Sh.ok {n : Nat} {d : PyData} (h : Sh n d) (g : n ≤ 64) : SeqAt.shaped d = true := Bool.and_eq_true_iff.mpr ⟨h.1, decide_eq_true (Nat.le_trans h.2 g)⟩
theorem eqv_self {n : Nat} {d : PyData} (h : Sh n d) : PyData.eqv d d = true := SeqAt.eqv_refl_plain d (PyData.plain_of_canLay0 d h.1)
theorem eqD_same {f : Bool → Bool} {n : Nat} {μ : Mu} {Q : DQ} {s t : Sl} {d : PyData} (h : Sh n d) (g : n ≤ 64) (e1 : rd μ s = some d) (e2 : rd μ t = some d) : eqD f s t μ Q = Q (.dat (.bool (f true))) μ := by
  have hs := h.ok g
  have he := eqv_self h
  unfold eqD
  rw [e1, e2]
  cases d with
  | int i => simp
  | str i => simp
  | bool i => simp
  | dict i => exact absurd h.1 Bool.false_ne_true
  | none => exact propext ⟨fun z => z.2, fun z => ⟨⟨rfl, rfl⟩, z⟩⟩
  | list xs =>
    show ((SeqAt.shaped (.list xs) = true ∧ SeqAt.shaped (.list xs) = true) ∧ Q (.dat (.bool (f (PyData.eqv (.list xs) (.list xs))))) μ) = _
    rw [he, hs]
    exact propext ⟨fun z => z.2, fun z => ⟨⟨rfl, rfl⟩, z⟩⟩
  | tuple xs =>
    show ((SeqAt.shaped (.tuple xs) = true ∧ SeqAt.shaped (.tuple xs) = true) ∧ Q (.dat (.bool (f (PyData.eqv (.tuple xs) (.tuple xs))))) μ) = _
    rw [he, hs]
    exact propext ⟨fun z => z.2, fun z => ⟨⟨rfl, rfl⟩, z⟩⟩
theorem ne_same {n : Nat} {μ : Mu} {Q : DQ} {d : PyData} (h : Sh n d) (g : n ≤ 64) : DL.rNe (.dat d) (.dat d) μ Q = Q (.dat (.bool false)) μ := eqD_same h g rfl rfl
theorem addTo_end {μ : Mu} {acc : List PyData} {d : PyData} {R : Mu → Prop} (h : acc.length < sizeLine) : addTo μ.length (.dat d) (μ ++ [Cell.lst acc]) R = R (μ ++ [Cell.lst (acc ++ [d])]) := by
  unfold addTo
  rw [List.getElem?_append_right (Nat.le_refl _), Nat.sub_self]
  show (acc.length < sizeLine ∧ R ((μ ++ [Cell.lst acc]).set μ.length (.lst (acc ++ [d])))) = _
  rw [List.set_append_right _ _ (Nat.le_refl _), Nat.sub_self]
  exact propext ⟨fun z => z.2, fun z => ⟨h, z⟩⟩
theorem lcD_eq {C : Mu → Prop} {g : DG} {t : DT} {e : DE} {Q : Mu → Prop} {ρ : Rho} {p : PyData → Bool} {f : PyData → PyData} {μ : Mu} (hC : ∀ acc, C (μ ++ [Cell.lst acc])) : ∀ (ds acc : List PyData), acc.length + ds.length ≤ sizeLine →
    (∀ x ∈ ds, ∀ (acc : List PyData) (R : Mu → Prop), (g (.dat x) ρ (μ ++ [Cell.lst acc]) fun ρ1 μ1 => t ρ1 μ1 fun b μ2 => if b = true then e ρ1 μ2 fun v μ3 => addTo μ.length v μ3 R else R μ2) = if p x = true then addTo μ.length (.dat (f x)) (μ ++ [Cell.lst acc]) R else R (μ ++ [Cell.lst acc])) →
    lcD C g t e μ.length Q ρ (ds.map .dat) (μ ++ [Cell.lst acc]) = Q (μ ++ [Cell.lst (acc ++ (ds.filter p).map f)])
  | [], acc, _, _ => by
    show (C _ ∧ Q _) = _
    rw [List.filter_nil, List.map_nil, List.append_nil]
    exact propext ⟨fun z => z.2, fun z => ⟨hC acc, z⟩⟩
  | x :: ds, acc, hl, hs => by
    rw [List.length_cons] at hl
    have h1 := hs x (List.mem_cons_self ..) acc (lcD C g t e μ.length Q ρ (ds.map .dat))
    show (C _ ∧ g (.dat x) ρ (μ ++ [Cell.lst acc]) _) = _
    rw [h1]
    have ih := fun a h => lcD_eq hC ds a h (Q := Q) fun y hy => hs y (List.mem_cons_of_mem _ hy)
    by_cases hp : p x = true
    · rw [if_pos hp, addTo_end (by omega), ih _ (by rw [List.length_append, List.length_singleton]; omega), List.filter_cons_of_pos hp, List.map_cons, List.append_assoc]
      exact propext ⟨fun z => z.2, fun z => ⟨hC acc, z⟩⟩
    · rw [if_neg hp, ih _ (by omega), List.filter_cons_of_neg hp]
      exact propext ⟨fun z => z.2, fun z => ⟨hC acc, z⟩⟩
theorem frz_end {μ : Mu} {Q : DQ} {acc : List PyData} : frzQ μ.length Q (μ ++ [Cell.lst acc]) = Q (.dat (.list acc)) μ := by
  unfold frzQ
  rw [List.getElem?_append_right (Nat.le_refl _), Nat.sub_self]
  show Q (.dat (.list acc)) ((μ ++ [Cell.lst acc]).take μ.length) = _
  rw [List.take_left']
  rfl
theorem lc_eq {i : DI} {g : DG} {t : DT} {e : DE} {vs : List Nat} {ρ : Rho} {μ : Mu} {Q : DQ} {C : Mu → Prop} {ds : List PyData} (p : PyData → Bool) (f : PyData → PyData) (hi : ∀ R, i ρ μ R = R (ds.map .dat) C μ) (hC : ∀ acc, C (μ ++ [Cell.lst acc])) (hl : ds.length ≤ sizeLine)
    (hs : ∀ x ∈ ds, ∀ (acc : List PyData) (R : Mu → Prop), (g (.dat x) (wipeD ρ vs) (μ ++ [Cell.lst acc]) fun ρ1 μ1 => t ρ1 μ1 fun b μ2 => if b = true then e ρ1 μ2 fun v μ3 => addTo μ.length v μ3 R else R μ2) = if p x = true then addTo μ.length (.dat (f x)) (μ ++ [Cell.lst acc]) R else R (μ ++ [Cell.lst acc])) :
    dLc i g t e vs ρ μ Q = Q (.dat (.list ((ds.filter p).map f))) μ := by
  show i ρ μ _ = _
  rw [hi]
  refine (lcD_eq hC ds [] (by simpa using hl) hs).trans ?_
  rw [List.nil_append]
  exact frz_end
theorem lc_map {i : DI} {g : DG} {e : DE} {vs : List Nat} {ρ : Rho} {μ : Mu} {Q : DQ} {C : Mu → Prop} {ds : List PyData} (f : PyData → PyData) (hi : ∀ R, i ρ μ R = R (ds.map .dat) C μ) (hC : ∀ acc, C (μ ++ [Cell.lst acc])) (hl : ds.length ≤ sizeLine)
    (hs : ∀ x ∈ ds, ∀ (acc : List PyData) (R : Mu → Prop), (g (.dat x) (wipeD ρ vs) (μ ++ [Cell.lst acc]) fun ρ1 μ1 => e ρ1 μ1 fun v μ3 => addTo μ.length v μ3 R) = addTo μ.length (.dat (f x)) (μ ++ [Cell.lst acc]) R) :
    dLc i g dYes e vs ρ μ Q = Q (.dat (.list (ds.map f))) μ := by
  have h := lc_eq (i := i) (g := g) (t := dYes) (e := e) (vs := vs) (Q := Q) (fun _ => true) f hi hC hl (fun x hx acc R => (hs x hx acc R).trans (if_pos rfl).symm)
  rw [List.filter_eq_self.mpr (fun _ _ => rfl)] at h
  exact h
def Sq (μ : Mu) (s : Sl) (ds : List PyData) : Prop := isV s = false ∧ (rd μ s = some (.list ds) ∨ rd μ s = some (.tuple ds))
theorem rd_more {μ ν : Mu} {s : Sl} {d : PyData} (h : rd μ s = some d) : rd (μ ++ ν) s = some d := by
  cases s with
  | cell k =>
    replace h : rdC μ[k]? = some d := h
    show rdC (μ ++ ν)[k]? = some d
    have hk : k < μ.length := by
      by_cases hk : k < μ.length
      · exact hk
      · rw [List.getElem?_eq_none (by omega)] at h
        cases h
    rw [List.getElem?_append_left hk]
    exact h
  | _ => exact h
theorem Sq.more {μ ν : Mu} {s : Sl} {ds : List PyData} (h : Sq μ s ds) : Sq (μ ++ ν) s ds := ⟨h.1, h.2.imp rd_more rd_more⟩
theorem Sq.dt {μ : Mu} {ds : List PyData} : Sq μ (.dat (.tuple ds)) ds := ⟨rfl, .inr rfl⟩
theorem Sq.dl {μ : Mu} {ds : List PyData} : Sq μ (.dat (.list ds)) ds := ⟨rfl, .inl rfl⟩
theorem iSeq_ok {i : Nat} {ρ : Rho} {μ : Mu} {s : Sl} {ds : List PyData} (h : ρ[i]? = some (some s)) (hs : Sq μ s ds) : ∃ C : Mu → Prop, C μ ∧ (∀ ν, C (μ ++ ν)) ∧ ∀ R, iSeq (dVar i) ρ μ R = R (ds.map .dat) C μ := by
  have he : elt s = .dat := by
    funext d
    unfold elt
    rw [hs.1]
    rfl
  rcases hs.2 with e | e
  · refine ⟨fun ν => rd ν s = some (.list ds), e, fun ν => rd_more e, fun R => ?_⟩
    simp only [iSeq, e_dVar, h, e, he]
  · refine ⟨fun _ => True, trivial, fun _ => trivial, fun R => ?_⟩
    simp only [iSeq, e_dVar, h, e, he]
theorem zipS_dat {x y : PyData} : ∀ {ds es : List PyData}, zipS (.dat x) (.dat y) ds es = (List.zipWith (fun d e => PyData.tuple [d, e]) ds es).map .dat
  | [], _ => by cases ‹List PyData› <;> rfl
  | _ :: _, [] => rfl
  | d :: ds, e :: es => by
    rw [List.zipWith_cons_cons, List.map_cons, ← zipS_dat]
    rfl
section
variable {μ : Mu} {Q : DQ} {i j : Int} {x y : PyData} {ρ : Rho} {ds es : List PyData}
@[simp ↓] theorem o_sum {ns : List Int} : fSum [.dat (.list (ns.map PyData.int))] μ Q = Q (.dat (.int ns.sum)) μ := by
  have : ∀ ns : List Int, intsOf (ns.map PyData.int) = some ns := fun ns => by
    induction ns with
    | nil => rfl
    | cons b r ih => simp [intsOf, ih]
  simp [fSum, arg1, this]
@[simp ↓] theorem o_all {bs : List Bool} : fAll [.dat (.list (bs.map PyData.bool))] μ Q = Q (.dat (.bool (bs.all id))) μ := by
  have : ∀ bs : List Bool, boolsOf (bs.map PyData.bool) = some bs := fun bs => by
    induction bs with
    | nil => rfl
    | cons b r ih => simp [boolsOf, ih]
  simp [fAll, fBools, arg1, this]
@[simp ↓] theorem o_tupL : fTuple [.dat (.list ds)] μ Q = Q (.dat (.tuple ds)) μ := rfl
@[simp ↓] theorem o_tupT : fTuple [.dat (.tuple ds)] μ Q = Q (.dat (.tuple ds)) μ := rfl
@[simp ↓] theorem o_eqI : DL.rEq (.dat (.int i)) (.dat (.int j)) μ Q = Q (.dat (.bool (decide (i = j)))) μ := rfl
@[simp ↓] theorem o_neI : DL.rNe (.dat (.int i)) (.dat (.int j)) μ Q = Q (.dat (.bool (!decide (i = j)))) μ := rfl
@[simp ↓] theorem o_eqB {i j : Bool} : DL.rEq (.dat (.bool i)) (.dat (.bool j)) μ Q = Q (.dat (.bool (decide (i = j)))) μ := rfl
@[simp ↓] theorem o_neS {i j : Str} : DL.rNe (.dat (.str i)) (.dat (.str j)) μ Q = Q (.dat (.bool (!decide (i = j)))) μ := rfl
@[simp ↓] theorem o_lt : DL.rLt (.dat (.int i)) (.dat (.int j)) μ Q = Q (.dat (.bool (decide (i < j)))) μ := rfl
@[simp ↓] theorem o_le : DL.rLe (.dat (.int i)) (.dat (.int j)) μ Q = Q (.dat (.bool (decide (i ≤ j)))) μ := rfl
@[simp ↓] theorem o_gt : DL.rGt (.dat (.int i)) (.dat (.int j)) μ Q = Q (.dat (.bool (decide (j < i)))) μ := rfl
@[simp ↓] theorem o_ge : DL.rGe (.dat (.int i)) (.dat (.int j)) μ Q = Q (.dat (.bool (decide (j ≤ i)))) μ := rfl
@[simp ↓] theorem o_add : DL.rAdd (.dat (.int i)) (.dat (.int j)) μ Q = Q (.dat (.int (i + j))) μ := rfl
@[simp ↓] theorem o_addT : DL.rAdd (.dat (.tuple ds)) (.dat (.tuple es)) μ Q = (ds.length + es.length ≤ sizeLine ∧ Q (.dat (.tuple (ds ++ es))) μ) := rfl
@[simp ↓] theorem o_sub : DL.rSub (.dat (.int i)) (.dat (.int j)) μ Q = Q (.dat (.int (i - j))) μ := propext ⟨fun h => h.2, fun h => ⟨trivial, h⟩⟩
@[simp ↓] theorem o_mul : DL.rMul (.dat (.int i)) (.dat (.int j)) μ Q = (CMulW i j ∧ Q (.dat (.int (i * j))) μ) := rfl
@[simp ↓] theorem o_mulT : DL.rMul (.dat (.tuple ds)) (.dat (.int j)) μ Q = ((ds ≠ [] ∧ 2 ≤ j ∧ j ≤ 1000 ∧ ds.length ≤ 1000) ∧ Q (.dat (.tuple (List.replicate j.toNat ds).flatten)) μ) := rfl
@[simp ↓] theorem o_dv : DL.rDv (.dat (.int i)) (.dat (.int j)) μ Q = (CDv i j ∧ Q (.dat (.int (i.fdiv j))) μ) := rfl
@[simp ↓] theorem o_md : DL.rMd (.dat (.int i)) (.dat (.int j)) μ Q = (j ≠ 0 ∧ Q (.dat (.int (i.fmod j))) μ) := rfl
@[simp ↓] theorem o_pw : DL.rPw (.dat (.int i)) (.dat (.int j)) μ Q = (CPow i j ∧ Q (.dat (.int (i ^ j.toNat))) μ) := rfl
@[simp ↓] theorem o_neg : DL.rNeg (.dat (.int i)) μ Q = Q (.dat (.int (-i))) μ := rfl
@[simp ↓] theorem o_isT {b c : Bool} : DL.rIs true (.dat (.bool b)) (.dat (.bool c)) μ Q = Q (.dat (.bool (true != decide (b = c)))) μ := rfl
@[simp ↓] theorem o_lenL : fLen [.dat (.list ds)] μ Q = Q (.dat (.int ds.length)) μ := rfl
@[simp ↓] theorem o_lenT : fLen [.dat (.tuple ds)] μ Q = Q (.dat (.int ds.length)) μ := rfl
@[simp ↓] theorem o_abs : fAbs [.dat (.int i)] μ Q = Q (.dat (.int (if i < 0 then -i else i))) μ := rfl
@[simp ↓] theorem o_max : fMax2 [.dat (.int i), .dat (.int j)] μ Q = Q (.dat (.int (if j > i then j else i))) μ := propext ⟨fun h => h.2, fun h => ⟨trivial, h⟩⟩
@[simp ↓] theorem o_int : fInt [.dat (.int i)] μ Q = Q (.dat (.int i)) μ := rfl
@[simp ↓] theorem o_intB {b : Bool} : fInt [.dat (.bool b)] μ Q = Q (.dat (.int (if b then 1 else 0))) μ := rfl
@[simp ↓] theorem o_isiT {T : Ty5} : fIsi T (.dat x) μ Q = Q (.dat (.bool (isTy T x))) μ := rfl
@[simp ↓] theorem o_tr {b : Bool} : truD (.bool b) = b := rfl
@[simp ↓] theorem o_okT {b : Bool} : okT (.bool b) = True := rfl
theorem rix_c {k : Nat} {j : Int} {d : PyData} {ds : List PyData} (hm : μ[k]? = some (.lst ds)) (e : atI ds j = some d) : DL.rIx (.cell k) (.dat (.int j)) μ Q = Q (.dat d) μ := by
  simp only [DL.rIx, e_rdC, hm, e_rdCl, e_rdD, e, Option.some.injEq, exists_eq_left', e_eltC]
theorem rix_l {j : Int} {d : PyData} {ds : List PyData} (e : atI ds j = some d) : DL.rIx (.dat (.list ds)) (.dat (.int j)) μ Q = Q (.dat d) μ := by
  simp only [DL.rIx, e_rdD, e, Option.some.injEq, exists_eq_left', e_eltD]
theorem wrl_c {k m : Nat} {j : Int} {x : PyData} {R : Mu → Prop} {ds : List PyData} (hm : μ[k]? = some (.lst ds)) (e : ixN ds.length j = some m) : wrL (.cell k) (.dat (.int j)) (.dat x) μ R = R (μ.set k (.lst (ds.set m x))) := by
  simp only [e_wrL, hm, e, Option.some.injEq, exists_eq_left']
theorem atI_lt {ds : List PyData} {j : Int} (h0 : 0 ≤ j) (h : j < ds.length) : ∃ d, d ∈ ds ∧ atI ds j = some d := by
  have hj : j.toNat < ds.length := by omega
  refine ⟨ds[j.toNat], List.getElem_mem hj, ?_⟩
  have := atI_nat (List.getElem?_eq_getElem hj)
  rwa [Int.toNat_of_nonneg h0] at this
end
end DL
namespace DL
open PySem PySem.Spec PyProof.Rows L2 Evl PySem.W PySem.Calls PySem.SeqAt
theorem firsts_any {M : Model} {A : Around} {E : Value → Shared → Prop} {s : Shared} : ∀ (vs : List Value) (fs : List (Option Value)) {Q : List (Option Value) → Shared → Prop},
    EachIs (fun v f => ∃ a o xs n, v = Value.ref a ∧ s.heap.get? a = some o ∧ o.cls = .type "tuple" ∧ o.data = .seq xs n ∧ xs[0]? = f) vs fs → Q fs s → wpAny M A (vs.mapM firstOfTuple') Q E s
  | [], _, _, e, h => by cases e; rw [List.mapM_nil]; exact wpAny_pure h
  | v :: vs, _, Q, e, h => by
    cases e with
    | cons e1 e2 =>
      obtain ⟨a, o, xs, n, rfl, ho, hc, hd, hf⟩ := e1
      rw [List.mapM_cons]
      refine wpAny_bind ?_
      rw [kas_first_eq]
      refine wpAny_bind (Looks.here (show Looks M s.heap (typeOf (.ref a)) o.cls from (Looks.ld ho).andThen .now) ?_)
      rw [hc, if_neg (by first | decide | simp)]
      refine wpAny_bind (listItems_at ho hd (wpAny_pure ?_))
      rw [hf]
      exact wpAny_bind (firsts_any vs _ (Q := fun bs s' => wpAny M A (pure (_ :: bs)) Q E s') e2 (wpAny_pure h))
theorem kind_first_empty {M : Model} {A : Around} {E : Value → Shared → Prop} {s : Shared} {vs : List Value} {fs : List (Option Value)} {Q : SortKind → Shared → Prop}
    (e : EachIs (fun v f => ∃ a o xs n, v = Value.ref a ∧ s.heap.get? a = some o ∧ o.cls = .type "tuple" ∧ o.data = .seq xs n ∧ xs[0]? = f) vs (none :: fs)) (h : Q oneType' s) : wpAny M A (keyKind' vs.toArray) Q E s := by
  rw [kat_kind_eq, List.mapM_toArray, map_eq_pure_bind]
  refine wpAny_bind (wpAny_bind (firsts_any vs _ e (wpAny_pure ?_)))
  rw [if_neg (by simp), if_neg (by simp)]
  rw [oneTypeOnly'_eq, List.mapM_toArray, map_eq_pure_bind]
  refine wpAny_bind (wpAny_bind (wpAny_bind (kas_mapM (r := .type "tuple") _ (fun v hv Q' hq => ?_) (wpAny_pure ?_))))
  · obtain ⟨f, _, a, o, xs, n, rfl, ho, hc, _, _⟩ := e.left v hv
    exact Looks.here (show Looks M s.heap (typeOf (.ref a)) (.type "tuple") from hc ▸ (Looks.ld ho).andThen .now) hq
  · cases e with
    | cons e1 e2 =>
      rename_i v vs'
      have hall : ((List.map (fun _ => Value.type "tuple") (v :: vs')).toArray.all fun x => x == Value.type "tuple") = true := by
        simp only [List.all_toArray, List.all_map, List.all_eq_true]
        intro _ _
        exact beq_self_eq_true _
      have h0 : (List.map (fun _ => Value.type "tuple") (v :: vs')).toArray[0]? = some (Value.type "tuple") := by simp
      rw [h0]
      simp only [hall, if_true]
      exact wpAny_pure (wpAny_pure h)
section
variable {prog : Program} {w : World} {A : Around} {E : Value → Shared → Prop} {s : Shared}
theorem call_tuple_lt {l b : Addr} {items items2 : Array Value} {e r : Nat → Bool} {Q : Value → Shared → Prop} (hl : s.heap.IsTuple l items) (hb : s.heap.IsTuple b items2)
    (he : ∀ j (h1 : j < items.size) (h2 : j < items2.size), EqAt A.in1 s items[j] items2[j] (e j)) (hr : ∀ j (h1 : j < items.size) (h2 : j < items2.size), e j = false → RcLt A.in1 s items[j] items2[j] (r j))
    (h : Q (.bool (firstLt e r (decide (items.size < items2.size)) (List.range (min items.size items2.size)))) s) : wpAny (model prog w) A (call (.builtin "tuple.__lt__") [.ref l, .ref b]) Q E s := by
  obtain ⟨⟨cls, dd, data, sl⟩, ho, hc, n, hd⟩ := id hl
  obtain ⟨⟨cls2, dd2, data2, sl2⟩, ho2, hc2, n2, hd2⟩ := id hb
  simp only at hc hd hc2 hd2
  subst hc hd hc2 hd2
  exact call_meets F.slot_tuple_lt ⟨_, ho, rfl⟩ F.entry_tuple_lt (F.args_tuple_lt_2 _ _) (tuple_ltAt l b items items2 n n2 dd dd2 sl sl2 e r) ⟨ho, ho2, he, hr, h⟩
theorem oneLt_tuples {xs ys : List PyData} {a b : Value} {as bs : List Addr} {Q : Bool → Shared → Prop} (ra : Reads s.heap a (.tuple xs) as) (rb : Reads s.heap b (.tuple ys) bs) (h : alike (.tuple xs) (.tuple ys) = true)
    (hu : A.units + min (PyData.tuple xs).depth (PyData.tuple ys).depth < cLine) (hq : Q (dataLt (.tuple xs) (.tuple ys)) s) : wpAny (model prog w) A (oneLt' true a b) Q E s := by
  have hal : alikeAll xs ys = true := by simpa [alike] using h
  cases ra with
  | @tuple l o vs n _ as₁ h1 h2 h3 h4 =>
    cases rb with
    | @tuple l' o' vs' n' _ bs₁ k1 k2 k3 k4 =>
      have n1 : vs.size = xs.length := by simpa using ReadsAll.length _ _ _ h4
      have n2 : vs'.size = ys.length := by simpa using ReadsAll.length _ _ _ k4
      rw [dataLt_tuple, ← firstLt_toks xs ys hal, ← n1, ← n2] at hq
      rw [oneLt'_eq]
      simp only [if_true]
      refine wpAny_bind (wpAny_cRoomFor (room_here hu) ?_)
      refine wpAny_bind (wpAny_callSpecialIfBound?_slot (T := "tuple") ⟨_, h1, h2⟩ F.slot_tuple_lt (call_tuple_lt (e := pairEq xs ys) (r := fun j => dataLt (xs.getD j .none) (ys.getD j .none)) ⟨_, h1, h2, _, h3⟩ ⟨_, k1, k2, _, k3⟩ (fun j j1 j2 => ?_) (fun j j1 j2 hj => ?_) ?_))
      · have := eqAt_alikeAll xs ys A.in1 s vs.toList vs'.toList _ _ h4 k4 hal (room_in hu) j (by simpa using j1) (by simpa using j2)
        simpa using this
      · have := rcLt_alikeAll xs ys A.in1 s vs.toList vs'.toList _ _ h4 k4 hal (room_in hu) j (by simpa using j1) (by simpa using j2) hj
        simpa using this
      · exact wpAny_truthy_bool hq
theorem each_firsts {h : Heap} : ∀ {vs : List Value} {ds : List PyData}, EachIs (fun v d => ∃ as, Reads h v d as) vs ds → (∀ d, d ∈ ds → ∃ xs, d = .tuple xs) →
    ∃ fs, EachIs (fun v f => ∃ a o xs n, v = Value.ref a ∧ h.get? a = some o ∧ o.cls = .type "tuple" ∧ o.data = .seq xs n ∧ xs[0]? = f) vs fs ∧ (∀ r, ds = .tuple [] :: r → ∃ fr, fs = none :: fr)
  | _, _, .nil, _ => ⟨[], .nil, fun r e => by cases e⟩
  | _, _, .cons (b := d) ⟨as, r⟩ t, ht => by
    obtain ⟨fs, h1, _⟩ := each_firsts t fun d hd => ht d (List.mem_cons_of_mem _ hd)
    obtain ⟨xs, rfl⟩ := ht d (List.mem_cons_self ..)
    cases r with
    | @tuple a o its n _ _ ho hc hd hr =>
      refine ⟨its[0]? :: fs, .cons ⟨a, o, its, n, rfl, ho, hc, hd, rfl⟩ h1, fun r e => ⟨fs, ?_⟩⟩
      cases e
      have q : its.toList = [] := by
        generalize its.toList = z at hr
        cases hr
        rfl
      have : its[0]? = none := by rw [← Array.getElem?_toList, q]; rfl
      rw [this]
def FirstEmpty (ds : List PyData) : Prop := (∃ r, ds = .tuple [] :: r) ∧ ∀ d, d ∈ ds → ∃ xs, d = .tuple xs
theorem sortsAt_empty {vs : List Value} {ds : List PyData} (e : EachIs (fun v d => ∃ as, Reads s.heap v d as) vs ds) (hal : AllAlike ds) (hk : FirstEmpty ds) (hu : ∀ d, d ∈ ds → A.units + d.depth < cLine) : SortsAt prog w A s (dataKind s.heap ds) vs := by
  refine ⟨fun v hv => ?_, ⟨oneType', ?_, fun h2 E Q hq => ?_⟩⟩
  · obtain ⟨d, hd, as, r⟩ := e.left v hv
    exact ⟨_, dataKind_some hal hd r⟩
  · intro E x y a b Q ha hb hq
    obtain ⟨d, as, hd, ra, rfl⟩ := dataKind_inv ha
    obtain ⟨d', as', hd', rb, rfl⟩ := dataKind_inv hb
    rw [keyLt'_oneType]
    have hdd := hal d hd d' hd'
    have hr : A.units + min d.depth d'.depth < cLine := Nat.lt_of_le_of_lt (Nat.add_le_add_left (Nat.min_le_left _ _) _) (hu d hd)
    obtain ⟨xs, rfl⟩ := hk.2 d hd
    obtain ⟨ys, rfl⟩ := hk.2 d' hd'
    exact oneLt_tuples ra rb hdd hr hq
  · obtain ⟨fs, q1, q2⟩ := each_firsts e hk.2
    obtain ⟨r, er⟩ := hk.1
    obtain ⟨fr, rfl⟩ := q2 r er
    exact kind_first_empty q1 hq
def SortOk (ds : List PyData) : Prop := AllAlike ds ∧ (Sortable ds ∨ FirstEmpty ds) ∧ ds.length ≤ sizeLine ∧ ∀ d, d ∈ ds → d.depth ≤ 64
theorem sorted_any {β : Type} {R : Value → β → Prop} {enc : β → PyData} {vs : List Value} {bs : List β} {l : Addr} {Q : Value → Shared → Prop} (hl : s.heap.IsList l vs.toArray) (e : EachIs R vs bs) (er : EachIs (fun v b => ∃ as, Reads s.heap v (enc b) as) vs bs) (ok : SortOk (bs.map enc))
    (hu : A.units + 128 < cLine) (h : ∀ out, out.length = bs.length → EachIs R out (bs.mergeSort (dataLe false enc)) → Q (.ref (s.heap.objs.size + 1)) { s with heap := sortedAll s.heap vs (List.toArray out) }) :
    wpAny (model prog w) A (call (.builtin "sorted") [.ref l]) Q E s := by
  obtain ⟨hal, hk, hL, hd⟩ := ok
  have hL' : bs.length ≤ sizeLine := by rw [← List.length_map (f := enc)]; exact hL
  have hd' : ∀ b, b ∈ bs → A.units + 2 + (enc b).depth < cLine := fun b hb => by have := hd _ (List.mem_map.mpr ⟨b, hb, rfl⟩); omega
  rcases hk with hk | hk
  · exact sorted_data hl e er hal hk hL' hd' h
  · have er' : EachIs (fun v b => ∃ as, Reads (sortingHeap (copyHeap s.heap vs) (s.heap.objs.size + 1) vs) v (enc b) as) vs bs := er.mono fun _ _ ⟨as, r⟩ => ⟨as, PyProof.Rows.Reads.keeps (fun _ _ => sorting_copy_old) r⟩
    exact sorted_vals hl (sortsAt_empty (s := { s with heap := sortingHeap (copyHeap s.heap vs) (s.heap.objs.size + 1) vs }) (each_map (R := fun v d => ∃ as, Reads (sortingHeap (copyHeap s.heap vs) (s.heap.objs.size + 1) vs) v d as) enc er') hal hk (bound_map hd')) (by rw [e.length]; exact hL')
      (h _ (by rw [sortVals_length false rfl]; exact e.length) (sortVals_data false e er' hal))
end
end DL
namespace DL
open PySem PySem.Spec PyProof.Rows L2 Evl
open PySem.W (EachIs dataLe sortVals AllAlike Sortable)
open PySem.W (alike alikeAll dataLt)
def sortD (ds : List PyData) : List PyData := ds.mergeSort (dataLe false id)
section
variable {X : Cx} {K : PySem.W.Frag}
theorem each_zip {R : Value → V → Prop} : ∀ {xs : List V} {its : List Value} {ds : List PyData}, Vals xs its → xs.length = ds.length → (∀ v u, RelV v u → R u v) → EachIs (fun u (b : V × PyData) => R u b.1) its (xs.zip ds)
  | [], _, _, h, _, _ => by cases h; exact .nil
  | x :: xs, _, [], h, e, _ => by simp at e
  | x :: xs, _, d :: ds, h, e, f => by
    cases h with
    | cons h1 h2 => exact .cons (f _ _ h1) (each_zip h2 (by simpa using e) f)
theorem vals_each : ∀ {out : List Value} {zs : List (V × PyData)}, EachIs (fun u (b : V × PyData) => RelV b.1 u) out zs → Vals (zs.map (·.1)) out
  | _, _, .nil => .nil
  | _, _, .cons h t => .cons h (vals_each t)
theorem reads_zip {s : Shared} {pins : List (Addr × Obj)} {σ : L2.St} {H : Hp} (I : Inv X pins σ H s) : ∀ {xs : List V} {its : List Value} {ds : List PyData}, Vals xs its → DvAll X.K H xs ds → EachIs (fun u (b : V × PyData) => ∃ as, Reads s.heap u b.2 as) its (xs.zip ds)
  | [], _, _, h, d => by cases h; cases d; exact .nil
  | x :: xs, _, _, h, d => by
    cases h with
    | cons h1 h2 =>
      cases d with
      | cons d1 d2 => exact .cons (Dv.reads I _ _ _ d1 h1) (reads_zip I h2 d2)
def rSortD (K : PySem.W.Frag) : List V → Hp → VK → Prop := fun vs H Q => ∃ (a : Addr) (xs : List V) (ds : List PyData), vs = [V.ref a] ∧ SqL K H a xs ∧ DvAll K H xs ds ∧ SortOk ds ∧
  ∀ p, H p = none → Q (.ref p) (upd H p (.lst (((xs.zip ds).mergeSort (dataLe false fun b : V × PyData => b.2)).map (·.1))))
theorem zip_snd {α β : Type} : ∀ {xs : List α} {ds : List β}, xs.length = ds.length → (xs.zip ds).map (·.2) = ds
  | [], [], _ => rfl
  | x :: xs, d :: ds, h => by
    rw [List.zip_cons_cons, List.map_cons, zip_snd (by simpa using h)]
  | [], _ :: _, h => by simp at h
  | _ :: _, [], h => by simp at h
theorem cr_sortD (hu : X.A.units + 128 < cLine) : CallR X (.builtin "sorted") (rSortD X.K) := by
  intro pins s σ H vs us Q I r h
  obtain ⟨a, xs, ds, rfl, hs, hd, ok, q⟩ := h
  obtain ⟨its, rv, hl, hz⟩ := I.list hs
  rw [Vals.ref1 r]
  have hlen := hd.length
  have e := each_zip (R := fun u v => RelV v u) rv hlen (fun _ _ h => h)
  refine sorted_any (enc := fun b : V × PyData => b.2) hl.isList e (reads_zip I rv hd) (by rw [zip_snd hlen]; exact ok) hu fun out e1 e2 => ?_
  obtain ⟨ep, he'⟩ := PyProof.Rows.sortedAll_at s.heap its out.toArray
  refine ⟨.ref _, upd H (s.heap.objs.size + 1) (.lst _), I.laid (t' := s.toks) (fun _ _ => PyProof.Rows.sortedAll_old) (Nat.le_succ _) ⟨?_, out, ep, vals_each e2, he'⟩, rfl, q _ (I.hok.fresh (Nat.le_succ _))⟩
  rw [List.length_map, List.length_mergeSort, List.length_zip, hlen, Nat.min_self]
  exact ok.2.2.1
theorem dpAll_zip {H : Hp} : ∀ {xs : List V} {ds : List PyData}, DvAll K H xs ds → ∀ b ∈ xs.zip ds, Dv K H b.1 b.2
  | _, _, .nil, _, h => by cases h
  | _, _, .cons a t, b, h => by
    rcases List.mem_cons.mp h with rfl | h
    · exact a
    · exact dpAll_zip t b h
theorem dpAll_of {H : Hp} : ∀ {zs : List (V × PyData)}, (∀ b ∈ zs, Dv K H b.1 b.2) → DvAll K H (zs.map (·.1)) (zs.map (·.2))
  | [], _ => .nil
  | z :: zs, h => .cons (h z (List.mem_cons_self ..)) (dpAll_of fun b hb => h b (List.mem_cons_of_mem _ hb))
theorem dp_sort {H : Hp} {xs : List V} {ds : List PyData} (h : DvAll K H xs ds) : DvAll K H (((xs.zip ds).mergeSort (dataLe false fun b : V × PyData => b.2)).map (·.1)) (sortD ds) := by
  have e : sortD ds = ((xs.zip ds).mergeSort (dataLe false fun b : V × PyData => b.2)).map (·.2) := by
    unfold sortD
    have m := List.map_mergeSort (r := dataLe false fun b : V × PyData => b.2) (s := dataLe false id) (f := fun b : V × PyData => b.2) (l := xs.zip ds) (fun a _ b _ => rfl)
    rw [m, zip_snd h.length]
  rw [e]
  exact dpAll_of fun b hb => dpAll_zip h b (List.mem_mergeSort.mp hb)
def fSorted : DRA := arg1 fun d x μ Q => match d with
  | .list ds => SortOk ds ∧ Q (mk (isV x) (.list (sortD ds))) μ
  | _ => False
def fSortedC : DRA := arg1 fun d x μ Q => match d with
  | .list ds => (isV x = false ∧ SortOk ds) ∧ Q (.cell μ.length) (μ ++ [.lst (sortD ds)])
  | _ => False
variable {e : Expr} {es : List Expr} {p pos : Pos} {k : Nat}
theorem pd_sorted (hr : RoomG k X.A) {a : DA} (ha : PDA X (e :: es) a) (hm : X.mg "sorted" = none) (hg : Gl X "sorted" := by rfl)
    (he : starEach (e :: es) X.env = (false, eval e X.env) :: starEach es X.env := by rfl) (hpl : (backTo pos (starEach es X.env)).any (·.1) = false := by rfl) : PD X (.Call (.Name "sorted" p) (e :: es) [] pos) (dCB fSorted a) := by
  refine pd_cb (cr_sortD hr.u128) (fun xs μ Q' h W H vs r hs Q q => ?_) (by decide +kernel) ha hm hg (by decide) (by decide) he hpl
  obtain ⟨x, d, rfl, e1, h⟩ := arg1_of h
  obtain ⟨v, rfl, hx⟩ := slAll1 hs
  cases d with
  | list ds =>
    obtain ⟨a, ys, rfl, hl, hi⟩ := rd_lst r hx e1
    have hH : DvAll X.K H ys ds := by
      cases h' : isV x with
      | true => unfold Its at hi; rw [h'] at hi; exact DvAll.mono hi r.fh
      | false => unfold Its at hi; rw [h'] at hi; exact DvAll.mono hi r.gh
    exact ⟨a, ys, ds, rfl, hl, hH, h.1, q.newL r (dp_sort hi) h.2⟩
  | _ => exact False.elim h
def OrdOk (d e : PyData) : Prop := alike d e = true ∧ d ≠ .none ∧ d.depth ≤ 64
def rOrdD (K : PySem.W.Frag) (f : PyData → PyData → Bool) : R2 := fun x y H Q => ∃ d e, Dv K H x d ∧ Dv K H y e ∧ OrdOk d e ∧ Q (.bl (f d e)) H
def ltB (d e : PyData) : Bool := dataLt d e
def gtB (d e : PyData) : Bool := dataLt e d
def leB (d e : PyData) : Bool := !dataLt e d
def geB (d e : PyData) : Bool := !dataLt d e
theorem min_room {A : Around} {d e : PyData} (hu : A.units + 128 < cLine) (h : d.depth ≤ 64) : A.units + min d.depth e.depth < cLine := by
  have := Nat.min_le_left d.depth e.depth
  omega
theorem op_ltD (hu : X.A.units + 128 < cLine) : OpR X (compareOp .Lt) (rOrdD X.K ltB) := by
  intro pins s σ H x y v u Q I rx ry h
  obtain ⟨d, e, hd, he, ⟨h1, h2, h3⟩, q⟩ := h
  obtain ⟨as, r1⟩ := Dv.reads I d x v hd rx
  obtain ⟨bs, r2⟩ := Dv.reads I e y u he ry
  exact PySem.W.lt_data r1 r2 h1 h2 (min_room hu h3) ⟨.bl _, H, I, rfl, q⟩
theorem op_gtD (hu : X.A.units + 128 < cLine) : OpR X (compareOp .Gt) (rOrdD X.K gtB) := by
  intro pins s σ H x y v u Q I rx ry h
  obtain ⟨d, e, hd, he, ⟨h1, h2, h3⟩, q⟩ := h
  obtain ⟨as, r1⟩ := Dv.reads I d x v hd rx
  obtain ⟨bs, r2⟩ := Dv.reads I e y u he ry
  exact PySem.W.gt_data r1 r2 h1 h2 (min_room hu h3) ⟨.bl _, H, I, rfl, q⟩
theorem op_leD (hu : X.A.units + 128 < cLine) : OpR X (compareOp .LtE) (rOrdD X.K leB) := by
  intro pins s σ H x y v u Q I rx ry h
  obtain ⟨d, e, hd, he, ⟨h1, h2, h3⟩, q⟩ := h
  obtain ⟨as, r1⟩ := Dv.reads I d x v hd rx
  obtain ⟨bs, r2⟩ := Dv.reads I e y u he ry
  exact PySem.W.le_data r1 r2 h1 h2 (min_room hu h3) ⟨.bl _, H, I, rfl, q⟩
theorem op_geD (hu : X.A.units + 128 < cLine) : OpR X (compareOp .GtE) (rOrdD X.K geB) := by
  intro pins s σ H x y v u Q I rx ry h
  obtain ⟨d, e, hd, he, ⟨h1, h2, h3⟩, q⟩ := h
  obtain ⟨as, r1⟩ := Dv.reads I d x v hd rx
  obtain ⟨bs, r2⟩ := Dv.reads I e y u he ry
  exact PySem.W.ge_data r1 r2 h1 h2 (min_room hu h3) ⟨.bl _, H, I, rfl, q⟩
def ordW (f : Int → Int → Bool) (g : Str → Str → Bool) (k : PyData → PyData → Bool) : DR2 := fun x y μ Q => match rd μ x, rd μ y with
  | some (.int i), some (.int j) => Q (.dat (.bool (f i j))) μ
  | some (.str i), some (.str j) => Q (.dat (.bool (g i j))) μ
  | some d, some e => OrdOk d e ∧ Q (.dat (.bool (k d e))) μ
  | _, _ => False
abbrev rOrdW (K : PySem.W.Frag) (f : Int → Int → Bool) (g : Str → Str → Bool) (k : PyData → PyData → Bool) : R2 := fun x y H Q => (rI0 (fun i j => .bl (f i j)) x y H Q ∨ ∃ i j, x = .str i ∧ y = .str j ∧ Q (.bl (g i j)) H) ∨ rOrdD K k x y H Q
theorem lr_ordW {f : Int → Int → Bool} {g : Str → Str → Bool} {k : PyData → PyData → Bool} : LR2 K (rOrdW K f g k) (ordW f g k) := fun x y μ Q' h W H vx vy r hx hy Q q => by
  unfold ordW at h
  split at h
  · rename_i i j e1 e2
    cases rd_int r hx e1
    cases rd_int r hy e2
    exact .inl (.inl ⟨i, j, rfl, rfl, q.bl r h⟩)
  · rename_i i j e1 e2
    cases rd_str r hx e1
    cases rd_str r hy e2
    exact .inl (.inr ⟨i, j, rfl, rfl, q.bl r h⟩)
  · rename_i d e _ _ e1 e2
    exact .inr ⟨d, e, rd_dp r hx e1, rd_dp r hy e2, h.1, q.bl r h.2⟩
  · exact h.elim
def wLt : DR2 := ordW (fun i j => decide (i < j)) ltS ltB
def wLe : DR2 := ordW (fun i j => decide (i ≤ j)) (fun i j => !ltS j i) leB
def wGt : DR2 := ordW (fun i j => decide (j < i)) (fun i j => ltS j i) gtB
def wGe : DR2 := ordW (fun i j => decide (j ≤ i)) (fun i j => !ltS i j) geB
theorem op_ltW (hu : X.A.units + 128 < cLine) : OpR X (compareOp .Lt) (rOrdW X.K (fun i j => decide (i < j)) ltS ltB) := op_ltV.or (op_ltD hu)
theorem op_leW (hu : X.A.units + 128 < cLine) : OpR X (compareOp .LtE) (rOrdW X.K (fun i j => decide (i ≤ j)) (fun i j => !ltS j i) leB) := op_leV.or (op_leD hu)
theorem op_gtW (hu : X.A.units + 128 < cLine) : OpR X (compareOp .Gt) (rOrdW X.K (fun i j => decide (j < i)) (fun i j => ltS j i) gtB) := op_gtV.or (op_gtD hu)
theorem op_geW (hu : X.A.units + 128 < cLine) : OpR X (compareOp .GtE) (rOrdW X.K (fun i j => decide (j ≤ i)) (fun i j => !ltS i j) geB) := op_geV.or (op_geD hu)
def rInT (K : PySem.W.Frag) (f : Bool → Bool) : R2 := fun x y H Q => ∃ d ds, Dv K H x d ∧ Dv K H y (.tuple ds) ∧ SeqAt.shaped d = true ∧ SeqAt.shaped (.tuple ds) = true ∧ Q (.bl (f (ds.any fun z => PyData.eqv z d))) H
end
end DL
namespace DL
open PySem PySem.Spec PyProof.Rows L2 Evl
section
variable {κ : Type} [DecidableEq κ]
def valD (es : List (κ × PyData)) (k : κ) : Option PyData := (es.find? fun e => decide (e.1 = k)).map (·.2)
def putD (es : List (κ × PyData)) (k : κ) (d : PyData) : List (κ × PyData) :=
  if (es.any fun e => decide (e.1 = k)) = true then es.map (fun e => if e.1 = k then (e.1, d) else e) else es ++ [(k, d)]
variable {K : PySem.W.Frag} {H : Hp}
abbrev Tb (K : PySem.W.Frag) (H : Hp) : List (κ × V) → List (κ × PyData) → Prop := Paired fun p q => p.1 = q.1 ∧ Dv K H p.2 q.2
theorem tb_val (k : κ) : ∀ {kvs : List (κ × V)} {es : List (κ × PyData)}, Tb K H kvs es → (valV kvs k = none ∧ valD es k = none) ∨ ∃ v d, valV kvs k = some v ∧ valD es k = some d ∧ Dv K H v d
  | _, _, .nil => .inl ⟨rfl, rfl⟩
  | p :: kvs, q :: es, .cons h t => by
    by_cases e : p.1 = k
    · have e' : q.1 = k := h.1.symm.trans e
      exact .inr ⟨p.2, q.2, by simp [valV, List.find?_cons, e], by simp [valD, List.find?_cons, e'], h.2⟩
    · have e' : ¬ q.1 = k := fun z => e (h.1.trans z)
      have a : valV (p :: kvs) k = valV kvs k := by simp [valV, List.find?_cons, e]
      have b : valD (q :: es) k = valD es k := by simp [valD, List.find?_cons, e']
      rw [a, b]
      exact tb_val k t
theorem tb_any (k : κ) : ∀ {kvs : List (κ × V)} {es : List (κ × PyData)}, Tb K H kvs es → (kvs.any fun kv => decide (kv.1 = k)) = es.any fun e => decide (e.1 = k)
  | _, _, .nil => rfl
  | p :: kvs, q :: es, .cons h t => by rw [List.any_cons, List.any_cons, tb_any k t, h.1]
theorem tb_repl {k : κ} {v : V} {d : PyData} (hv : Dv K H v d) : ∀ {kvs : List (κ × V)} {es : List (κ × PyData)}, Tb K H kvs es → Tb K H (kvs.map fun kv => if kv.1 = k then (kv.1, v) else kv) (es.map fun e => if e.1 = k then (e.1, d) else e)
  | _, _, .nil => .nil
  | p :: kvs, q :: es, .cons h t => by
    rw [List.map_cons, List.map_cons]
    refine .cons ?_ (tb_repl hv t)
    by_cases e : p.1 = k
    · rw [if_pos e, if_pos (h.1.symm.trans e)]; exact ⟨h.1, hv⟩
    · rw [if_neg e, if_neg (fun z => e (h.1.trans z))]; exact h
theorem tb_snoc {p : κ × V} {q : κ × PyData} (hq : p.1 = q.1 ∧ Dv K H p.2 q.2) : ∀ {kvs : List (κ × V)} {es : List (κ × PyData)}, Tb K H kvs es → Tb K H (kvs ++ [p]) (es ++ [q])
  | _, _, .nil => .cons hq .nil
  | _, _, .cons h t => .cons h (tb_snoc hq t)
theorem tb_put {k : κ} {v : V} {d : PyData} (hv : Dv K H v d) {kvs : List (κ × V)} {es : List (κ × PyData)} (h : Tb K H kvs es) : Tb K H (putK kvs k v) (putD es k d) := by
  unfold putK putD
  rw [tb_any k h]
  split
  · exact tb_repl hv h
  · exact tb_snoc ⟨rfl, hv⟩ h
theorem tb_len : ∀ {kvs : List (κ × V)} {es : List (κ × PyData)}, Tb K H kvs es → kvs.length = es.length
  | _, _, .nil => rfl
  | _, _, .cons _ t => congrArg Nat.succ (tb_len t)
theorem tb_keys : ∀ {kvs : List (κ × V)} {es : List (κ × PyData)}, Tb K H kvs es → kvs.map (·.1) = es.map (·.1)
  | _, _, .nil => rfl
  | _, _, .cons h t => by rw [List.map_cons, List.map_cons, h.1, tb_keys t]
end
def keyA : PyData → Option Key
  | .int i => some (.inl i)
  | .str z => some (.inr z)
  | _ => none
def keysA : List PyData → Option (List Key)
  | [] => some []
  | d :: ds => match keyA d, keysA ds with
    | some k, some ks => some (k :: ks)
    | _, _ => none
def kD : Key → PyData
  | .inl i => .int i
  | .inr z => .str z
theorem keyA_eq {d : PyData} {k : Key} (h : keyA d = some k) : d = kD k := by
  cases d <;> cases h <;> rfl
theorem keysA_eq : ∀ {ds : List PyData} {ks : List Key}, keysA ds = some ks → ds = ks.map kD
  | [], _, h => by cases h; rfl
  | d :: ds, _, h => by
    unfold keysA at h
    split at h
    · rename_i k ks e1 e2
      cases h
      rw [keyA_eq e1, keysA_eq e2]
      rfl
    · cases h
section
variable {K : PySem.W.Frag} {H : Hp}
theorem dp_key {v : V} {k : Key} (h : Dv K H v (kD k)) : v = kV k := by
  cases k <;> cases h <;> rfl
theorem key_dp {k : Key} : Dv K H (kV k) (kD k) := by
  cases k
  · exact .int _
  · exact .str _
theorem dp_keys : ∀ {ks : List Key} {vs : List V}, DvAll K H vs (ks.map kD) → vs = ks.map kV
  | [], _, h => by cases h; rfl
  | k :: ks, _, h => by
    cases h with
    | cons a t => rw [dp_key a, dp_keys t]; rfl
theorem keys_dp : ∀ {ks : List Key}, DvAll K H (ks.map kV) (ks.map kD)
  | [] => .nil
  | k :: ks => .cons key_dp keys_dp
end
section
variable {X : Cx}
theorem key_sq {pins : List (Addr × Obj)} {σ : L2.St} {H : Hp} {s : Shared} {b : Addr} {ks : List Key} (I : Inv X pins σ H s) (h : SqT X.K H b (ks.map kV)) : (tupleKind (mixKind X.prog X.w)).is s.heap ks b := by
  obtain ⟨its, r, ⟨o, h1, h2, n, h3⟩, hz⟩ := I.tuple h
  exact ⟨o, its.toArray, n, h1, h2, h3, by simpa using items_are r⟩
def rDGet (K : PySem.W.Frag) (f : Option V → Hp → VK → Prop) : R2 := fun x y H Q => ∃ a, x = .ref a ∧ ((∃ kvs k, H a = some (.dK kvs) ∧ y = kV k ∧ f (valV kvs k) H Q) ∨ ∃ kvs ks b, H a = some (.dT kvs) ∧ y = .ref b ∧ SqT K H b (ks.map kV) ∧ f (valV kvs ks) H Q)
def there (o : Option V) (H : Hp) (Q : VK) : Prop := ∃ v, o = some v ∧ Q v H
def isin (f : Bool → Bool) (o : Option V) (H : Hp) (Q : VK) : Prop := Q (.bl (f o.isSome)) H
section
variable {pins : List (Addr × Obj)} {σ : L2.St} {H : Hp} {s : Shared} {a : Addr} {y : V} {u : Value} {E : Value → Shared → Prop} {A : Around}
theorem get_item {Q : VK} {Q2 : Value → Shared → Prop} (hu : A.units + 1 < cLine) (I : Inv X pins σ H s) (g : rDGet X.K there (.ref a) y H Q) (ry : RelV y u) (h : ∀ v w' s', Q v H → Inv X pins σ H s' → RelV v w' → Q2 w' s') :
    s.TypeIs (.ref a) "dict" ∧ wpAny (model X.prog X.w) A (getItem (.ref a) u) Q2 E s := by
  obtain ⟨a', ea, g⟩ := g
  cases ea
  rcases g with ⟨kvs, k, e, rfl, v, l, q⟩ | ⟨kvs, ks, b, e, rfl, eb, v, l, q⟩
  · obtain ⟨z, hd, vs, rel, dd⟩ := dk_of I.hok e
    obtain ⟨w', hw, rw'⟩ := RelO.some_of (v := v) (o := valueAt vs k) (by rw [← l]; exact rel.val k)
    exact ⟨dd.typeIs, wpAny_getItem_of (kV_is ry) dd.mapOf hw (h v w' _ q (I.tok _) rw')⟩
  · cases (show u = Value.ref b from ry)
    obtain ⟨z, hd, xs, rel, dd⟩ := dt_of I.hok e
    obtain ⟨w', hw, rw'⟩ := RelO.some_of (v := v) (o := (atKey xs ks).map (·.2)) (by rw [← l]; exact rel.val ks)
    obtain ⟨p, hp, hp2⟩ := Option.map_eq_some_iff.mp hw
    refine ⟨dd.typeIs, wpAny_getItem_heap (tupleKind_room_in1 hu) (key_sq I eb) dd hp ?_⟩
    rw [hp2]
    exact h v w' _ q (I.tok _) rw'
theorem op_inDict (hu : X.A.units + 1 < cLine) : OpR X (compareOp .In) (fun x y H Q => rDGet X.K (isin id) y x H Q) := by
  intro pins s σ H x y v u Q I rx ry g
  obtain ⟨a, rfl, g⟩ := g
  cases ry
  rcases g with ⟨kvs, k, e, rfl, q⟩ | ⟨kvs, ks, b, e, rfl, eb, q⟩
  · obtain ⟨z, hd, vs, rel, dd⟩ := dk_of I.hok e
    refine wpAny_in_of (kV_is rx) hd dd.mapOf ?_
    rw [← (rel.val k).isSome_eq]
    exact ⟨.bl _, H, I.tok _, rfl, q⟩
  · cases (show v = Value.ref b from rx)
    obtain ⟨z, hd, xs, rel, dd⟩ := dt_of I.hok e
    refine wpAny_in_heap (tupleKind_room_in1 hu) (key_sq I eb) hd dd ?_
    have q' := (rel.val ks).isSome_eq
    rw [Option.isSome_map] at q'
    rw [← q']
    exact ⟨.bl _, H, I.tok _, rfl, q⟩
theorem op_notInDict (hu : X.A.units + 1 < cLine) : OpR X (compareOp .NotIn) (fun x y H Q => rDGet X.K (isin not) y x H Q) := by
  intro pins s σ H x y v u Q I rx ry g
  obtain ⟨a, rfl, g⟩ := g
  cases ry
  rcases g with ⟨kvs, k, e, rfl, q⟩ | ⟨kvs, ks, b, e, rfl, eb, q⟩
  · obtain ⟨z, hd, vs, rel, dd⟩ := dk_of I.hok e
    refine wpAny_notIn_of (kV_is rx) hd dd.mapOf ?_
    rw [← (rel.val k).isSome_eq]
    exact ⟨.bl _, H, I.tok _, rfl, q⟩
  · cases (show v = Value.ref b from rx)
    obtain ⟨z, hd, xs, rel, dd⟩ := dt_of I.hok e
    refine wpAny_notIn_heap (tupleKind_room_in1 hu) (key_sq I eb) hd dd ?_
    have q' := (rel.val ks).isSome_eq
    rw [Option.isSome_map] at q'
    rw [← q']
    exact ⟨.bl _, H, I.tok _, rfl, q⟩
end
def dictAt (f : Option PyData → Mu → DQ → Prop) (x y : Sl) (μ : Mu) (Q : DQ) : Prop := match x with
  | .cell k => match μ[k]? with
    | some (.dct es) => ∃ d key, rd μ y = some d ∧ keyA d = some key ∧ f (valD es key) μ Q
    | some (.dctT es) => ∃ ds ks, rd μ y = some (.tuple ds) ∧ keysA ds = some ks ∧ f (valD es ks) μ Q
    | _ => False
  | _ => False
variable {K : PySem.W.Frag}
theorem dictAt_ok {W : Wd} {H : Hp} {μ : Mu} {x y : Sl} {vx vy : V} {f : Option PyData → Mu → DQ → Prop} {g : Option V → Hp → VK → Prop} {Q' : DQ} {Q : VK} (r : Rep K W H μ) (hx : SlOk K W vx x) (hy : SlOk K W vy y) (h : dictAt f x y μ Q')
    (hf : ∀ (o : Option V) (p : Option PyData), ((o = none ∧ p = none) ∨ ∃ v d, o = some v ∧ p = some d ∧ Dv K W.G v d) → f p μ Q' → g o H Q) : rDGet K g vx vy H Q := by
  unfold dictAt at h
  split at h
  · rename_i k
    obtain ⟨a, ha, rfl⟩ := hx
    split at h
    · rename_i es e1
      obtain ⟨_, o, ho, hc⟩ := r.cell k a _ ha e1
      cases o <;> first | exact False.elim hc | skip
      rename_i kvs
      obtain ⟨d, key, e2, e3, h⟩ := h
      cases keyA_eq e3
      have := dp_key (rd_dp r hy e2)
      subst this
      exact ⟨a, rfl, .inl ⟨kvs, key, ho, rfl, hf _ _ (tb_val key hc) h⟩⟩
    · rename_i es e1
      obtain ⟨_, o, ho, hc⟩ := r.cell k a _ ha e1
      cases o <;> first | exact False.elim hc | skip
      rename_i kvs
      obtain ⟨ds, ks, e2, e3, h⟩ := h
      cases keysA_eq e3
      obtain ⟨b, xs, rfl, hb, hi⟩ := rd_tup r hy e2
      have hH : DvAll K H xs (ks.map kD) := by
        unfold Its at hi
        cases q : isV y with
        | true => rw [q] at hi; exact DvAll.mono hi r.fh
        | false => rw [q] at hi; exact DvAll.mono hi r.gh
      rw [dp_keys hH] at hb
      exact ⟨a, rfl, .inr ⟨kvs, ks, b, ho, rfl, hb, hf _ _ (tb_val ks hc) h⟩⟩
    · exact h.elim
  · exact h.elim
def thereD (o : Option PyData) (μ : Mu) (Q : DQ) : Prop := match o with
  | some d => Q (.dat d) μ
  | none => False
def isinD (f : Bool → Bool) (o : Option PyData) (μ : Mu) (Q : DQ) : Prop := Q (.dat (.bool (f o.isSome))) μ
def rDIx : DR2 := dictAt thereD
theorem lr_dix : LR2 K (rDGet K there) rDIx := fun x y μ Q' h W H vx vy r hx hy Q q => dictAt_ok r hx hy h fun o p hop hp => by
  rcases hop with ⟨_, rfl⟩ | ⟨v, d, rfl, rfl, hd⟩
  · exact hp.elim
  · exact ⟨v, rfl, q.dat r hd hp⟩
def tDGetS (K : PySem.W.Frag) (td ty : TE) : TE := tOp (rDGet K there) td ty
variable {o i e value : Expr} {pos pos' tpos : Pos} {td ty tv : TE} {k : Nat}
theorem pe_dgetS (hu : X.A.units + 1 < cLine) (ho : PE X o td) (hi : PE X i ty) (hs : NoSl i) : PE X (.Subscript o i pos) (tOp (rDGet X.K there) td ty) := by
  refine ⟨fun pins s σ H Q I h => ?_⟩
  refine subD_of PySem.F.slot_dict_getitem.lookup hs (thn (ho.run pins s σ H _ I h) fun u s1 ⟨x, H1, I1, rx, q1⟩ => thn (hi.run pins s1 σ H1 _ I1 q1) fun iv s2 ⟨y, H2, I2, ry, q2⟩ => ?_)
  obtain ⟨a, rfl, g⟩ := q2
  obtain rfl : u = Value.ref a := rx
  exact get_item hu I2 ⟨a, rfl, g⟩ ry fun v w' s' q I3 rw' => ⟨v, H2, I3, rw', q⟩
theorem pd_dix (hr : RoomG k X.A) {od id : DE} (ho : PD X o od) (hi : PD X i id) (hs : NoSl i := by exact fun _ _ => rfl) : PD X (.Subscript o i pos) (dOp rDIx od id) := by
  obtain ⟨t1, p1, l1⟩ := ho
  obtain ⟨t2, p2, l2⟩ := hi
  exact ⟨_, pe_dgetS (by have := hr.u64; omega) p1 p2 hs, le_op lr_dix l1 l2⟩
theorem VOk.newDct {W : Wd} {H : Hp} {μ : Mu} {Q' : DQ} {Q : VK} (h : VOk K W Q' Q) (r : Rep K W H μ) {ob : HO} {c : Cell} (hc : CellOk K W.G ob c) (q : Q' (.cell μ.length) (μ ++ [c])) (p : Addr) (hp : H p = none) : Q (.ref p) (upd H p ob) := by
  refine h _ (.cell μ.length) (W.cellNew p) _ (μ ++ [c]) (Le.cellNew W p) (r.cellNew hp hc) ⟨p, ?_, rfl⟩ q
  show (W.ad ++ [p])[μ.length]? = some p
  rw [List.getElem?_append_right (by rw [r.len]; exact Nat.le_refl _), r.len, Nat.sub_self]
  rfl
def dDct : DE := fun _ μ Q => Q (.cell μ.length) (μ ++ [.dct []])
def dDctT : DE := fun _ μ Q => Q (.cell μ.length) (μ ++ [.dctT []])
theorem pd_dctT : PD X (.Dict [] [] pos) dDctT := ⟨_, pe_dnewT, fun ρ μ Q' h W σ H he r Q q => q.newDct r (show CellOk X.K W.G (.dT []) (.dctT []) from .nil) h⟩
def dDct1 (kd vd : DE) : DE := fun ρ μ Q => kd ρ (μ ++ [.dct []]) fun y μ1 => vd ρ μ1 fun v μ2 => match v with
  | .dat d => ∃ z key, rd μ2 y = some z ∧ keyA z = some key ∧ μ2[μ.length]? = some (.dct []) ∧ Q (.cell μ.length) (μ2.set μ.length (.dct [(key, d)]))
  | _ => False
theorem pd_dct1 {ke ve : Expr} {kd vd : DE} (hk : PD X ke kd) (hv : PD X ve vd) : PD X (.Dict [some ke] [ve] pos) (dDct1 kd vd) := by
  obtain ⟨t1, p1, l1⟩ := hk
  obtain ⟨t2, p2, l2⟩ := hv
  refine ⟨_, pe_disp (pps_cons p1 p2 pps_nil) (by rfl) (by rfl) (fun z => by cases z) (by simp), fun ρ μ Q' h W σ H he r Q q p hp => ?_⟩
  have r0 := r.cellNew (o := .dK []) (c := .dct []) hp (show CellOk X.K W.G (.dK []) (.dct []) from .nil)
  have l0 := Le.cellNew W p
  have hp0 : (W.cellNew p).ad[μ.length]? = some p := by
    show (W.ad ++ [p])[μ.length]? = some p
    rw [List.getElem?_append_right (by rw [r.len]; exact Nat.le_refl _), r.len, Nat.sub_self]
    rfl
  replace h : kd ρ (μ ++ [Cell.dct []]) (fun y μ1 => vd ρ μ1 fun v μ2 => match v with
    | .dat d => ∃ z key, rd μ2 y = some z ∧ keyA z = some key ∧ μ2[μ.length]? = some (.dct []) ∧ Q' (.cell μ.length) (μ2.set μ.length (.dct [(key, d)]))
    | _ => False) := h
  refine l1 ρ (μ ++ [Cell.dct []]) _ h (W.cellNew p) σ _ (he.mono l0) r0 _ fun vy y W1 H1 μ1 le1 r1 hy h1 => l2 ρ μ1 _ h1 W1 σ H1 (he.mono (l0.trans le1)) r1 _ fun vv v W2 H2 μ2 le2 r2 hv h2 => ?_
  cases v with
  | dat d =>
    obtain ⟨z, key, e1, e2, e3, h2⟩ := h2
    cases keyA_eq e2
    have ey := dp_key (rd_dp r2 (hy.mono le2) e1)
    subst ey
    have hp2 := le2.a _ _ (le1.a _ _ hp0)
    obtain ⟨_, ob, ho, hc⟩ := r2.cell _ p _ hp2 e3
    cases ob <;> first | exact False.elim hc | skip
    rename_i kvs0
    have e0 : kvs0 = [] := by
      have hc' : Tb X.K W2.G kvs0 [] := hc
      generalize ([] : List (Key × PyData)) = z at hc'
      cases hc' with
      | nil => rfl
      | cons _ _ => have hc'' : Tb X.K W2.G _ [] := hc; cases hc''
    subst e0
    refine ⟨ho, [(key, vv)], rfl, by simp, ?_⟩
    have e4 : mergeK [] [(key, vv)] = [(key, vv)] := rfl
    rw [e4]
    exact q _ (.cell μ.length) W2 _ _ ((l0.trans le1).trans le2) (r2.write hp2 (show CellOk X.K W2.G (.dK [(key, vv)]) (.dct [(key, d)]) from .cons ⟨rfl, hv⟩ .nil)) ⟨p, hp2, rfl⟩ h2
  | _ => exact False.elim h2
end
end DL
namespace DL
open PySem PySem.Spec PyProof.Rows L2 Evl
open PySem.W (alike alikeAll dataLt)
section
variable {X : Cx} {K : PySem.W.Frag} {o i e value : Expr} {pos pos' tpos : Pos} {td ty tv : TE} {k : Nat}
def putK1 (x y v : Sl) (μ : Mu) (Q : Mu → Prop) : Prop := match x, v with
  | .cell k, .dat d => match μ[k]? with
    | some (.dct es) => ∃ z key, rd μ y = some z ∧ keyA z = some key ∧ es.length < sizeLine ∧ Q (μ.set k (.dct (putD es key d)))
    | _ => False
  | _, _ => False
def dDPut (od id vd : DE) : DS := fun D ρ μ => vd ρ μ fun v μ1 => od ρ μ1 fun x μ2 => id ρ μ2 fun y μ3 => putK1 x y v μ3 (D.nx ρ)
theorem pd_dput {od id vd : DE} (hr : RoomG k X.A) (ho : PD X o od) (hi : PD X i id) (hv : PD X value vd) (hs : swapsWith value (some (.Subscript o i pos')) pos.line X.env = pure false := by rfl) : PDS X (.Assign [.Subscript o i pos'] value pos) (dDPut od id vd) := by
  obtain ⟨t1, p1, l1⟩ := ho
  obtain ⟨t2, p2, l2⟩ := hi
  obtain ⟨t3, p3, l3⟩ := hv
  refine ⟨_, ps_dput (by have := hr.u64; omega) p1 p2 p3 hs, fun D' ρ μ h W σ H he r D hd => l3 ρ μ _ h W σ H he r _ fun vv v W1 H1 μ1 le1 r1 hvv h1 => l1 ρ μ1 _ h1 W1 σ H1 (he.mono le1) r1 _ fun vx x W2 H2 μ2 le2 r2 hx h2 => l2 ρ μ2 _ h2 W2 σ H2 (he.mono (le1.trans le2)) r2 _ fun vy y W3 H3 μ3 le3 r3 hy h3 => ?_⟩
  replace h3 : putK1 x y v μ3 (D'.nx ρ) := h3
  unfold putK1 at h3
  split at h3
  · rename_i k d
    split at h3
    · rename_i es e1
      obtain ⟨z, key, e2, e3, hl, h3⟩ := h3
      cases keyA_eq e3
      obtain ⟨a, ha, rfl⟩ := hx.mono le3
      obtain ⟨_, ob, hob, hc⟩ := r3.cell k a _ ha e1
      cases ob <;> first | exact False.elim hc | skip
      rename_i kvs
      replace hc : Tb X.K W3.G kvs es := hc
      cases dp_key (rd_dp r3 hy e2)
      have hv3 : Dv X.K W3.G vv d := (hvv.mono (le2.trans le3))
      refine ⟨a, _, rfl, DPut.k hob (by rw [tb_len hc]; exact hl), ?_⟩
      exact hd.nx σ ρ W3 _ _ ((le1.trans le2).trans le3) (r3.write ha (show CellOk X.K W3.G (.dK (putK kvs key vv)) (.dct (putD es key d)) from tb_put hv3 hc)) (he.mono ((le1.trans le2).trans le3)) h3
    · exact h3.elim
  · exact h3.elim
def putKT (x v : Sl) (ss : List Sl) (μ : Mu) (Q : Mu → Prop) : Prop := match x, v with
  | .cell k, .dat d => match μ[k]?, datsOf ss with
    | some (.dctT es), some (false, ds) => ∃ ks, keysA ds = some ks ∧ ds.length ≤ sizeLine ∧ es.length < sizeLine ∧ Q (μ.set k (.dctT (putD es ks d)))
    | _, _ => False
  | _, _ => False
def dDPutT (od : DE) (ad : DA) (vd : DE) : DS := fun D ρ μ => vd ρ μ fun v μ1 => od ρ μ1 fun x μ2 => ad ρ μ2 fun ss μ3 => putKT x v ss μ3 (D.nx ρ)
theorem pd_dputT {es' : List Expr} {x1} {od vd : DE} {ad : DA} (hr : RoomG k X.A) (ho : PD X o od) (hi : PDA X es' ad) (hv : PD X value vd) (hs : swapsWith value (some (.Subscript o (.Tuple es' x1 tpos) pos')) pos.line X.env = pure false := by rfl) :
    PDS X (.Assign [.Subscript o (.Tuple es' x1 tpos) pos'] value pos) (dDPutT od ad vd) := by
  obtain ⟨t1, p1, l1⟩ := ho
  obtain ⟨t2, p2, l2⟩ := hi
  obtain ⟨t3, p3, l3⟩ := hv
  refine ⟨_, ps_dput (by have := hr.u64; omega) p1 (pe_tup p2) p3 hs, fun D' ρ μ h W σ H he r D hd => l3 ρ μ _ h W σ H he r _ fun vv v W1 H1 μ1 le1 r1 hvv h1 => l1 ρ μ1 _ h1 W1 σ H1 (he.mono le1) r1 _ fun vx x W2 H2 μ2 le2 r2 hx h2 => l2 ρ μ2 _ h2 W2 σ H2 (he.mono (le1.trans le2)) r2 _ fun vs ss W3 H3 μ3 le3 r3 hss h3 => ?_⟩
  replace h3 : putKT x v ss μ3 (D'.nx ρ) := h3
  unfold putKT at h3
  split at h3
  · rename_i k d
    split at h3
    · rename_i es ds e1 e2
      obtain ⟨ks, e3, hl1, hl, h3⟩ := h3
      have hx' := datsOf_ok r3.gf hss e2
      cases keysA_eq e3
      replace hx' : DvAll X.K W3.G vs (ks.map kD) := hx'
      have hvs := dp_keys hx'
      refine ⟨by rw [hx'.length]; exact hl1, fun p hp => ?_⟩
      have r4 := r3.new (o := .tup vs) hp
      have l4 := Le.new (o := .tup vs) r3 hp
      obtain ⟨a, ha, rfl⟩ := hx.mono le3
      obtain ⟨_, ob, hob, hc⟩ := r4.cell k a _ ha e1
      cases ob <;> first | exact False.elim hc | skip
      rename_i kvs
      replace hc : Tb X.K (W3.new p (.tup vs)).G kvs es := hc
      have hv3 : Dv X.K (W3.new p (.tup vs)).G vv d := ((hvv.mono (le2.trans le3)).mono l4)
      refine ⟨a, _, rfl, DPut.t (b := p) hob (by rw [upd_same, hvs]) (by rw [tb_len hc]; exact hl), ?_⟩
      exact hd.nx σ ρ (W3.new p (.tup vs)) _ _ (((le1.trans le2).trans le3).trans l4) (r4.write ha (show CellOk X.K (W3.new p (.tup vs)).G (.dT (putK kvs ks vv)) (.dctT (putD es ks d)) from tb_put hv3 hc)) (he.mono (((le1.trans le2).trans le3).trans l4)) h3
    · exact h3.elim
  · exact h3.elim
def rInTup (K : PySem.W.Frag) (f : Bool → Bool) : R2 := fun x y H Q => ∃ d ds, Dv K H x d ∧ Dv K H y (.tuple ds) ∧ SeqAt.shaped d = true ∧ SeqAt.shaped (.tuple ds) = true ∧ Q (.bl (f (ds.any fun z => PyData.eqv z d))) H
theorem op_inTup (hu : X.A.units + 128 < cLine) : OpR X (compareOp .In) (rInTup X.K id) := by
  intro pins s σ H x y v u Q I rx ry h
  obtain ⟨d, ds, hd, he, sd, se, q⟩ := h
  obtain ⟨as, r1⟩ := Dv.reads I d x v hd rx
  obtain ⟨bs, r2⟩ := Dv.reads I (.tuple ds) y u he ry
  exact SeqAt.in_tuple_reads r2 r1 (by have := SeqAt.canLay_of_shaped se; simpa [PyData.canLay0] using this) (SeqAt.canLay_of_shaped sd) (room_in_shaped sd (by omega)) ⟨.bl _, H, I, rfl, q⟩
theorem op_notInTup (hu : X.A.units + 128 < cLine) : OpR X (compareOp .NotIn) (rInTup X.K not) := by
  intro pins s σ H x y v u Q I rx ry h
  obtain ⟨d, ds, hd, he, sd, se, q⟩ := h
  obtain ⟨as, r1⟩ := Dv.reads I d x v hd rx
  obtain ⟨bs, r2⟩ := Dv.reads I (.tuple ds) y u he ry
  exact SeqAt.notIn_tuple_reads r2 r1 (by have := SeqAt.canLay_of_shaped se; simpa [PyData.canLay0] using this) (SeqAt.canLay_of_shaped sd) (room_in_shaped sd (by omega)) ⟨.bl _, H, I, rfl, q⟩
def rInSign (f : Bool → Bool) : R2 := fun x y H Q => ∃ (c : Nat) (z : Str), x = .str ⟨#[c]⟩ ∧ y = .str z ∧ Q (.bl (f (decide (c ∈ z.cps.toList)))) H
def rInAll (K : PySem.W.Frag) (f : Bool → Bool) : R2 := fun x y H Q => (∃ d ds, L2.Dp K H x d ∧ L2.Dp K H y (.list ds) ∧ SeqAt.shaped d = true ∧ SeqAt.shaped (.list ds) = true ∧ Q (.bl (f (ds.any fun z => PyData.eqv z d))) H) ∨ (rInTup K f x y H Q ∨ (rInSign f x y H Q ∨ rDGet K (isin f) y x H Q))
theorem op_inAll (hu : X.A.units + 128 < cLine) : OpR X (compareOp .In) (rInAll X.K id) := (op_inD (by omega)).or ((op_inTup hu).or (op_in_sign.or (op_inDict (by omega))))
theorem op_notInAll (hu : X.A.units + 128 < cLine) : OpR X (compareOp .NotIn) (rInAll X.K not) := (op_notInD (by omega)).or ((op_notInTup hu).or (op_notIn_sign.or (op_notInDict (by omega))))
def wIn (f : Bool → Bool) : DR2 := fun x y μ Q => match rd μ x, rd μ y with
  | some d, some (.list ds) => (SeqAt.shaped d = true ∧ SeqAt.shaped (.list ds) = true) ∧ Q (.dat (.bool (f (ds.any fun z => PyData.eqv z d)))) μ
  | some d, some (.tuple ds) => (SeqAt.shaped d = true ∧ SeqAt.shaped (.tuple ds) = true) ∧ Q (.dat (.bool (f (ds.any fun z => PyData.eqv z d)))) μ
  | some (.str z), some (.str t) => ∃ c, z = ⟨#[c]⟩ ∧ Q (.dat (.bool (f (decide (c ∈ t.cps.toList))))) μ
  | _, none => dictAt (isinD f) y x μ Q
  | _, _ => False
theorem lr_in {f : Bool → Bool} : LR2 K (rInAll K f) (wIn f) := fun x y μ Q' h W H vx vy r hx hy Q q => by
  unfold wIn at h
  split at h
  · rename_i d ds e1 e2
    exact .inl ⟨d, ds, (rd_dp r hx e1).dpS h.1.1, (rd_dp r hy e2).dpS h.1.2, h.1.1, h.1.2, q.bl r h.2⟩
  · rename_i d ds e1 e2
    exact .inr (.inl ⟨d, ds, rd_dp r hx e1, rd_dp r hy e2, h.1.1, h.1.2, q.bl r h.2⟩)
  · rename_i z t e1 e2
    obtain ⟨c, rfl, h⟩ := h
    cases rd_str r hx e1
    cases rd_str r hy e2
    exact .inr (.inr (.inl ⟨c, t, rfl, rfl, q.bl r h⟩))
  · refine .inr (.inr (.inr (dictAt_ok r hy hx h fun o p hop hp => ?_)))
    rcases hop with ⟨rfl, rfl⟩ | ⟨v, d, rfl, rfl, hd⟩ <;> exact q.bl r hp
  · exact h.elim
def intKeys : List (Key × PyData) → Option (List Int)
  | [] => some []
  | (.inl i, _) :: r => (intKeys r).map (i :: ·)
  | (.inr _, _) :: _ => none
theorem intKeys_eq : ∀ {es : List (Key × PyData)} {ks : List Int}, intKeys es = some ks → es.map (·.1) = ks.map Sum.inl
  | [], _, h => by cases h; rfl
  | (.inl i, d) :: r, _, h => by
    replace h : (intKeys r).map (i :: ·) = _ := h
    cases q : intKeys r with
    | none => rw [q] at h; cases h
    | some z => rw [q] at h; cases h; rw [List.map_cons, List.map_cons, intKeys_eq q]
  | (.inr _, _) :: _, _, h => by cases h
def sortI (ns : List Int) : List Int := ns.mergeSort (fun a b => decide (a ≤ b))
theorem sorted_uniq : ∀ {l m : List Int}, l.Perm m → l.Pairwise (· ≤ ·) → m.Pairwise (· ≤ ·) → l = m
  | [], m, h, _, _ => (List.Perm.eq_nil h.symm).symm
  | x :: l, [], h, _, _ => absurd h.length_eq (by simp)
  | x :: l, y :: m, h, hl, hm => by
    have a1 : y ∈ x :: l := h.mem_iff.mpr (List.mem_cons_self ..)
    have a2 : x ∈ y :: m := h.mem_iff.mp (List.mem_cons_self ..)
    have b1 : x ≤ y := by
      rcases List.mem_cons.mp a1 with e | e
      · omega
      · exact (List.pairwise_cons.mp hl).1 y e
    have b2 : y ≤ x := by
      rcases List.mem_cons.mp a2 with e | e
      · omega
      · exact (List.pairwise_cons.mp hm).1 x e
    have e : x = y := by omega
    subst e
    rw [sorted_uniq h.cons_inv (List.pairwise_cons.mp hl).2 (List.pairwise_cons.mp hm).2]
theorem sortI_pw (ns : List Int) : (sortI ns).Pairwise (· ≤ ·) := by
  have := List.pairwise_mergeSort (le := fun a b : Int => decide (a ≤ b)) (fun a b c h1 h2 => by simp at *; omega) (fun a b => by simp; omega) ns
  unfold sortI
  simpa using this
theorem sortI_perm (ns : List Int) : (sortI ns).Perm ns := List.mergeSort_perm ..
def fSortedDI : DRA := fun xs μ Q => match xs with
  | [.cell k] => match μ[k]? with
    | some (.dct es) => ∃ ks, intKeys es = some ks ∧ ks.length < 64 ∧ Q (.dat (.list ((sortI ks).map PyData.int))) μ
    | _ => False
  | _ => False
variable {es : List Expr} {p : Pos}
theorem pd_sortedDI {a : DA} (hc : X.calm = true) (ha : PDA X (e :: es) a) (hm : X.mg "sorted" = none) (hg : Gl X "sorted" := by rfl)
    (he : starEach (e :: es) X.env = (false, eval e X.env) :: starEach es X.env := by rfl) (hpl : (backTo pos (starEach es X.env)).any (·.1) = false := by rfl) : PD X (.Call (.Name "sorted" p) (e :: es) [] pos) (dCB fSortedDI a) := by
  refine pd_cb (call_sortedDI hc) (fun xs μ Q' h W H vs r hs Q q => ?_) (by decide +kernel) ha hm hg (by decide) (by decide) he hpl
  unfold fSortedDI at h
  split at h
  · rename_i k
    obtain ⟨v, rfl, hx⟩ := slAll1 hs
    obtain ⟨a, ha', rfl⟩ := hx
    split at h
    · rename_i es' e1
      obtain ⟨ks, e2, hl, h⟩ := h
      obtain ⟨_, ob, hob, hc'⟩ := r.cell k a _ ha' e1
      cases ob <;> first | exact False.elim hc' | skip
      rename_i kvs
      refine ⟨a, kvs, ks, rfl, .inl hob, (tb_keys hc').trans (intKeys_eq e2), hl, fun ys p h1 h2 hp => ?_⟩
      rw [sorted_uniq (h1.trans (sortI_perm ks).symm) h2 (sortI_pw ks)]
      exact q.newL (b := false) r (DvAll.ints _) h p hp
    · exact h.elim
  · exact h.elim
def Wd.tup (W : Wd) (b : Addr) (xs : List V) : Wd := ⟨upd W.G b (.tup xs), upd W.F b (.tup xs), W.ad⟩
theorem tup_in {W : Wd} {H : Hp} {μ : Mu} {b : Addr} {xs : List V} (r : Rep K W H μ) (hb : H b = some (.tup xs)) : Le W (W.tup b xs) ∧ Rep K (W.tup b xs) H μ := by
  have hF : ∀ o, W.F b = some o → o = .tup xs := fun o e => by
    have := r.fh b o e
    rw [hb] at this
    exact (Option.some.inj this).symm
  have exF : Ex W.F (upd W.F b (.tup xs)) := fun a o e => by
    by_cases q : a = b
    · subst q; rw [upd_same, hF o e]
    · rw [upd_ne q]; exact e
  have exG : Ex W.G (upd W.G b (.tup xs)) := fun a o e => by
    by_cases q : a = b
    · subst q; rw [upd_same, hF o (r.gf a o e)]
    · rw [upd_ne q]; exact e
  refine ⟨⟨exG, exF, fun a h1 h2 h3 => ?_, fun _ _ h => h⟩, ⟨ex_upd r.gf, fun a o e => ?_, r.len, r.nd, fun k a c ha hc => ?_⟩⟩
  · show upd W.G b (.tup xs) a = none
    by_cases q : a = b
    · subst q
      cases z : W.F a with
      | none => exact absurd z h1
      | some o => exact absurd (by rw [z, hF o z]) (h3 xs)
    · rw [upd_ne q]; exact h2
  · by_cases q : a = b
    · subst q
      rw [show (W.tup a xs).F = upd W.F a (.tup xs) from rfl, upd_same] at e
      cases e
      exact hb
    · rw [show (W.tup b xs).F = upd W.F b (.tup xs) from rfl, upd_ne q] at e
      exact r.fh a o e
  · obtain ⟨z1, o, z2, z3⟩ := r.cell k a c ha hc
    have ne : a ≠ b := fun z => by
      subst z
      rw [hb] at z2
      cases z2
      cases c <;> exact z3.elim
    refine ⟨?_, o, z2, z3.mono exG⟩
    show upd W.F b (.tup xs) a = none
    rw [upd_ne ne]
    exact z1
theorem tups_in {H : Hp} {μ : Mu} : ∀ {kvs : List (List Key × V)} {bs : List Addr} {W : Wd}, IsKeys H kvs bs → Rep K W H μ → ∃ W', Le W W' ∧ Rep K W' H μ ∧ DvAll K W'.G (bs.map V.ref) (kvs.map fun e => .tuple (e.1.map kD))
  | _, _, W, .nil, r => ⟨W, Le.refl W, r, .nil⟩
  | e :: kvs, b :: bs, W, .cons h t, r => by
    obtain ⟨l1, r1⟩ := tup_in r h
    obtain ⟨W', l2, r2, d⟩ := tups_in t r1
    refine ⟨W', l1.trans l2, r2, .cons (Dv.mono (H := (W.tup b (e.1.map kV)).G) ?_ l2.g) d⟩
    exact .tup (.inl (.inl (by show upd W.G b _ b = _; exact upd_same))) keys_dp
def fListDT : DRA := fun xs μ Q => match xs with
  | [.cell k] => match μ[k]? with
    | some (.dctT es) => Q (.dat (.list (es.map fun e => .tuple (e.1.map kD)))) μ
    | _ => False
  | _ => False
theorem pd_listDT {a : DA} (hc : X.calm = true) (ha : PDA X (e :: es) a) (hm : X.mg "list" = none) (hg : Gl X "list" := by rfl)
    (he : starEach (e :: es) X.env = (false, eval e X.env) :: starEach es X.env := by rfl) (hpl : (backTo pos (starEach es X.env)).any (·.1) = false := by rfl) : PD X (.Call (.Name "list" p) (e :: es) [] pos) (dCB fListDT a) := by
  refine pd_ct (call_list_dT hc) (fun xs μ Q' h W H vs r hs Q q => ?_) (by decide +kernel) ha hm hg (by decide) (by decide) he hpl
  unfold fListDT at h
  split at h
  · rename_i k
    obtain ⟨v, rfl, hx⟩ := slAll1 hs
    obtain ⟨a, ha', rfl⟩ := hx
    split at h
    · rename_i es' e1
      obtain ⟨_, ob, hob, hc'⟩ := r.cell k a _ ha' e1
      cases ob <;> first | exact False.elim hc' | skip
      rename_i kvs
      refine ⟨a, kvs, rfl, .inl hob, fun p bs hp hk => ?_⟩
      obtain ⟨W', l, r', hd⟩ := tups_in hk r
      have ek : (kvs.map fun e => PyData.tuple (e.1.map kD)) = es'.map fun e => PyData.tuple (e.1.map kD) := by
        have := tb_keys (show Tb X.K W.G kvs es' from hc')
        have := congrArg (List.map fun z : List Key => PyData.tuple (z.map kD)) this
        rw [List.map_map, List.map_map] at this
        exact this
      rw [ek] at hd
      exact (q.le l).newL (b := false) r' hd h p hp
    · exact h.elim
  · exact h.elim
theorem pd_gint {x : Str} {n : Int} (hm : ∃ t, X.mg x = some (.int n t)) (hg : Gl X x := by rfl) (hdb : (x == ("__debug__" : Str)) = false := by decide) : PD X (.Name x pos) (dC (.int n)) := by
  obtain ⟨t, e⟩ := hm
  exact pd_glob (v := .int n) hg e ⟨t, rfl⟩ (fun _ => .int n) hdb
end
end DL
namespace PySem.AutoSeq1
end PySem.AutoSeq1
namespace DL
open PySem PySem.Spec PyProof.Rows L2 Evl
open PySem.W (alike alikeAll dataLt minD maxD AlikeAll)
section
variable {X : Cx} {K : PySem.W.Frag} {o e : Expr} {es : List Expr} {apos cpos p pos : Pos} {od ed : DE}
def dMt0 (m : DM) (od : DE) : DE := fun ρ μ Q => od ρ μ fun x μ1 => m x [] μ1 Q
theorem pd_pop (ho : PD X o od) (hbase : attributeBase o "pop" X.env (eval o X.env) = eval o X.env := by rfl) (hline : (apos.endLine == cpos.line) = true := by rfl) : PD X (.Call (.Attribute o "pop" apos) [] [] cpos) (dMt0 mPop od) := by
  obtain ⟨t1, p1, l1⟩ := ho
  refine ⟨_, pe_bm0 PySem.F.plainAttrs_list PySem.F.slot_list_pop PySem.F.type_list_pop mt_pop p1 hbase hline, fun ρ μ Q' h W σ H he r Q q => l1 ρ μ _ h W σ H he r _ fun v x W1 H1 μ1 le1 r1 hx h1 => ?_⟩
  replace h1 : mPop x [] μ1 Q' := h1
  unfold mPop at h1
  split at h1
  · rename_i k
    split at h1
    · rename_i ds e1
      obtain ⟨d, hd, h1⟩ := h1
      obtain ⟨a, ys, rfl, ha, hH, hdp⟩ := tyV_cell r1 hx e1
      obtain ⟨u, hu, du⟩ := DvAll.get hdp hd
      have hl : ys.dropLast.length = ds.dropLast.length := by rw [List.length_dropLast, List.length_dropLast, hdp.length]
      have hdp' : DvAll X.K W1.G ys.dropLast ds.dropLast := by
        rw [List.dropLast_eq_take, List.dropLast_eq_take, hdp.length]
        exact DvAll.take _ hdp
      refine ⟨.inl ⟨rfl, ys, .inl (.inl hH)⟩, a, ys, u, rfl, rfl, hH, by rw [hdp.length]; exact hu, ?_⟩
      exact (q.le le1).dat (r1.write ha (show CellOk X.K W1.G (.lst ys.dropLast) (.lst ds.dropLast) from hdp')) du h1
    · exact h1.elim
  · exact h1.elim
def mPopAt : DM := fun o vs μ Q => match o, vs with
  | .cell k, [.dat (.int i)] => match μ[k]? with
    | some (.lst ds) => ∃ j d, (-(2 ^ 63) ≤ i ∧ i < 2 ^ 63) ∧ seqIndex? i ds.length = some j ∧ ds[j]? = some d ∧ Q (.dat d) (μ.set k (.lst (ds.eraseIdx j)))
    | _ => False
  | _, _ => False
theorem DvAll.erase {H : Hp} : ∀ {vs : List V} {ds : List PyData} (i : Nat), DvAll K H vs ds → DvAll K H (vs.eraseIdx i) (ds.eraseIdx i)
  | _, _, _, .nil => .nil
  | _, _, 0, .cons _ t => t
  | _, _, i + 1, .cons a t => .cons a (DvAll.erase i t)
def rExtendS (K : PySem.W.Frag) : V → List V → Hp → VK → Prop := fun x vs H Q => ∃ l b xs zs, x = .ref l ∧ vs = [.ref b] ∧ H l = some (.lst xs) ∧ SqL K H b zs ∧ xs.length + zs.length ≤ sizeLine ∧ Q .non (upd H l (.lst (xs ++ zs)))
def mExt : DM := fun o vs μ Q => match o, vs with
  | .cell k, [y] => match μ[k]?, rd μ y with
    | some (.lst ds), some (.list es) => (isV y = false ∧ ds.length + es.length ≤ sizeLine) ∧ Q (.dat .none) (μ.set k (.lst (ds ++ es)))
    | _, _ => False
  | _, _ => False
theorem vals_back' : ∀ {xs : List V} {its : List Value} {i : Nat} {u : Value}, Vals xs its → its[i]? = some u → ∃ x, xs[i]? = some x ∧ RelV x u
  | _, _, _, _, .nil, e => by simp at e
  | _, _, 0, _, .cons h t, e => by simp at e; subst e; exact ⟨_, rfl, h⟩
  | _, _, i + 1, u, .cons h t, e => by
    obtain ⟨x, h1, h2⟩ := vals_back' (i := i) (u := u) t (by simpa using e)
    exact ⟨x, by simpa using h1, h2⟩
def BestOk (ds : List PyData) : Prop := AlikeAll ds ∧ PyData.depthAll ds ≤ 64
def rBest (K : PySem.W.Frag) (best : PyData → List PyData → PyData) : List V → Hp → VK → Prop := fun vs H Q => ∃ a xs x ds, vs = [V.ref a] ∧ SqL K H a xs ∧ DvAll K H xs (x :: ds) ∧ BestOk (x :: ds) ∧ ∀ (i : Nat) v, xs[i]? = some v → (x :: ds)[i]? = some (best x ds) → Q v H
theorem minD_mem (x : PyData) : ∀ ds : List PyData, minD x ds ∈ x :: ds := fun ds => by
  unfold minD
  suffices h : ∀ (ds : List PyData) (a : PyData), ds.foldl (fun a y => if dataLt y a then y else a) a ∈ a :: ds from h ds x
  intro ds
  induction ds with
  | nil => intro a; exact List.mem_cons_self ..
  | cons y ds ih =>
    intro a
    rw [List.foldl_cons]
    have := ih (if dataLt y a then y else a)
    rcases List.mem_cons.mp this with e | e
    · rw [e]
      split
      · exact List.mem_cons_of_mem _ (List.mem_cons_self ..)
      · exact List.mem_cons_self ..
    · exact List.mem_cons_of_mem _ (List.mem_cons_of_mem _ e)
theorem cr_min (hc : X.calm = true) (hu : X.A.units + 128 < cLine) : CallR X (.builtin "min") (rBest X.K minD) := by
  intro pins s σ H vs us Q I r h
  obtain ⟨a, xs, x, ds, rfl, hs, hd, ⟨ok, hdp⟩, q⟩ := h
  obtain ⟨its, rv, hl, hz⟩ := I.list hs
  rw [Vals.ref1 r]
  obtain ⟨as, hr⟩ := Dv.readsAll I _ _ _ hd rv
  refine PySem.W.min_list_data (I.ok.hd hc) hl.isList (by rw [List.toList_toArray]; exact hr) ok (by omega) fun i v h' tk bs hv hr' keep => ?_
  rw [List.getElem?_toArray] at hv
  obtain ⟨y, hy, ry⟩ := vals_back' rv hv
  obtain ⟨d, hd1, hd2⟩ := DvAll.get' hd hy
  obtain ⟨as2, r2⟩ := Dv.reads I d y v hd2 ry
  have e : d = minD x ds := PySem.W.alike_unique _ _ _ _ _ (ok.1 d (List.mem_of_getElem? hd1) _ (minD_mem x ds)) (PyProof.Rows.Reads.keeps keep r2) hr'
  subst e
  exact ⟨y, H, I.kept keep, ry, q i y hy hd1⟩
def fBest (best : PyData → List PyData → PyData) : DRA := arg1 fun d s μ Q => match d with
  | .list (x :: ds) => BestOk (x :: ds) ∧ Q (elt s (best x ds)) μ
  | _ => False
def fMin1 : DRA := fBest minD
variable {k : Nat}
theorem lra_best {best : PyData → List PyData → PyData} : LRA K (rBest K best) (fBest best) := fun xs μ Q' h W H vs r hs Q q => by
  obtain ⟨x, d, rfl, e1, h⟩ := arg1_of h
  obtain ⟨v, rfl, hx⟩ := slAll1 hs
  split at h
  · rename_i y ds
    obtain ⟨a, ys, rfl, hl, hi⟩ := rd_lst r hx e1
    have hH : DvAll K H ys (y :: ds) := by
      unfold Its at hi
      cases h' : isV x with
      | true => rw [h'] at hi; exact DvAll.mono hi r.fh
      | false => rw [h'] at hi; exact DvAll.mono hi r.gh
    refine ⟨a, ys, y, ds, rfl, hl, hH, h.1, fun i v hv hb => ?_⟩
    obtain ⟨v', hv', ok⟩ := hi.get hb
    rw [hv] at hv'
    cases hv'
    exact q.here r ok h.2
  · exact h.elim
theorem pd_min1 (hr : RoomG k X.A) (hc : X.calm = true) {a : DA} (ha : PDA X (e :: es) a) (hm : X.mg "min" = none) (hg : Gl X "min" := by rfl)
    (he : starEach (e :: es) X.env = (false, eval e X.env) :: starEach es X.env := by rfl) (hpl : (backTo pos (starEach es X.env)).any (·.1) = false := by rfl) : PD X (.Call (.Name "min" p) (e :: es) [] pos) (dCB fMin1 a) :=
  pd_cb (cr_min hc hr.u128) lra_best (by decide +kernel) ha hm hg (by decide) (by decide) he hpl
end
end DL
namespace DL
open PySem PySem.Spec PyProof.Rows L2 Evl
open PySem.W (alike alikeAll dataLt minD maxD AlikeAll AllAlike Sortable dataLe)
def rgL (a b : Int) : List PyData := (List.range (b - a).toNat).map fun i => .int (a + (i : Nat))
section
variable {X : Cx} {K : PySem.W.Frag} {a b : Expr} {p pos p2 pos2 : Pos} {da db : DE}
theorem dp_rg {H : Hp} (i j : Int) : DvAll K H (rgV i j) (rgL i j) := by
  unfold rgV rgL
  have : ∀ (l : List Nat), DvAll K H (l.map fun n => V.int (i + (n : Nat))) (l.map fun n => PyData.int (i + (n : Nat))) := fun l => by
    induction l with
    | nil => exact .nil
    | cons x l ih => exact .cons (.int _) ih
  exact this _
def dLstRg1 (cell : Bool) (da : DE) : DE := fun ρ μ Q => da ρ μ fun x μ1 => match rd μ1 x with
  | some (.int n) => RgOk 0 n ∧ (if cell = true then Q (.cell μ1.length) (μ1 ++ [.lst (rgL 0 n)]) else Q (.dat (.list (rgL 0 n))) μ1)
  | _ => False
theorem pd_listRg1 (cell : Bool) (hc : X.calm = true) (ha : PD X a da) (hm : X.mg "list" = none) (hm2 : X.mg "range" = none) (hg : Gl X "list" := by rfl) (hg2 : Gl X "range" := by rfl) (na : starEach [a] X.env = (false, eval a X.env) :: starEach [] X.env := by rfl)
    (na2 : starEach [.Call (.Name "range" p2) [a] [] p] X.env = (false, eval (.Call (.Name "range" p2) [a] [] p) X.env) :: starEach [] X.env := by rfl) : PD X (.Call (.Name "list" pos) [.Call (.Name "range" p2) [a] [] p] [] pos2) (dLstRg1 cell da) := by
  obtain ⟨t1, p1, l1⟩ := ha
  refine ⟨_, pe_listRg hc hg hm (prg_1 hg2 hm2 p1 na) na2, fun ρ μ Q' h W σ H he r Q q => l1 ρ μ _ h W σ H he r _ fun v x W1 H1 μ1 le1 r1 hx h1 => ?_⟩
  replace h1 : (match rd μ1 x with
    | some (.int n) => RgOk 0 n ∧ (if cell = true then Q' (.cell μ1.length) (μ1 ++ [.lst (rgL 0 n)]) else Q' (.dat (.list (rgL 0 n))) μ1)
    | _ => False) := h1
  split at h1
  · rename_i n e1
    cases rd_int r1 hx e1
    refine ⟨n, rfl, h1.1, fun q' hq => ?_⟩
    cases cell with
    | true => exact (q.le le1).newCell r1 (dp_rg 0 n) h1.2 q' hq
    | false => exact (q.le le1).newL (b := false) r1 (dp_rg 0 n) h1.2 q' hq
  · exact h1.elim
end
def dPar3 (i j l : Nat) (a : DA) : DS := fun D ρ μ => a ρ μ fun ss μ1 => match ss with
  | [s, t, u] => D.nx (((ρ.set i (some s)).set j (some t)).set l (some u)) μ1
  | _ => False
section
variable {X : Cx}
end
section
variable {ρ : Rho} {μ : Mu} {Q : DQ} {D : DEnds} {a b c d e : DE} {t u : DT} {as : DA} {i j : Int} {x y : PyData} {ds es : List PyData}
@[simp ↓] theorem e_dPar3 {i j l : Nat} : dPar3 i j l as D ρ μ = as ρ μ fun ss μ1 => match ss with | [s, t, u] => D.nx (((ρ.set i (some s)).set j (some t)).set l (some u)) μ1 | _ => False := rfl
@[simp ↓] theorem e_dDct : dDct ρ μ Q = Q (.cell μ.length) (μ ++ [.dct []]) := rfl
@[simp ↓] theorem e_dDctT : dDctT ρ μ Q = Q (.cell μ.length) (μ ++ [.dctT []]) := rfl
@[simp ↓] theorem e_dMt0 {m : DM} : dMt0 m a ρ μ Q = a ρ μ fun x μ1 => m x [] μ1 Q := rfl
@[simp ↓] theorem e_dMtL {m : DM} : dMtL m a as ρ μ Q = a ρ μ fun x μ1 => (∃ ds, rd μ1 x = some (.list ds)) ∧ as ρ μ1 fun ss μ2 => m x ss μ2 Q := rfl
@[simp ↓] theorem e_dDPut : dDPut a b c D ρ μ = c ρ μ fun v μ1 => a ρ μ1 fun x μ2 => b ρ μ2 fun y μ3 => putK1 x y v μ3 (D.nx ρ) := rfl
@[simp ↓] theorem e_dDPutT : dDPutT a as c D ρ μ = c ρ μ fun v μ1 => a ρ μ1 fun x μ2 => as ρ μ2 fun ss μ3 => putKT x v ss μ3 (D.nx ρ) := rfl
@[simp ↓] theorem w_ltI : wLt (.dat (.int i)) (.dat (.int j)) μ Q = Q (.dat (.bool (decide (i < j)))) μ := rfl
@[simp ↓] theorem w_leI : wLe (.dat (.int i)) (.dat (.int j)) μ Q = Q (.dat (.bool (decide (i ≤ j)))) μ := rfl
@[simp ↓] theorem w_gtI : wGt (.dat (.int i)) (.dat (.int j)) μ Q = Q (.dat (.bool (decide (j < i)))) μ := rfl
@[simp ↓] theorem w_geI : wGe (.dat (.int i)) (.dat (.int j)) μ Q = Q (.dat (.bool (decide (j ≤ i)))) μ := rfl
theorem w_inL {f : Bool → Bool} : wIn f (.dat x) (.dat (.list ds)) μ Q = ((SeqAt.shaped x = true ∧ SeqAt.shaped (.list ds) = true) ∧ Q (.dat (.bool (f (ds.any fun z => PyData.eqv z x)))) μ) := rfl
theorem w_inT {f : Bool → Bool} : wIn f (.dat x) (.dat (.tuple ds)) μ Q = ((SeqAt.shaped x = true ∧ SeqAt.shaped (.tuple ds) = true) ∧ Q (.dat (.bool (f (ds.any fun z => PyData.eqv z x)))) μ) := rfl
theorem w_inD {f : Bool → Bool} {k : Nat} {es : List (Key × PyData)} (h : μ[k]? = some (.dct es)) {key : Key} (hk : keyA x = some key) : wIn f (.dat x) (.cell k) μ Q = Q (.dat (.bool (f (valD es key).isSome))) μ := by
  simp only [wIn, e_rdD, e_rdC, h, rdC, dictAt, isinD]
  exact propext ⟨fun ⟨_, _, e, h1, h2⟩ => by cases e; rw [hk] at h1; cases h1; exact h2, fun h2 => ⟨_, _, rfl, hk, h2⟩⟩
end
end DL
namespace WL
open PySem PySem.Spec PyProof.Rows L2 Evl DL
abbrev T3 := Int × Int × Int
def tieD (t : T3) : PyData := .tuple [.int t.1, .int t.2.1, .int t.2.2]
def rowI (ns : List Int) : PyData := .tuple (ns.map PyData.int)
def pairD (p : Int × Int) : PyData := .tuple [.int p.1, .int p.2]
def tiesD (ts : List T3) : PyData := .tuple (ts.map tieD)
def webD (many : Int) (ts : List T3) : PyData := .tuple [.str (PySem.Str.ofString "web"), .int many, tiesD ts]
def lexP (p q : Int × Int) : Prop := p.1 < q.1 ∨ (p.1 = q.1 ∧ p.2 < q.2)
instance (p q : Int × Int) : Decidable (lexP p q) := inferInstanceAs (Decidable (_ ∨ _))
def two (t : T3) : Int × Int := (t.1, t.2.1)
structure RowsOk (most : Nat) (many : Int) (ts : List T3) : Prop where
  one : 1 ≤ ts.length
  most : ts.length ≤ most
  in_ : ∀ t ∈ ts, 0 ≤ t.1 ∧ t.1 < t.2.1 ∧ t.2.1 < many ∧ 1 ≤ t.2.2 ∧ t.2.2 ≤ 20
  up : ts.Pairwise fun a b => lexP (two a) (two b)
inductive Reach (ts : List T3) (s : Int) : Int → Prop
  | here : Reach ts s s
  | fwd {p : Int} {t : T3} : Reach ts s p → t ∈ ts → t.1 = p → Reach ts s t.2.1
  | bwd {p : Int} {t : T3} : Reach ts s p → t ∈ ts → t.2.1 = p → Reach ts s t.1
structure WebOk (many : Int) (ts : List T3) : Prop where
  lo : 2 ≤ many
  hi : many ≤ 8
  rows : RowsOk 14 many ts
  joined : ∀ p : Int, 0 ≤ p → p < many → Reach ts 0 p
def isW : PyData → Bool
  | .int _ => true
  | _ => false
def withinB (d : PyData) (lo hi : Int) : Bool := match d with
  | .int i => decide (lo ≤ i) && decide (i ≤ hi)
  | _ => false
def ph_is_integer : DF := fun ss μ Q => ∃ d, ss = [.dat d] ∧ Q (.dat (.bool (isW d))) μ
def ph_is_within : DF := fun ss μ Q => ∃ d lo hi, ss = [.dat d, .dat (.int lo), .dat (.int hi)] ∧ Q (.dat (.bool (withinB d lo hi))) μ
def tupOfB (d : PyData) (n : Int) : Bool := match d with
  | .tuple ds => decide ((ds.length : Int) = n)
  | _ => false
def ph_is_tuple_of : DF := fun ss μ Q => ∃ d n, ss = [.dat d, .dat (.int n)] ∧ Q (.dat (.bool (tupOfB d n))) μ
def headB (d : PyData) (w : Str) (n : Int) : Bool := match d with
  | .tuple (.str z :: r) => decide (((r.length + 1 : Nat) : Int) = n) && decide (z = w)
  | _ => false
def ph_is_headed : DF := fun ss μ Q => ∃ d w n, ss = [.dat d, .dat (.str w), .dat (.int n)] ∧ 1 ≤ n ∧ Q (.dat (.bool (headB d w n))) μ
def risingB : List PyData → Bool
  | a :: b :: r => PySem.W.dataLt a b && risingB (b :: r)
  | _ => true
def NextOk : List PyData → Prop
  | a :: b :: r => OrdOk a b ∧ NextOk (b :: r)
  | _ => True
def ph_is_rising : DF := fun ss μ Q => ∃ s ds, ss = [s] ∧ (s = .dat (.list ds) ∨ s = .dat (.tuple ds)) ∧ NextOk ds ∧ ds.length ≤ 1000 ∧ Q (.dat (.bool (risingB ds))) μ
def farD (t : T3) (p : Int) : PyData := if t.1 = p then .int t.2.1 else if t.2.1 = p then .int t.1 else .none
def ph_far_end : DF := fun ss μ Q => ∃ t p, ss = [.dat (tieD t), .dat (.int p)] ∧ Q (.dat (farD t p)) μ
def Small (ts : List T3) : Prop := ts.length ≤ 40 ∧ ∀ t ∈ ts, (0 ≤ t.1 ∧ t.1 < 8) ∧ (0 ≤ t.2.1 ∧ t.2.1 < 8)
def ph_come_to : DF := fun ss μ Q => ∃ st ts, ss = [.dat (.int st), .dat (.list (ts.map tieD))] ∧ ((0 ≤ st ∧ st < 8) ∧ Small ts) ∧ ∀ ns : List Int, ns.Pairwise (· < ·) → (∀ p, p ∈ ns ↔ Reach ts st p) → Q (.dat (.list (ns.map PyData.int))) μ
def inner (ps : List Int) (ts : List T3) : List T3 := ts.filter fun t => decide (t.1 ∈ ps) && decide (t.2.1 ∈ ps)
def Places (ps : List Int) : Prop := ps.Nodup ∧ ∀ p ∈ ps, 0 ≤ p ∧ p < 8
def Sq1 (s : Sl) (c : List Int) : Prop := s = .dat (rowI c) ∨ s = .dat (.list (c.map PyData.int))
def ph_are_joined : DF := fun ss μ Q => ∃ s0 s st ps ts, ss = [s0, s] ∧ Sq1 s0 (st :: ps) ∧ (s = .dat (.list (ts.map tieD)) ∨ s = .dat (tiesD ts)) ∧ (Places (st :: ps) ∧ Small ts) ∧ ∀ b : Bool, (b = true ↔ ∀ p ∈ st :: ps, Reach (inner (st :: ps) ts) st p) → Q (.dat (.bool b)) μ
def pairB (x y : PyData) (many : Int) : Bool := withinB x 0 (many - 1) && (withinB y 0 (many - 1) && match x, y with | .int i, .int j => decide (i < j) | _, _ => false)
def ph_is_pair : DF := fun ss μ Q => ∃ x y r many, ss = [.dat (.tuple (x :: y :: r)), .dat (.int many)] ∧ Q (.dat (.bool (pairB x y many))) μ
def ph_are_rows : DF := fun ss μ Q => ∃ ts most many, ss = [.dat (tiesD ts), .dat (.int ((most : Nat) : Int)), .dat (.int many)] ∧ (RowsOk most many ts ∧ most ≤ 14) ∧ Q (.dat (.bool true)) μ
def ph_is_web : DF := fun ss μ Q => ∃ many ts, ss = [.dat (webD many ts)] ∧ WebOk many ts ∧ Q (.dat (.bool true)) μ
def ph_check_web : DF := fun ss μ Q => ∃ many ts, ss = [.dat (webD many ts)] ∧ WebOk many ts ∧ Q (.dat .none) μ
def ph_check_place : DF := fun ss μ Q => ∃ many ts p, ss = [.dat (webD many ts), .dat (.int p)] ∧ (0 ≤ p ∧ p < many) ∧ Q (.dat .none) μ
def ph_check_two : DF := fun ss μ Q => ∃ many ts p q, ss = [.dat (webD many ts), .dat (.int p), .dat (.int q)] ∧ (WebOk many ts ∧ (0 ≤ p ∧ p < many) ∧ (0 ≤ q ∧ q < many) ∧ p ≠ q) ∧ Q (.dat .none) μ
def lots : Nat → List (List Int)
  | 0 => [[]]
  | k + 1 => lots k ++ (lots k).map (· ++ [((k + 1 : Nat) : Int)])
def ltL (a b : List Int) : Bool := decide (a < b)
def insL (x : List Int) : List (List Int) → List (List Int)
  | [] => [x]
  | y :: r => if ltL y x = true then y :: insL x r else x :: y :: r
def sortL : List (List Int) → List (List Int)
  | [] => []
  | x :: r => insL x (sortL r)
def cutsL (many : Nat) : List (List Int) := sortL ((lots (many - 1)).filter fun c => !c.isEmpty)
def acrossB (c : List Int) (t : T3) : Bool := decide (t.1 ∈ c) != decide (t.2.1 ∈ c)
def roomL (ts : List T3) (c : List Int) : Int := ((ts.filter (acrossB c)).map (·.2.2)).sum
def beyondL (many : Int) (c : List Int) : List Int := ((List.range many.toNat).map fun (i : Nat) => (i : Int)).filter fun p => !decide (p ∈ c)
def Cut (many : Int) (c : List Int) : Prop := c.Pairwise (· < ·) ∧ (∀ p ∈ c, 1 ≤ p ∧ p < many) ∧ c ≠ []
def SmallL (c : List Int) : Prop := c.length ≤ 100
def ph_cuts_of_many : DF := fun ss μ Q => ∃ n : Nat, ss = [.dat (.int (n : Int))] ∧ (2 ≤ n ∧ n ≤ 8) ∧ Q (.dat (.list ((cutsL n).map rowI))) μ
def ph_is_across : DF := fun ss μ Q => ∃ c s t, ss = [.dat (rowI c), s] ∧ (s = .dat (tieD t) ∨ s = .dat (pairD (two t))) ∧ SmallL c ∧ Q (.dat (.bool (acrossB c t))) μ
def ph_sum_across : DF := fun ss μ Q => ∃ ts c, ss = [.dat (tiesD ts), .dat (rowI c)] ∧ (SmallL c ∧ ts.length ≤ 100) ∧ Q (.dat (.int (roomL ts c))) μ
def ph_places_beyond : DF := fun ss μ Q => ∃ many s c, ss = [.dat (.int many), s] ∧ Sq1 s c ∧ (SmallL c ∧ 0 ≤ many ∧ many ≤ 100) ∧ Q (.dat (.list ((beyondL many c).map PyData.int))) μ
def cutSide (many : Int) (c : List Int) : List Int := if 0 ∈ c then beyondL many c else c
def ph_cut_with_side : DF := fun ss μ Q => ∃ many c, ss = [.dat (.int many), .dat (.list (c.map PyData.int))] ∧ (SmallL c ∧ c.Pairwise (· < ·) ∧ 0 ≤ many ∧ many ≤ 100) ∧ Q (.dat (rowI (cutSide many c))) μ
def sideW (many : Int) (c : List Int) (p : Int) : List Int := if p ∈ c then c else beyondL many c
def ph_side_with : DF := fun ss μ Q => ∃ many c p, ss = [.dat (.int many), .dat (rowI c), .dat (.int p)] ∧ (SmallL c ∧ 0 ≤ many ∧ many ≤ 100) ∧ Q (.dat (.list ((sideW many c p).map PyData.int))) μ
def Pot (μ : Mu) (k : Nat) : Prop := ∃ p0 p1 : Int, μ[k]? = some (.lst [.int p0, .int p1]) ∧ 0 ≤ p0 ∧ 0 ≤ p1 ∧ p1 < 2 ^ 40
def Ch (k : Nat) (μ μ' : Mu) : Prop := Pot μ' k ∧ μ'.length = μ.length ∧ ∀ j, j ≠ k → μ'[j]? = μ[j]?
def ph_law_pot : DF := fun ss μ Q => ∃ (ns : List Int) (k : Int), ss = [.dat (.list (ns.map PyData.int)), .dat (.int k)] ∧ (0 ≤ k ∧ k ≤ 100) ∧ ∀ p0 p1 : Int, 0 ≤ p0 → 0 ≤ p1 → p1 < 2 ^ 40 → Q (.cell μ.length) (μ ++ [.lst [.int p0, .int p1]])
def ph_law_draw : DF := fun ss μ Q => ∃ k n, ss = [.cell k, .dat (.int n)] ∧ Pot μ k ∧ (0 < n ∧ n < 2 ^ 100) ∧ ∀ x μ', 0 ≤ x → x < n → Ch k μ μ' → Q (.dat (.int x)) μ'
def ph_law_pick : DF := fun ss μ Q => ∃ k ds, ss = [.cell k, .dat (.list ds)] ∧ Pot μ k ∧ (0 < ds.length ∧ ds.length ≤ 1000) ∧ ∀ x μ', x ∈ ds → Ch k μ μ' → Q (.dat x) μ'
def ph_law_web : DF := fun ss μ Q => ∃ k many further room, ss = [.cell k, .dat (.int many), .dat (.int further), .dat (.int room)] ∧ Pot μ k ∧ ((2 ≤ many ∧ many ≤ 8) ∧ (0 ≤ further ∧ further + many ≤ 15) ∧ (1 ≤ room ∧ room ≤ 20)) ∧
  ∀ ts μ', WebOk many ts → (∀ t ∈ ts, t.2.2 ≤ room) → Ch k μ μ' → Q (.dat (webD many ts)) μ'
def ph_law_cuts : DF := ph_cuts_of_many
def ph_law_over : DF := ph_sum_across
def lawSide (many : Int) (c : List Int) (p : Int) : List Int := sideW many c p
def ph_law_side : DF := fun ss μ Q => ∃ many c p, ss = [.dat (.int many), .dat (rowI c), .dat (.int p)] ∧ (SmallL c ∧ 0 ≤ many ∧ many ≤ 100) ∧ Q (.dat (rowI (sideW many c p))) μ
end WL
namespace WL
open PySem PySem.Spec PyProof.Rows L2 Evl DL
def ds_far_end : DS := (dSeq (dIfS (dTest (dOp rEq (dOp rIx (dVar 0) (dC (.int 0))) (dVar 1))) (dRet (dOp rIx (dVar 0) (dC (.int 1)))) dNext)
    (dRet (dIf (dTest (dOp rEq (dOp rIx (dVar 0) (dC (.int 1))) (dVar 1))) (dOp rIx (dVar 0) (dC (.int 0))) (dC .none))))
def ds_come_to : DS := (dSeq (dAsg (dDct1 (dVar 0) (dC (.bool true))) 2)
    (dSeq (dAsg (dLstC (aCons (dVar 0) aNil)) 3)
    (dSeq (dWhile (dTru (dVar 3)) (dSeq (dAsg (dMt0 mPop (dVar 3)) 4)
    (dFor (iSeq (dVar 1)) (gN 5) (dSeq (dAsg (dCall 2 ph_far_end (aCons (dVar 5) (aCons (dVar 4) aNil))) 6)
    (dIfS (dAnd (dTest (dOp (rIs true) (dVar 6) (dC .none))) (dTest (dOp (wIn not) (dVar 6) (dVar 2)))) (dSeq (dDPut (dVar 2) (dVar 6) (dC (.bool true)))
    (dDrop (dMtL mApp (dVar 3) (aCons (dVar 6) aNil)))) dNext)))))
    (dRet (dCB fSortedDI (aCons (dVar 2) aNil))))))
def ds_are_joined : DS := (dSeq (dAsg (dLc (iSeq (dVar 1)) (gN 3) (dAnd (dTest (dOp (wIn id) (dOp rIx (dVar 3) (dC (.int 0))) (dVar 0))) (dTest (dOp (wIn id) (dOp rIx (dVar 3) (dC (.int 1))) (dVar 0)))) (dVar 3) [3]) 2)
    (dRet (dOp rEq (dCB fLen (aCons (dCall 2 ph_come_to (aCons (dOp rIx (dVar 0) (dC (.int 0))) (aCons (dVar 2) aNil))) aNil)) (dCB fLen (aCons (dVar 0) aNil)))))
def ds_is_integer : DS := (dRet (dAndV (dUn (fIsi .int) (dVar 0)) (dNotV (dUn (fIsi .bool) (dVar 0)))))
def ds_is_within : DS := (dRet (dAndV (dCall 1 ph_is_integer (aCons (dVar 0) aNil)) (dChain wLe wLe (dVar 1) (dVar 0) (dVar 2))))
def ds_is_tuple_of : DS := (dRet (dAndV (dUn (fIsi .tup) (dVar 0)) (dOp rEq (dCB fLen (aCons (dVar 0) aNil)) (dVar 1))))
def ds_is_headed : DS := (dRet (dAndV (dCall 2 ph_is_tuple_of (aCons (dVar 0) (aCons (dVar 2) aNil))) (dAndV (dUn (fIsi .str) (dOp rIx (dVar 0) (dC (.int 0)))) (dOp rEq (dOp rIx (dVar 0) (dC (.int 0))) (dVar 1)))))
def ds_is_rising : DS := (dRet (dCB fAll (aCons (dLc (iZp (aCons (dVar 0) (aCons (dSl (dVar 0) (oSome (dC (.int 1))) oNone) aNil))) (gT 2 (gsCons (gN 1) (gsCons (gN 2) gsNil))) dYes (dOp wLt (dVar 1) (dVar 2)) [1, 2]) aNil)))
def ds_cuts_of_many : DS := (dSeq (dAsg (dLst (aCons (dTup aNil) aNil)) 1)
    (dSeq (dFor (iRg2 (aCons (dC (.int 1)) (aCons (dVar 0) aNil))) (gN 2) (dAsg (dOp rAdd (dVar 1) (dLc (iSeq (dVar 1)) (gN 3) dYes (dOp rAdd (dVar 3) (dTup (aCons (dVar 2) aNil))) [3])) 1))
    (dRet (dSl (dCB fSorted (aCons (dVar 1) aNil)) (oSome (dC (.int 1))) oNone))))
def ds_is_across : DS := (dRet (dOp rNe (dOp (wIn id) (dOp rIx (dVar 1) (dC (.int 0))) (dVar 0)) (dOp (wIn id) (dOp rIx (dVar 1) (dC (.int 1))) (dVar 0))))
def ds_sum_across : DS := (dRet (dCB fSum (aCons (dLc (iSeq (dVar 0)) (gN 2) (dTru (dCall 2 ph_is_across (aCons (dVar 1) (aCons (dVar 2) aNil)))) (dOp rIx (dVar 2) (dC (.int 2))) [2]) aNil)))
def ds_places_beyond : DS := (dRet (dLc (iRg1 (aCons (dVar 0) aNil)) (gN 2) (dTest (dOp (wIn not) (dVar 2) (dVar 1))) (dVar 2) [2]))
def ds_cut_with_side : DS := (dRet (dIf (dTest (dOp (wIn id) (dC (.int 0)) (dVar 1))) (dCB fTuple (aCons (dCall 2 ph_places_beyond (aCons (dVar 0) (aCons (dVar 1) aNil))) aNil)) (dCB fTuple (aCons (dCB fSorted (aCons (dVar 1) aNil)) aNil))))
def ds_side_with : DS := (dRet (dIf (dTest (dOp (wIn id) (dVar 2) (dVar 1))) (dCB fList (aCons (dVar 1) aNil)) (dCall 2 ph_places_beyond (aCons (dVar 0) (aCons (dVar 1) aNil)))))
def ds_is_pair : DS := (dRet (dAndV (dCall 3 ph_is_within (aCons (dOp rIx (dVar 0) (dC (.int 0))) (aCons (dC (.int 0)) (aCons (dOp rSub (dVar 1) (dC (.int 1))) aNil)))) (dAndV (dCall 3 ph_is_within (aCons (dOp rIx (dVar 0) (dC (.int 1))) (aCons (dC (.int 0)) (aCons (dOp rSub (dVar 1) (dC (.int 1))) aNil)))) (dOp wLt (dOp rIx (dVar 0) (dC (.int 0))) (dOp rIx (dVar 0) (dC (.int 1)))))))
def ds_are_rows : DS := (dSeq (dIfS (dOr (dNot (dTru (dUn (fIsi .tup) (dVar 0)))) (dNot (dTest (dChain wLe wLe (dC (.int 1)) (dCB fLen (aCons (dVar 0) aNil)) (dVar 1))))) (dRet (dC (.bool false))) dNext)
    (dSeq (dFor (iSeq (dVar 0)) (gN 3) (dIfS (dOr (dNot (dTru (dCall 2 ph_is_tuple_of (aCons (dVar 3) (aCons (dC (.int 3)) aNil))))) (dOr (dNot (dTru (dCall 2 ph_is_pair (aCons (dVar 3) (aCons (dVar 2) aNil))))) (dNot (dTru (dCall 3 ph_is_within (aCons (dOp rIx (dVar 3) (dC (.int 2))) (aCons (dC (.int 1)) (aCons (dC (.int 20)) aNil)))))))) (dRet (dC (.bool false))) dNext))
    (dRet (dCall 1 ph_is_rising (aCons (dLc (iSeq (dVar 0)) (gN 3) dYes (dSl (dVar 3) oNone (oSome (dC (.int 2)))) [3]) aNil)))))
def ds_is_web : DS := (dSeq (dIfS (dOr (dNot (dTru (dCall 3 ph_is_headed (aCons (dVar 0) (aCons (dC (.str (PySem.Str.ofString "web"))) (aCons (dC (.int 3)) aNil)))))) (dNot (dTru (dCall 3 ph_is_within (aCons (dOp rIx (dVar 0) (dC (.int 1))) (aCons (dC (.int 2)) (aCons (dC (.int 8)) aNil))))))) (dRet (dC (.bool false))) dNext)
    (dSeq (dPar 1 2 (aCons (dOp rIx (dVar 0) (dC (.int 1))) (aCons (dOp rIx (dVar 0) (dC (.int 2))) aNil)))
    (dRet (dAndV (dCall 3 ph_are_rows (aCons (dVar 2) (aCons (dC (.int 14)) (aCons (dVar 1) aNil)))) (dCall 2 ph_are_joined (aCons (dLstRg1 false (dVar 1)) (aCons (dVar 2) aNil)))))))
def ds_check_web : DS := (dIfS (dNot (dTru (dCall 1 ph_is_web (aCons (dVar 0) aNil)))) dNever dNext)
def ds_check_place : DS := (dIfS (dNot (dTru (dCall 3 ph_is_within (aCons (dVar 1) (aCons (dC (.int 0)) (aCons (dOp rSub (dOp rIx (dVar 0) (dC (.int 1))) (dC (.int 1))) aNil)))))) dNever dNext)
def ds_check_two : DS := (dSeq (dDrop (dCall 1 ph_check_web (aCons (dVar 0) aNil)))
    (dSeq (dDrop (dCall 2 ph_check_place (aCons (dVar 0) (aCons (dVar 1) aNil))))
    (dSeq (dDrop (dCall 2 ph_check_place (aCons (dVar 0) (aCons (dVar 2) aNil))))
    (dIfS (dTest (dOp rEq (dVar 1) (dVar 2))) dNever dNext))))
def ds_law_pick : DS := (dRet (dOp rIx (dVar 1) (dCall 2 ph_law_draw (aCons (dVar 0) (aCons (dCB fLen (aCons (dVar 1) aNil)) aNil)))))
def ds_law_web : DS := (dSeq (dAsg dDctT 4)
    (dSeq (dFor (iRg2 (aCons (dC (.int 1)) (aCons (dVar 1) aNil))) (gN 5) (dDPutT (dVar 4) (aCons (dCall 2 ph_law_draw (aCons (dVar 0) (aCons (dVar 5) aNil))) (aCons (dVar 5) aNil)) (dOp rAdd (dC (.int 1)) (dCall 2 ph_law_draw (aCons (dVar 0) (aCons (dVar 3) aNil))))))
    (dSeq (dFor (iRg1 (aCons (dCall 2 ph_law_draw (aCons (dVar 0) (aCons (dOp rAdd (dVar 2) (dC (.int 1))) aNil))) aNil)) (gN 6) (dSeq (dAsg (dCall 2 ph_law_draw (aCons (dVar 0) (aCons (dOp rSub (dVar 1) (dC (.int 1))) aNil))) 7)
    (dDPutT (dVar 4) (aCons (dVar 7) (aCons (dOp rAdd (dOp rAdd (dVar 7) (dC (.int 1))) (dCall 2 ph_law_draw (aCons (dVar 0) (aCons (dOp rSub (dOp rSub (dVar 1) (dC (.int 1))) (dVar 7)) aNil)))) aNil)) (dOp rAdd (dC (.int 1)) (dCall 2 ph_law_draw (aCons (dVar 0) (aCons (dVar 3) aNil)))))))
    (dRet (dTup (aCons (dC (.str (PySem.Str.ofString "web"))) (aCons (dVar 1) (aCons (dCB fTuple (aCons (dLc (iSeq (dCB fSorted (aCons (dCB fListDT (aCons (dVar 4) aNil)) aNil))) (gN 8) dYes (dOp rAdd (dVar 8) (dTup (aCons (dOp rDIx (dVar 4) (dVar 8)) aNil))) [8]) aNil)) aNil))))))))
def ds_law_cuts : DS := (dSeq (dAsg (dLst (aCons (dTup aNil) aNil)) 1)
    (dSeq (dFor (iRg2 (aCons (dC (.int 1)) (aCons (dVar 0) aNil))) (gN 2) (dAsg (dOp rAdd (dVar 1) (dLc (iSeq (dVar 1)) (gN 3) dYes (dOp rAdd (dVar 3) (dTup (aCons (dVar 2) aNil))) [3])) 1))
    (dRet (dCB fSorted (aCons (dLc (iSeq (dVar 1)) (gN 3) (dTest (dOp rNe (dVar 3) (dTup aNil))) (dVar 3) [3]) aNil)))))
def ds_law_over : DS := (dRet (dCB fSum (aCons (dLc (iSeq (dVar 0)) (gN 2) (dTest (dOp rNe (dOp (wIn id) (dOp rIx (dVar 2) (dC (.int 0))) (dVar 1)) (dOp (wIn id) (dOp rIx (dVar 2) (dC (.int 1))) (dVar 1)))) (dOp rIx (dVar 2) (dC (.int 2))) [2]) aNil)))
def ds_law_side : DS := (dRet (dIf (dTest (dOp (wIn id) (dVar 2) (dVar 1))) (dVar 1) (dCB fTuple (aCons (dLc (iRg1 (aCons (dVar 0) aNil)) (gN 3) (dTest (dOp (wIn not) (dVar 3) (dVar 1))) (dVar 3) [3]) aNil))))
end WL
namespace WL
open PySem PySem.Spec PyProof.Rows L2 Evl DL
theorem rowI_inj {a b : List Int} (h : rowI a = rowI b) : a = b := (List.map_inj_right (fun _ _ h => PyData.int.inj h)).mp (PyData.tuple.inj h)
theorem ints_inj {a b : List Int} (h : a.map PyData.int = b.map PyData.int) : a = b := (List.map_inj_right (fun _ _ h => PyData.int.inj h)).mp h
theorem tieD_inj {a b : T3} (h : tieD a = tieD b) : a = b := by
  obtain ⟨a1, a2, a3⟩ := a
  obtain ⟨b1, b2, b3⟩ := b
  cases h
  rfl
theorem pairD_inj {a b : Int × Int} (h : pairD a = pairD b) : a = b := by
  obtain ⟨a1, a2⟩ := a
  obtain ⟨b1, b2⟩ := b
  cases h
  rfl
theorem ties_inj {a b : List T3} (h : a.map tieD = b.map tieD) : a = b := (List.map_inj_right (fun _ _ h => tieD_inj h)).mp h
theorem tiesD_inj {a b : List T3} (h : tiesD a = tiesD b) : a = b := ties_inj (PyData.tuple.inj h)
theorem webD_inj {m n : Int} {a b : List T3} (h : webD m a = webD n b) : m = n ∧ a = b := by
  have := PyData.tuple.inj h
  simp only [List.cons.injEq, PyData.int.injEq, and_true, true_and] at this
  exact ⟨this.1, tiesD_inj this.2⟩
theorem dr_inj {s t : PyData} {r r' : List Sl} (h : Sl.dat s :: r = Sl.dat t :: r') : s = t ∧ r = r' := by cases h; exact ⟨rfl, rfl⟩
theorem sh_row {c : List Int} : Sh 1 (rowI c) := Sh.tup fun x hx => by
  obtain ⟨i, _, rfl⟩ := List.mem_map.mp hx
  exact .int
theorem sh_ints {c : List Int} : Sh 1 (.list (c.map PyData.int)) := Sh.list fun x hx => by
  obtain ⟨i, _, rfl⟩ := List.mem_map.mp hx
  exact .int
theorem sh_pair {p : Int × Int} : Sh 1 (pairD p) := Sh.tup fun x hx => by
  simp only [List.mem_cons, List.mem_singleton, List.not_mem_nil, or_false] at hx
  rcases hx with rfl | rfl <;> exact .int
theorem sh_rows {cs : List (List Int)} : Sh 2 (.list (cs.map rowI)) := Sh.list fun x hx => by
  obtain ⟨i, _, rfl⟩ := List.mem_map.mp hx
  exact sh_row
theorem sh_none {n : Nat} : Sh n .none := ⟨rfl, Nat.zero_le _⟩
theorem any_int {c : List Int} {i : Int} : ((c.map PyData.int).any fun z => PyData.eqv z (.int i)) = decide (i ∈ c) := by
  induction c with
  | nil => rfl
  | cons a r ih =>
    rw [List.map_cons, List.any_cons, ih]
    have : PyData.eqv (.int a) (.int i) = decide (a = i) := by
      simp only [PyData.eqv]
      exact Bool.beq_eq_decide_eq a i
    rw [this]
    by_cases h : i = a
    · subst h; simp
    · have h' : ¬ a = i := fun z => h z.symm
      simp [h, h']
section
variable {μ : Mu} {Q : DQ} {c : List Int} {i j n lo hi : Int} {x y : PyData} {t : T3} {f : Bool → Bool} {ts : List T3} {w : Str}
@[simp ↓] theorem in_row : wIn f (.dat (.int i)) (.dat (rowI c)) μ Q = Q (.dat (.bool (f (decide (i ∈ c))))) μ := by
  unfold rowI
  rw [w_inT, any_int]
  exact propext ⟨fun z => z.2, fun z => ⟨⟨(Sh.int (n := 0)).ok (by decide), sh_row.ok (by decide)⟩, z⟩⟩
@[simp ↓] theorem in_ints : wIn f (.dat (.int i)) (.dat (.list (c.map PyData.int))) μ Q = Q (.dat (.bool (f (decide (i ∈ c))))) μ := by
  rw [w_inL, any_int]
  exact propext ⟨fun z => z.2, fun z => ⟨⟨(Sh.int (n := 0)).ok (by decide), sh_ints.ok (by decide)⟩, z⟩⟩
@[simp ↓] theorem ix_t0 : DL.rIx (.dat (tieD t)) (.dat (.int 0)) μ Q = Q (.dat (.int t.1)) μ := propext ⟨fun ⟨d, e, h⟩ => by cases e; exact h, fun h => ⟨_, rfl, h⟩⟩
@[simp ↓] theorem ix_t1 : DL.rIx (.dat (tieD t)) (.dat (.int 1)) μ Q = Q (.dat (.int t.2.1)) μ := propext ⟨fun ⟨d, e, h⟩ => by cases e; exact h, fun h => ⟨_, rfl, h⟩⟩
@[simp ↓] theorem ix_t2 : DL.rIx (.dat (tieD t)) (.dat (.int 2)) μ Q = Q (.dat (.int t.2.2)) μ := propext ⟨fun ⟨d, e, h⟩ => by cases e; exact h, fun h => ⟨_, rfl, h⟩⟩
@[simp ↓] theorem ix_p0 {p : Int × Int} : DL.rIx (.dat (pairD p)) (.dat (.int 0)) μ Q = Q (.dat (.int p.1)) μ := propext ⟨fun ⟨d, e, h⟩ => by cases e; exact h, fun h => ⟨_, rfl, h⟩⟩
@[simp ↓] theorem ix_p1 {p : Int × Int} : DL.rIx (.dat (pairD p)) (.dat (.int 1)) μ Q = Q (.dat (.int p.2)) μ := propext ⟨fun ⟨d, e, h⟩ => by cases e; exact h, fun h => ⟨_, rfl, h⟩⟩
@[simp ↓] theorem ix_w0 : DL.rIx (.dat (webD n ts)) (.dat (.int 0)) μ Q = Q (.dat (.str (PySem.Str.ofString "web"))) μ := propext ⟨fun ⟨d, e, h⟩ => by cases e; exact h, fun h => ⟨_, rfl, h⟩⟩
@[simp ↓] theorem ix_w1 : DL.rIx (.dat (webD n ts)) (.dat (.int 1)) μ Q = Q (.dat (.int n)) μ := propext ⟨fun ⟨d, e, h⟩ => by cases e; exact h, fun h => ⟨_, rfl, h⟩⟩
@[simp ↓] theorem ix_w2 : DL.rIx (.dat (webD n ts)) (.dat (.int 2)) μ Q = Q (.dat (tiesD ts)) μ := propext ⟨fun ⟨d, e, h⟩ => by cases e; exact h, fun h => ⟨_, rfl, h⟩⟩
theorem atI0 {α : Type} {x : α} {r : List α} : atI (x :: r) 0 = some x := atI_nat (xs := x :: r) (j := 0) rfl
theorem atI1 {α : Type} {x y : α} {r : List α} : atI (x :: y :: r) 1 = some y := atI_nat (xs := x :: y :: r) (j := 1) rfl
theorem rix_t {ds : List PyData} {d : PyData} (e : atI ds i = some d) : DL.rIx (.dat (.tuple ds)) (.dat (.int i)) μ Q = Q (.dat d) μ := by
  simp only [DL.rIx, e_rdD, e, Option.some.injEq, exists_eq_left', e_eltD]
@[simp ↓] theorem ix_0 {r : List PyData} : DL.rIx (.dat (.tuple (x :: r))) (.dat (.int 0)) μ Q = Q (.dat x) μ := rix_t atI0
@[simp ↓] theorem ix_1 {r : List PyData} : DL.rIx (.dat (.tuple (x :: y :: r))) (.dat (.int 1)) μ Q = Q (.dat y) μ := rix_t atI1
@[simp ↓] theorem c_is_integer : ph_is_integer [.dat x] μ Q = Q (.dat (.bool (isW x))) μ := propext ⟨fun ⟨_, e, h⟩ => by cases e; exact h, fun h => ⟨_, rfl, h⟩⟩
@[simp ↓] theorem c_is_within : ph_is_within [.dat x, .dat (.int lo), .dat (.int hi)] μ Q = Q (.dat (.bool (withinB x lo hi))) μ := propext ⟨fun ⟨_, _, _, e, h⟩ => by cases e; exact h, fun h => ⟨_, _, _, rfl, h⟩⟩
@[simp ↓] theorem c_is_tuple_of : ph_is_tuple_of [.dat x, .dat (.int n)] μ Q = Q (.dat (.bool (tupOfB x n))) μ := propext ⟨fun ⟨_, _, e, h⟩ => by cases e; exact h, fun h => ⟨_, _, rfl, h⟩⟩
@[simp ↓] theorem c_is_headed : ph_is_headed [.dat x, .dat (.str w), .dat (.int n)] μ Q = (1 ≤ n ∧ Q (.dat (.bool (headB x w n))) μ) := propext ⟨fun ⟨_, _, _, e, h⟩ => by cases e; exact h, fun h => ⟨_, _, _, rfl, h⟩⟩
@[simp ↓] theorem c_far_end : ph_far_end [.dat (tieD t), .dat (.int i)] μ Q = Q (.dat (farD t i)) μ := propext ⟨fun ⟨_, _, e, h⟩ => by
  obtain ⟨e1, e2⟩ := dr_inj e
  cases tieD_inj e1
  cases e2
  exact h, fun h => ⟨_, _, rfl, h⟩⟩
@[simp ↓] theorem c_is_pair {r : List PyData} : ph_is_pair [.dat (.tuple (x :: y :: r)), .dat (.int n)] μ Q = Q (.dat (.bool (pairB x y n))) μ := propext ⟨fun ⟨_, _, _, _, e, h⟩ => by cases e; exact h, fun h => ⟨_, _, _, _, rfl, h⟩⟩
@[simp ↓] theorem c_is_pairT : ph_is_pair [.dat (tieD t), .dat (.int n)] μ Q = Q (.dat (.bool (pairB (.int t.1) (.int t.2.1) n))) μ := c_is_pair
@[simp ↓] theorem c_check_web : ph_check_web [.dat (webD n ts)] μ Q = (WebOk n ts ∧ Q (.dat .none) μ) := propext ⟨fun ⟨_, _, e, h⟩ => by
  obtain ⟨rfl, rfl⟩ := webD_inj (dr_inj e).1
  exact h, fun h => ⟨_, _, rfl, h⟩⟩
@[simp ↓] theorem c_is_web : ph_is_web [.dat (webD n ts)] μ Q = (WebOk n ts ∧ Q (.dat (.bool true)) μ) := propext ⟨fun ⟨_, _, e, h⟩ => by
  obtain ⟨rfl, rfl⟩ := webD_inj (dr_inj e).1
  exact h, fun h => ⟨_, _, rfl, h⟩⟩
@[simp ↓] theorem c_check_place : ph_check_place [.dat (webD n ts), .dat (.int i)] μ Q = ((0 ≤ i ∧ i < n) ∧ Q (.dat .none) μ) := propext ⟨fun ⟨_, _, _, e, h⟩ => by
  obtain ⟨e1, e2⟩ := dr_inj e
  obtain ⟨rfl, rfl⟩ := webD_inj e1
  cases e2
  exact h, fun h => ⟨_, _, _, rfl, h⟩⟩
@[simp ↓] theorem c_check_two : ph_check_two [.dat (webD n ts), .dat (.int i), .dat (.int j)] μ Q = ((WebOk n ts ∧ (0 ≤ i ∧ i < n) ∧ (0 ≤ j ∧ j < n) ∧ i ≠ j) ∧ Q (.dat .none) μ) := propext ⟨fun ⟨_, _, _, _, e, h⟩ => by
  obtain ⟨e1, e2⟩ := dr_inj e
  obtain ⟨rfl, rfl⟩ := webD_inj e1
  cases e2
  exact h, fun h => ⟨_, _, _, _, rfl, h⟩⟩
@[simp ↓] theorem c_cuts_of_many {n : Nat} : ph_cuts_of_many [.dat (.int (n : Int))] μ Q = ((2 ≤ n ∧ n ≤ 8) ∧ Q (.dat (.list ((cutsL n).map rowI))) μ) := propext ⟨fun ⟨_, e, h⟩ => by
  have : n = _ := Int.ofNat.inj (PyData.int.inj (dr_inj e).1)
  subst this
  exact h, fun h => ⟨_, rfl, h⟩⟩
@[simp ↓] theorem c_is_across : ph_is_across [.dat (rowI c), .dat (tieD t)] μ Q = (SmallL c ∧ Q (.dat (.bool (acrossB c t))) μ) := propext ⟨fun ⟨_, s, t', e, hs, h⟩ => by
  obtain ⟨e1, e2⟩ := dr_inj e
  cases rowI_inj e1
  rcases hs with rfl | rfl
  · cases tieD_inj (dr_inj e2).1
    exact h
  · exact absurd (congrArg (fun d => match d with | PyData.tuple ds => ds.length | _ => 0) (dr_inj e2).1) (by simp [tieD, pairD]), fun h => ⟨_, _, _, rfl, .inl rfl, h⟩⟩
@[simp ↓] theorem c_is_acrossP {p : Int × Int} : ph_is_across [.dat (rowI c), .dat (pairD p)] μ Q = (SmallL c ∧ Q (.dat (.bool (acrossB c (p.1, p.2, 0)))) μ) := propext ⟨fun ⟨_, s, t', e, hs, h⟩ => by
  obtain ⟨e1, e2⟩ := dr_inj e
  cases rowI_inj e1
  rcases hs with rfl | rfl
  · exact absurd (congrArg (fun d => match d with | PyData.tuple ds => ds.length | _ => 0) (dr_inj e2).1) (by simp [tieD, pairD])
  · cases pairD_inj (dr_inj e2).1
    exact h, fun h => ⟨_, _, (p.1, p.2, 0), rfl, .inr rfl, h⟩⟩
@[simp ↓] theorem c_sum_across : ph_sum_across [.dat (tiesD ts), .dat (rowI c)] μ Q = ((SmallL c ∧ ts.length ≤ 100) ∧ Q (.dat (.int (roomL ts c))) μ) := propext ⟨fun ⟨_, _, e, h⟩ => by
  obtain ⟨e1, e2⟩ := dr_inj e
  cases tiesD_inj e1
  cases rowI_inj (dr_inj e2).1
  exact h, fun h => ⟨_, _, rfl, h⟩⟩
@[simp ↓] theorem c_law_over : ph_law_over [.dat (tiesD ts), .dat (rowI c)] μ Q = ((SmallL c ∧ ts.length ≤ 100) ∧ Q (.dat (.int (roomL ts c))) μ) := c_sum_across
@[simp ↓] theorem c_law_cuts {n : Nat} : ph_law_cuts [.dat (.int (n : Int))] μ Q = ((2 ≤ n ∧ n ≤ 8) ∧ Q (.dat (.list ((cutsL n).map rowI))) μ) := c_cuts_of_many
theorem sq1_inj {s : Sl} {c d : List Int} (h : Sq1 s c) (g : Sq1 s d) : c = d := by
  rcases h with rfl | rfl <;> rcases g with e | e
  · exact rowI_inj (Sl.dat.inj e)
  · cases e
  · cases e
  · exact ints_inj (PyData.list.inj (Sl.dat.inj e))
theorem c_places_beyond {s : Sl} (hs : Sq1 s c) : ph_places_beyond [.dat (.int n), s] μ Q = ((SmallL c ∧ 0 ≤ n ∧ n ≤ 100) ∧ Q (.dat (.list ((beyondL n c).map PyData.int))) μ) := propext ⟨fun ⟨_, _, _, e, hs', h⟩ => by
  cases e
  cases sq1_inj hs hs'
  exact h, fun h => ⟨_, _, _, rfl, hs, h⟩⟩
@[simp ↓] theorem c_places_beyondR : ph_places_beyond [.dat (.int n), .dat (rowI c)] μ Q = ((SmallL c ∧ 0 ≤ n ∧ n ≤ 100) ∧ Q (.dat (.list ((beyondL n c).map PyData.int))) μ) := c_places_beyond (.inl rfl)
@[simp ↓] theorem c_places_beyondL : ph_places_beyond [.dat (.int n), .dat (.list (c.map PyData.int))] μ Q = ((SmallL c ∧ 0 ≤ n ∧ n ≤ 100) ∧ Q (.dat (.list ((beyondL n c).map PyData.int))) μ) := c_places_beyond (.inr rfl)
@[simp ↓] theorem c_cut_with_side : ph_cut_with_side [.dat (.int n), .dat (.list (c.map PyData.int))] μ Q = ((SmallL c ∧ c.Pairwise (· < ·) ∧ 0 ≤ n ∧ n ≤ 100) ∧ Q (.dat (rowI (cutSide n c))) μ) := propext ⟨fun ⟨_, _, e, h⟩ => by
  obtain ⟨e1, e2⟩ := dr_inj e
  cases e1
  cases ints_inj (PyData.list.inj (dr_inj e2).1)
  exact h, fun h => ⟨_, _, rfl, h⟩⟩
@[simp ↓] theorem c_side_with : ph_side_with [.dat (.int n), .dat (rowI c), .dat (.int i)] μ Q = ((SmallL c ∧ 0 ≤ n ∧ n ≤ 100) ∧ Q (.dat (.list ((sideW n c i).map PyData.int))) μ) := propext ⟨fun ⟨_, _, _, e, h⟩ => by
  obtain ⟨e1, e2⟩ := dr_inj e
  cases e1
  obtain ⟨e3, e4⟩ := dr_inj e2
  cases rowI_inj e3
  cases e4
  exact h, fun h => ⟨_, _, _, rfl, h⟩⟩
@[simp ↓] theorem c_law_side : ph_law_side [.dat (.int n), .dat (rowI c), .dat (.int i)] μ Q = ((SmallL c ∧ 0 ≤ n ∧ n ≤ 100) ∧ Q (.dat (rowI (sideW n c i))) μ) := propext ⟨fun ⟨_, _, _, e, h⟩ => by
  obtain ⟨e1, e2⟩ := dr_inj e
  cases e1
  obtain ⟨e3, e4⟩ := dr_inj e2
  cases rowI_inj e3
  cases e4
  exact h, fun h => ⟨_, _, _, rfl, h⟩⟩
variable {k : Nat}
@[simp ↓] theorem c_law_draw : ph_law_draw [.cell k, .dat (.int n)] μ Q = (Pot μ k ∧ (0 < n ∧ n < 2 ^ 100) ∧ ∀ x μ', 0 ≤ x → x < n → Ch k μ μ' → Q (.dat (.int x)) μ') := propext ⟨fun ⟨_, _, e, h⟩ => by cases e; exact h, fun h => ⟨_, _, rfl, h⟩⟩
@[simp ↓] theorem c_law_pick {ds : List PyData} : ph_law_pick [.cell k, .dat (.list ds)] μ Q = (Pot μ k ∧ (0 < ds.length ∧ ds.length ≤ 1000) ∧ ∀ x μ', x ∈ ds → Ch k μ μ' → Q (.dat x) μ') := propext ⟨fun ⟨_, _, e, h⟩ => by cases e; exact h, fun h => ⟨_, _, rfl, h⟩⟩
@[simp ↓] theorem c_law_web {further room : Int} : ph_law_web [.cell k, .dat (.int n), .dat (.int further), .dat (.int room)] μ Q = (Pot μ k ∧ ((2 ≤ n ∧ n ≤ 8) ∧ (0 ≤ further ∧ further + n ≤ 15) ∧ (1 ≤ room ∧ room ≤ 20)) ∧
  ∀ ts μ', WebOk n ts → (∀ t ∈ ts, t.2.2 ≤ room) → Ch k μ μ' → Q (.dat (webD n ts)) μ') := propext ⟨fun ⟨_, _, _, _, e, h⟩ => by cases e; exact h, fun h => ⟨_, _, _, _, rfl, h⟩⟩
@[simp ↓] theorem c_law_pot {ns : List Int} : ph_law_pot [.dat (.list (ns.map PyData.int)), .dat (.int n)] μ Q = ((0 ≤ n ∧ n ≤ 100) ∧ ∀ p0 p1 : Int, 0 ≤ p0 → 0 ≤ p1 → p1 < 2 ^ 40 → Q (.cell μ.length) (μ ++ [.lst [.int p0, .int p1]])) :=
  propext ⟨fun ⟨_, _, e, h⟩ => by
    obtain ⟨e1, e2⟩ := dr_inj e
    cases ints_inj (PyData.list.inj e1)
    cases e2
    exact h, fun h => ⟨_, _, rfl, h⟩⟩
end
end WL
namespace WL
open PySem PySem.Spec PyProof.Rows L2 Evl DL
@[simp ↓ high] theorem o_rowT {c : List Int} {μ : Mu} {Q : DQ} : fTuple [.dat (.list (c.map PyData.int))] μ Q = Q (.dat (rowI c)) μ := rfl
@[simp ↓ high] theorem o_listR {c : List Int} {μ : Mu} {Q : DQ} : fList [.dat (rowI c)] μ Q = Q (.dat (.list (c.map PyData.int))) μ := rfl
theorem sz : ∀ {n : Nat}, n ≤ 1000 → n ≤ sizeLine := fun h => small_sz h
theorem pu_is_integer : Pure ["value"] 1 ph_is_integer ds_is_integer := by
  intro ss μ Q' hl h
  obtain ⟨d, rfl, h⟩ := h
  cases d <;> simpa [ds_is_integer, startD, isTy, isW] using h
theorem pu_is_within : Pure ["value", "least", "most"] 3 ph_is_within ds_is_within := by
  intro ss μ Q' hl h
  obtain ⟨d, lo, hi, rfl, h⟩ := h
  cases d with
  | int i =>
    simp [ds_is_within, startD, isW]
    by_cases c : lo ≤ i <;> simpa [c, withinB] using h
  | _ => simpa [ds_is_within, startD, isW, withinB] using h
theorem pu_is_tuple_of : Pure ["value", "many"] 2 ph_is_tuple_of ds_is_tuple_of := by
  intro ss μ Q' hl h
  obtain ⟨d, n, rfl, h⟩ := h
  cases d <;> simpa [ds_is_tuple_of, startD, isTy, tupOfB] using h
theorem pu_is_headed : Pure ["value", "word", "many"] 3 ph_is_headed ds_is_headed := by
  intro ss μ Q' hl h
  obtain ⟨d, w, n, rfl, hn, h⟩ := h
  cases d with
  | tuple ds =>
    by_cases c : (ds.length : Int) = n
    · cases ds with
      | nil => simp at c; omega
      | cons x r =>
        rw [List.length_cons] at c
        have e : tupOfB (.tuple (x :: r)) n = true := by
          simp only [tupOfB, List.length_cons]
          exact decide_eq_true c
        cases x with
        | str z =>
          have e2 : headB (.tuple (.str z :: r)) w n = decide (z = w) := by
            simp only [headB, decide_eq_true c, Bool.true_and]
          rw [e2] at h
          simpa [ds_is_headed, startD, e, isTy, DL.rEq, eqD] using h
        | _ => simpa [ds_is_headed, startD, e, isTy, headB] using h
    · have e : tupOfB (.tuple ds) n = false := decide_eq_false c
      have e2 : headB (.tuple ds) w n = false := by
        unfold headB
        split
        · rename_i z r he
          cases he
          rw [decide_eq_false (by simpa using c), Bool.false_and]
        · rfl
      rw [e2] at h
      simpa [ds_is_headed, startD, e] using h
  | _ => simpa [ds_is_headed, startD, tupOfB, headB] using h
theorem pu_far_end : Pure ["link", "place"] 2 ph_far_end ds_far_end := by
  intro ss μ Q' hl h
  obtain ⟨t, p, rfl, h⟩ := h
  simp [ds_far_end, startD]
  unfold farD at h
  by_cases c : t.1 = p
  · rw [if_pos c] at h
    simpa [c] using h
  · rw [if_neg c] at h
    by_cases c2 : t.2.1 = p
    · rw [if_pos c2] at h
      simpa [c, c2] using h
    · rw [if_neg c2] at h
      simpa [c, c2] using h
theorem pu_is_pair : Pure ["value", "many"] 2 ph_is_pair ds_is_pair := by
  intro ss μ Q' hl h
  obtain ⟨x, y, r, many, rfl, h⟩ := h
  simp [ds_is_pair, startD]
  unfold pairB at h
  cases c1 : withinB x 0 (many - 1)
  · simpa [c1] using h
  · rw [c1] at h
    cases c2 : withinB y 0 (many - 1)
    · simpa [c1, c2] using h
    · rw [c2] at h
      cases x with
      | int i =>
        cases y with
        | int j => simpa [c1, c2] using h
        | _ => exact absurd c2 Bool.false_ne_true
      | _ => exact absurd c1 Bool.false_ne_true
theorem iSeq_ties {i : Nat} {ρ : Rho} {μ : Mu} {ts : List T3} (h : ρ[i]? = some (some (.dat (tiesD ts)))) : ∃ C : Mu → Prop, C μ ∧ (∀ ν, C (μ ++ ν)) ∧ ∀ R, iSeq (dVar i) ρ μ R = R ((ts.map tieD).map .dat) C μ := iSeq_ok h .dt
theorem lc_gen {α β : Type} (enc : α → PyData) (p : α → Bool) (f : α → PyData) {i : DI} {g : DG} {t : DT} {e : DE} {vs : List Nat} {ρ : Rho} {μ : Mu} {Q : DQ} {C : Mu → Prop} {xs : List α} (hi : ∀ R, i ρ μ R = R ((xs.map enc).map .dat) C μ) (hC : ∀ acc, C (μ ++ [Cell.lst acc])) (hl : xs.length ≤ sizeLine)
    (hs : ∀ x ∈ xs, ∀ (acc : List PyData) (R : Mu → Prop), (g (.dat (enc x)) (wipeD ρ vs) (μ ++ [Cell.lst acc]) fun ρ1 μ1 => t ρ1 μ1 fun b μ2 => if b = true then e ρ1 μ2 fun v μ3 => addTo μ.length v μ3 R else R μ2) = if p x = true then addTo μ.length (.dat (f x)) (μ ++ [Cell.lst acc]) R else R (μ ++ [Cell.lst acc])) :
    dLc i g t e vs ρ μ Q = Q (.dat (.list ((xs.filter p).map f))) μ := by
  show i ρ μ _ = _
  rw [hi]
  suffices key : ∀ (xs : List α) (acc : List PyData), acc.length + xs.length ≤ sizeLine → (∀ x ∈ xs, ∀ (acc : List PyData) (R : Mu → Prop), (g (.dat (enc x)) (wipeD ρ vs) (μ ++ [Cell.lst acc]) fun ρ1 μ1 => t ρ1 μ1 fun b μ2 => if b = true then e ρ1 μ2 fun v μ3 => addTo μ.length v μ3 R else R μ2) = if p x = true then addTo μ.length (.dat (f x)) (μ ++ [Cell.lst acc]) R else R (μ ++ [Cell.lst acc])) →
      lcD C g t e μ.length (frzQ μ.length Q) (wipeD ρ vs) ((xs.map enc).map .dat) (μ ++ [Cell.lst acc]) = frzQ μ.length Q (μ ++ [Cell.lst (acc ++ (xs.filter p).map f)]) by
    have := key xs [] (by simpa using hl) hs
    rw [List.nil_append] at this
    exact this.trans frz_end
  intro xs
  induction xs with
  | nil =>
    intro acc _ _
    show (C _ ∧ _) = _
    rw [List.filter_nil, List.map_nil, List.append_nil]
    exact propext ⟨fun z => z.2, fun z => ⟨hC acc, z⟩⟩
  | cons x xs ih =>
    intro acc hl hs
    rw [List.length_cons] at hl
    show (C _ ∧ g (.dat (enc x)) _ (μ ++ [Cell.lst acc]) _) = _
    rw [hs x (List.mem_cons_self ..) acc]
    have ih := fun a h => ih a h fun y hy => hs y (List.mem_cons_of_mem _ hy)
    by_cases hp : p x = true
    · rw [if_pos hp, addTo_end (by omega), ih _ (by rw [List.length_append, List.length_singleton]; omega), List.filter_cons_of_pos hp, List.map_cons, List.append_assoc]
      exact propext ⟨fun z => z.2, fun z => ⟨hC acc, z⟩⟩
    · rw [if_neg hp, ih _ (by omega), List.filter_cons_of_neg hp]
      exact propext ⟨fun z => z.2, fun z => ⟨hC acc, z⟩⟩
theorem rNeB {a b : Bool} {μ : Mu} {Q : DQ} : DL.rNe (.dat (.bool a)) (.dat (.bool b)) μ Q = Q (.dat (.bool (a != b))) μ := by
  show Q (.dat (.bool (!decide (a = b)))) μ = _
  cases a <;> cases b <;> rfl
theorem pu_law_over : Pure ["rows", "cut", "row"] 2 ph_law_over ds_law_over := by
  intro ss μ Q' hl h
  obtain ⟨ts, c, rfl, ⟨hc, ht⟩, h⟩ := h
  obtain ⟨C, c0, c1, ci⟩ := iSeq_ties (i := 0) (ρ := [some (.dat (tiesD ts)), some (.dat (rowI c)), none]) (μ := μ) rfl
  have L := fun Q => lc_gen (β := Unit) tieD (acrossB c) (fun t => .int t.2.2) (g := gN 2) (t := dTest (dOp DL.rNe (dOp (wIn id) (dOp DL.rIx (dVar 2) (dC (.int 0))) (dVar 1)) (dOp (wIn id) (dOp DL.rIx (dVar 2) (dC (.int 1))) (dVar 1)))) (e := dOp DL.rIx (dVar 2) (dC (.int 2))) (vs := [2]) (Q := Q) ci (fun _ => c1 _) (sz (by omega)) (fun x hx acc R => by
    simp [wipeD, rNeB, acrossB])
  have e : (ts.filter (acrossB c)).map (fun t => PyData.int t.2.2) = ((ts.filter (acrossB c)).map (·.2.2)).map PyData.int := by rw [List.map_map]; rfl
  rw [e] at L
  simpa [ds_law_over, startD, L, roomL, -List.map_map] using h
theorem pu_check_web : Pure ["web"] 1 ph_check_web ds_check_web := by
  intro ss μ Q' hl h
  obtain ⟨n, ts, rfl, hw, h⟩ := h
  simpa [ds_check_web, startD, hw] using h
theorem pu_law_pick : Pure ["pot", "some"] 2 ph_law_pick ds_law_pick := by
  intro ss μ Q' hl h
  obtain ⟨k, ds, rfl, hp, hs, h⟩ := h
  simp [ds_law_pick, startD, hp, hs]
  refine ⟨by omega, fun x μ' h0 h1 hc => ?_⟩
  obtain ⟨d, hd, e⟩ := atI_lt h0 h1
  rw [rix_l e]
  show Q' (.dat d) (μ'.take μ.length)
  rw [List.take_of_length_le (by rw [hc.2.1]; exact Nat.le_refl _)]
  exact h d μ' hd hc
end WL
namespace WL
open PySem PySem.Spec PyProof.Rows L2 Evl DL
open PySem.W (dataLt dataLe alike alikeAll AllAlike Sortable)
theorem for_fold {C : Mu → Prop} {g : DG} {b : DS} {D : DEnds} {α β : Type} (enc : β → PyData) (F : β → α → α) (st : Option Sl → α → Rho) (P : α → Prop) {μ : Mu} (hC : C μ) : ∀ (xs : List β) (v : Option Sl) (a : α),
    (∀ x ∈ xs, ∀ v a, P a → P (F x a) ∧ ∃ v', ∀ N : Rho → Mu → Prop, N (st v' (F x a)) μ → g (.dat (enc x)) (st v a) μ fun ρ1 μ1 => b { D with nx := N, ct := N, bk := D.nx } ρ1 μ1) → P a →
    (∀ v, D.nx (st v (xs.foldl (fun a x => F x a) a)) μ) → forD C g b D ((xs.map enc).map .dat) (st v a) μ
  | [], v, a, _, _, h => ⟨hC, h v⟩
  | x :: xs, v, a, hs, hp, h => by
    obtain ⟨hp', v', hv⟩ := hs x (List.mem_cons_self ..) v a hp
    exact ⟨hC, hv _ (for_fold enc F st P hC xs v' (F x a) (fun y hy => hs y (List.mem_cons_of_mem _ hy)) hp' h)⟩
theorem for_rg {C : Mu → Prop} {g : DG} {b : DS} {D : DEnds} (st : Nat → Option Sl → Rho) {μ : Mu} (hC : C μ) {lo : Int} {n : Nat}
    (step : ∀ i, i < n → ∀ v, ∃ v', ∀ N : Rho → Mu → Prop, N (st (i + 1) v') μ → g (.dat (.int (lo + (i : Nat)))) (st i v) μ fun ρ1 μ1 => b { D with nx := N, ct := N, bk := D.nx } ρ1 μ1)
    (h : ∀ v, D.nx (st n v) μ) (v : Option Sl) : forD C g b D (rgI lo n) (st 0 v) μ := by
  have key : ∀ m k v, k + m = n → forD C g b D ((List.range' k m).map fun (i : Nat) => Sl.dat (.int (lo + (i : Int)))) (st k v) μ := by
    intro m
    induction m with
    | zero =>
      intro k v e
      have : k = n := by omega
      subst this
      exact ⟨hC, h v⟩
    | succ m ih =>
      intro k v e
      rw [List.range'_succ, List.map_cons]
      obtain ⟨v', hv⟩ := step k (by omega) v
      exact ⟨hC, hv _ (ih (k + 1) v' (by omega))⟩
  have := key n 0 v (by omega)
  unfold rgI
  rw [List.range_eq_range']
  exact this
theorem w_lt {d e : PyData} (h : OrdOk d e) {μ : Mu} {Q : DQ} : wLt (.dat d) (.dat e) μ Q = Q (.dat (.bool (dataLt d e))) μ := by
  obtain ⟨h1, h2, h3⟩ := h
  have gen : ∀ {z : Prop}, ((OrdOk d e) ∧ z) = z := fun {z} => propext ⟨fun q => q.2, fun q => ⟨⟨h1, h2, h3⟩, q⟩⟩
  cases d with
  | none => exact absurd rfl h2
  | int i =>
    cases e with
    | int j => rw [PySem.W.dataLt_int]; rfl
    | _ => exact absurd h1 (by simp [alike])
  | str i =>
    cases e with
    | str j => rw [PySem.W.dataLt_str]; rfl
    | _ => exact absurd h1 (by simp [alike])
  | bool i => exact gen
  | list i => exact gen
  | tuple i => exact gen
  | dict i => exact absurd h1 (by cases e <;> simp [alike])
theorem ord_int {i j : Int} : OrdOk (.int i) (.int j) := ⟨rfl, (fun h => by cases h), Nat.zero_le _⟩
theorem alike_pair {p q : Int × Int} : alike (pairD p) (pairD q) = true := by simp [pairD, alike, alikeAll]
theorem ord_pair {p q : Int × Int} : OrdOk (pairD p) (pairD q) := ⟨alike_pair, (fun h => by cases h), Nat.le_trans sh_pair.2 (by decide)⟩
theorem alike_row {a b : List Int} : alike (rowI a) (rowI b) = true := by
  unfold rowI
  simp only [alike]
  exact PySem.W.alike_ints a b
theorem ord_row {a b : List Int} : OrdOk (rowI a) (rowI b) := ⟨alike_row, (fun h => by cases h), Nat.le_trans sh_row.2 (by decide)⟩
theorem lt_pair {p q : Int × Int} : dataLt (pairD p) (pairD q) = decide (lexP p q) := PySem.W.dataLt_ii p.1 p.2 q.1 q.2
theorem lt_row {a b : List Int} : dataLt (rowI a) (rowI b) = ltL a b := by
  unfold rowI
  rw [PySem.W.dataLt_tuple]
  exact PySem.W.dataLt_ints a b
theorem cut1 {ds : List PyData} : DL.cutD ds (some 1) none = ds.drop 1 := by
  unfold DL.cutD
  have e1 : HT.sIx ds.length 0 (some 1) = min 1 ds.length := by
    unfold HT.sIx
    simp
  have e2 : HT.sIx ds.length ds.length none = ds.length := rfl
  rw [e1, e2]
  cases ds with
  | nil => rfl
  | cons x r =>
    have : min 1 (x :: r).length = 1 := by rw [List.length_cons]; omega
    rw [this, List.take_of_length_le]
    rw [List.length_drop]
    exact Nat.le_refl _
theorem zw_pairs : ∀ {ds es : List PyData}, List.zipWith (fun d e => PyData.tuple [d, e]) ds es = (ds.zip es).map fun p => .tuple [p.1, p.2]
  | [], _ => rfl
  | _ :: _, [] => rfl
  | d :: ds, e :: es => by rw [List.zipWith_cons_cons, List.zip_cons_cons, List.map_cons, zw_pairs]
theorem next_zip : ∀ {ds : List PyData}, NextOk ds → ∀ p ∈ ds.zip (ds.drop 1), OrdOk p.1 p.2
  | [], _, p, h => by cases h
  | [a], _, p, h => by cases h
  | a :: b :: r, hn, p, h => by
    rw [show (a :: b :: r).drop 1 = b :: r from rfl, List.zip_cons_cons] at h
    rcases List.mem_cons.mp h with rfl | h
    · exact hn.1
    · exact next_zip hn.2 p h
theorem rising_zip : ∀ {ds : List PyData}, ((ds.zip (ds.drop 1)).map fun p => dataLt p.1 p.2).all id = risingB ds
  | [] => rfl
  | [a] => rfl
  | a :: b :: r => by
    rw [show (a :: b :: r).drop 1 = b :: r from rfl, List.zip_cons_cons, List.map_cons, List.all_cons]
    have := rising_zip (ds := b :: r)
    rw [show (b :: r).drop 1 = r from rfl] at this
    rw [this]
    rfl
theorem pu_is_rising : Pure ["row", "low", "high"] 1 ph_is_rising ds_is_rising := by
  intro ss μ Q' hl h
  obtain ⟨s, ds, rfl, hs, hn, hlen, h⟩ := h
  have ci : ∃ C : Mu → Prop, (∀ ν, C ν) ∧ ∀ R, iZp (aCons (dVar 0) (aCons (dSl (dVar 0) (oSome (dC (.int 1))) oNone) aNil)) [some s, none, none] μ R = R (((ds.zip (ds.drop 1)).map fun p => PyData.tuple [p.1, p.2]).map .dat) C μ := by
    rw [← zw_pairs]
    rcases hs with rfl | rfl
    · refine ⟨fun ν => rd ν (.dat (.list ds)) = some (.list ds) ∧ rd ν (.dat (.list (ds.drop 1))) = some (.list (ds.drop 1)), fun _ => ⟨rfl, rfl⟩, fun R => ?_⟩
      have z : zipS (.dat (.list ds)) (.dat (.list (ds.drop 1))) ds (ds.drop 1) = _ := zipS_dat
      rw [← z]
      show iZp _ _ _ _ = _
      unfold iZp dSl oSome oNone rSl
      simp only [e_aCons, e_aNil, e_dVar, List.getElem?_cons_zero, e_dC, e_rdD, cut1, e_isVd, e_mkF]
    · refine ⟨fun _ => True, fun _ => trivial, fun R => ?_⟩
      have z : zipS (.dat (.tuple ds)) (.dat (.tuple (ds.drop 1))) ds (ds.drop 1) = _ := zipS_dat
      rw [← z]
      show iZp _ _ _ _ = _
      unfold iZp dSl oSome oNone rSl
      simp only [e_aCons, e_aNil, e_dVar, List.getElem?_cons_zero, e_dC, e_rdD, cut1, e_isVd, e_mkF]
  obtain ⟨C, hC, ci⟩ := ci
  have L := fun Q => lc_gen (β := Unit) (xs := ds.zip (ds.drop 1)) (fun p => PyData.tuple [p.1, p.2]) (fun _ => true) (fun p => .bool (dataLt p.1 p.2)) (g := gT 2 (gsCons (gN 1) (gsCons (gN 2) gsNil))) (t := dYes) (e := dOp wLt (dVar 1) (dVar 2)) (vs := [1, 2]) (Q := Q) ci (fun acc => hC _) (sz (by rw [List.length_zip]; omega)) (fun x hx acc R => by
    simp [wipeD, w_lt (next_zip hn x hx), dYes])
  have e : ((ds.zip (ds.drop 1)).filter fun _ => true).map (fun p => PyData.bool (dataLt p.1 p.2)) = ((ds.zip (ds.drop 1)).map fun p => dataLt p.1 p.2).map PyData.bool := by
    rw [List.filter_eq_self.mpr (fun _ _ => rfl), List.map_map]
    rfl
  rw [e] at L
  have e3 : (((ds.zip (ds.drop 1)).map fun p => dataLt p.1 p.2)).all id = risingB ds := rising_zip
  generalize ((ds.zip (ds.drop 1)).map fun p => dataLt p.1 p.2) = bs at L e3
  rw [← e3] at h
  simpa [ds_is_rising, startD, L, -List.map_map] using h
end WL
namespace WL
open PySem PySem.Spec PyProof.Rows L2 Evl DL
open PySem.W (dataLt dataLe alike alikeAll AllAlike Sortable)
theorem c_is_rising {s : Sl} {ds : List PyData} {μ : Mu} {Q : DQ} (hs : s = .dat (.list ds) ∨ s = .dat (.tuple ds)) (hn : NextOk ds) (hl : ds.length ≤ 1000) (h : Q (.dat (.bool (risingB ds))) μ) : ph_is_rising [s] μ Q := ⟨s, ds, rfl, hs, hn, hl, h⟩
theorem next_pairs : ∀ {ps : List (Int × Int)}, NextOk (ps.map pairD)
  | [] => trivial
  | [_] => trivial
  | _ :: q :: r => ⟨ord_pair, next_pairs (ps := q :: r)⟩
theorem next_ints : ∀ {ps : List Int}, NextOk (ps.map PyData.int)
  | [] => trivial
  | [_] => trivial
  | _ :: q :: r => ⟨ord_int, next_ints (ps := q :: r)⟩
theorem rising_pairs : ∀ {ps : List (Int × Int)}, ps.Pairwise lexP → risingB (ps.map pairD) = true
  | [], _ => rfl
  | [_], _ => rfl
  | p :: q :: r, h => by
    show (dataLt (pairD p) (pairD q) && risingB ((q :: r).map pairD)) = true
    rw [lt_pair, rising_pairs (ps := q :: r) (List.pairwise_cons.mp h).2, Bool.and_true]
    exact decide_eq_true ((List.pairwise_cons.mp h).1 q (List.mem_cons_self ..))
theorem pu_are_rows : Pure ["value", "most", "many", "row"] 3 ph_are_rows ds_are_rows := by
  intro ss μ Q' hl h
  obtain ⟨ts, most, many, rfl, ⟨ok, hm⟩, h⟩ := h
  have e1 : isTy .tup (tiesD ts) = true := rfl
  have l1 : (1 : Int) ≤ ts.length := by have := ok.one; omega
  have l2 : (ts.length : Int) ≤ (most : Int) := by have := ok.most; omega
  have e2 : ∀ (ν : Mu) (Q : DQ), fLen [.dat (tiesD ts)] ν Q = Q (.dat (.int ts.length)) ν := fun ν Q => by
    show Q (.dat (.int ((ts.map tieD).length : Nat))) ν = _
    rw [List.length_map]
  obtain ⟨C, c0, c1, ci⟩ := iSeq_ties (i := 0) (ρ := [some (.dat (tiesD ts)), some (.dat (.int (most : Int))), some (.dat (.int many)), none]) (μ := μ) rfl
  simp [ds_are_rows, startD, e1, e2, l1, l2, dFor, -List.map_map]
  rw [ci]
  refine for_fold tieD (fun _ a => a) (fun v (_ : Unit) => [some (.dat (tiesD ts)), some (.dat (.int (most : Int))), some (.dat (.int many)), v]) (fun _ => True) c0 ts none () (fun t ht v a _ => ⟨trivial, some (.dat (tieD t)), fun N hN => ?_⟩) trivial fun v => ?_
  · obtain ⟨h0, h1, h2, h3, h4⟩ := ok.in_ t ht
    have b1 : tupOfB (tieD t) 3 = true := rfl
    have b2 : pairB (.int t.1) (.int t.2.1) many = true := by
      simp [pairB, withinB]
      omega
    have b3 : withinB (.int t.2.2) 1 20 = true := by
      simp [withinB]
      omega
    simpa [b1, b2, b3] using hN
  · obtain ⟨C2, c02, c12, ci2⟩ := iSeq_ties (i := 0) (ρ := [some (.dat (tiesD ts)), some (.dat (.int (most : Int))), some (.dat (.int many)), v]) (μ := μ) rfl
    have L := fun Q => lc_gen (β := Unit) tieD (fun _ => true) (fun t => pairD (two t)) (g := gN 3) (t := dYes) (e := dSl (dVar 3) oNone (oSome (dC (.int 2)))) (vs := [3]) (Q := Q) ci2 (fun _ => c12 _) (sz (by have := ok.most; omega)) (fun x hx acc R => by
      simp [wipeD, dYes, dSl, oSome, oNone, rSl]
      rfl)
    have e3 : (ts.filter fun _ => true).map (fun t => pairD (two t)) = (ts.map two).map pairD := by
      rw [List.filter_eq_self.mpr (fun _ _ => rfl), List.map_map]
      rfl
    rw [e3] at L
    simp [L, -List.map_map]
    refine c_is_rising (.inl rfl) next_pairs (by rw [List.length_map, List.length_map]; have := ok.most; omega) ?_
    rw [rising_pairs (List.pairwise_map.mpr ok.up)]
    simpa using h
end WL
namespace WL
open PySem PySem.Spec PyProof.Rows L2 Evl DL
open PySem.W (dataLt dataLe alike alikeAll AllAlike Sortable)
theorem perm_sorted_eq {α : Type} {le : α → α → Prop} (anti : ∀ a b, le a b → le b a → a = b) : ∀ {l m : List α}, l.Perm m → l.Pairwise le → m.Pairwise le → l = m
  | [], m, h, _, _ => (List.Perm.eq_nil h.symm).symm
  | x :: l, [], h, _, _ => absurd h.length_eq (by simp)
  | x :: l, y :: m, h, hl, hm => by
    have a1 : y ∈ x :: l := h.mem_iff.mpr (List.mem_cons_self ..)
    have a2 : x ∈ y :: m := h.mem_iff.mp (List.mem_cons_self ..)
    have e : x = y := by
      rcases List.mem_cons.mp a1 with e | e
      · exact e.symm
      · rcases List.mem_cons.mp a2 with e' | e'
        · exact e'
        · exact anti x y ((List.pairwise_cons.mp hl).1 y e) ((List.pairwise_cons.mp hm).1 x e')
    subst e
    rw [perm_sorted_eq anti h.cons_inv (List.pairwise_cons.mp hl).2 (List.pairwise_cons.mp hm).2]
theorem mergeSort_eq {α : Type} {le : α → α → Bool} (tr : ∀ a b c, le a b = true → le b c = true → le a c = true) (tot : ∀ a b, (le a b || le b a) = true) (anti : ∀ a b, le a b = true → le b a = true → a = b) {l m : List α} (hp : m.Perm l) (hs : m.Pairwise fun a b => le a b = true) : l.mergeSort le = m :=
  perm_sorted_eq (le := fun a b => le a b = true) anti ((List.mergeSort_perm l le).trans hp.symm) (List.pairwise_mergeSort tr tot l) hs
def leL (a b : List Int) : Bool := !ltL b a
theorem leL_iff {a b : List Int} : leL a b = true ↔ a ≤ b := by
  unfold leL ltL
  rw [Bool.not_eq_true', decide_eq_false_iff_not]
  exact Iff.rfl
theorem leL_tr (a b c : List Int) (h : leL a b = true) (g : leL b c = true) : leL a c = true := leL_iff.mpr (List.le_trans (leL_iff.mp h) (leL_iff.mp g))
theorem leL_tot (a b : List Int) : (leL a b || leL b a) = true := by
  rw [Bool.or_eq_true, leL_iff, leL_iff]
  exact List.le_total a b
theorem leL_anti (a b : List Int) (h : leL a b = true) (g : leL b a = true) : a = b := List.le_antisymm (leL_iff.mp h) (leL_iff.mp g)
theorem insL_perm (x : List Int) : ∀ l : List (List Int), (insL x l).Perm (x :: l)
  | [] => List.Perm.refl _
  | y :: r => by
    unfold insL
    split
    · exact ((insL_perm x r).cons y).trans (List.Perm.swap x y r)
    · exact List.Perm.refl _
theorem sortL_perm : ∀ l : List (List Int), (sortL l).Perm l
  | [] => List.Perm.refl _
  | x :: r => (insL_perm x (sortL r)).trans ((sortL_perm r).cons x)
theorem insL_sorted {x : List Int} : ∀ {l : List (List Int)}, l.Pairwise (fun a b => leL a b = true) → (insL x l).Pairwise fun a b => leL a b = true
  | [], _ => List.pairwise_singleton _ _
  | y :: r, h => by
    obtain ⟨h1, h2⟩ := List.pairwise_cons.mp h
    unfold insL
    split
    · rename_i c
      have yx : leL y x = true := by
        rw [leL_iff]
        exact List.le_of_lt (of_decide_eq_true c)
      refine List.pairwise_cons.mpr ⟨fun z hz => ?_, insL_sorted h2⟩
      rcases List.mem_cons.mp ((insL_perm x r).mem_iff.mp hz) with rfl | hz
      · exact yx
      · exact h1 z hz
    · rename_i c
      have xy : leL x y = true := by
        unfold leL
        rw [Bool.not_eq_true']
        exact Bool.eq_false_iff.mpr c
      refine List.pairwise_cons.mpr ⟨fun z hz => ?_, h⟩
      rcases List.mem_cons.mp hz with rfl | hz
      · exact xy
      · exact leL_tr _ _ _ xy (h1 z hz)
theorem sortL_sorted : ∀ l : List (List Int), (sortL l).Pairwise fun a b => leL a b = true
  | [] => .nil
  | x :: r => insL_sorted (sortL_sorted r)
theorem sortD_rows (ls : List (List Int)) : sortD (ls.map rowI) = (sortL ls).map rowI := by
  unfold sortD
  have m := List.map_mergeSort (r := leL) (s := dataLe false id) (f := rowI) (l := ls) (fun a _ b _ => by
    show _ = (!dataLt (rowI b) (rowI a))
    rw [lt_row]
    rfl)
  rw [← m, mergeSort_eq leL_tr leL_tot leL_anti (sortL_perm ls) (sortL_sorted ls)]
theorem alike_rows (ls : List (List Int)) : AllAlike (ls.map rowI) := PySem.W.AllAlike.of fun _ _ => alike_row
theorem depth_row (c : List Int) : (rowI c).depth ≤ 64 := Nat.le_trans sh_row.2 (by decide)
theorem lots_len : ∀ k, (lots k).length = 2 ^ k
  | 0 => rfl
  | k + 1 => by
    show (lots k ++ (lots k).map _).length = _
    rw [List.length_append, List.length_map, lots_len k, Nat.pow_succ]
    omega
theorem mem_lots : ∀ (k : Nat) (c : List Int), c ∈ lots k ↔ c.Pairwise (· < ·) ∧ ∀ p ∈ c, 1 ≤ p ∧ p ≤ (k : Int)
  | 0, c => by
    constructor
    · intro h
      rw [List.mem_singleton.mp h]
      exact ⟨.nil, fun p hp => by cases hp⟩
    · rintro ⟨_, h⟩
      cases c with
      | nil => exact List.mem_singleton.mpr rfl
      | cons p r => have := h p (List.mem_cons_self ..); omega
  | k + 1, c => by
    show c ∈ lots k ++ (lots k).map _ ↔ _
    rw [List.mem_append, List.mem_map]
    constructor
    · rintro (h | ⟨d, h, rfl⟩)
      · obtain ⟨h1, h2⟩ := (mem_lots k c).mp h
        exact ⟨h1, fun p hp => by have := h2 p hp; omega⟩
      · obtain ⟨h1, h2⟩ := (mem_lots k d).mp h
        refine ⟨List.pairwise_append.mpr ⟨h1, List.pairwise_singleton _ _, fun a ha b hb => ?_⟩, fun p hp => ?_⟩
        · rw [List.mem_singleton.mp hb]
          have := h2 a ha
          omega
        · rcases List.mem_append.mp hp with hp | hp
          · have := h2 p hp
            omega
          · rw [List.mem_singleton.mp hp]
            omega
    · rintro ⟨h1, h2⟩
      by_cases hk : ((k + 1 : Nat) : Int) ∈ c
      · right
        rcases List.eq_nil_or_concat c with rfl | ⟨d, x, rfl⟩
        · cases hk
        · rw [List.concat_eq_append] at *
          obtain ⟨q1, _, q3⟩ := List.pairwise_append.mp h1
          have hx : x = ((k + 1 : Nat) : Int) := by
            rcases List.mem_append.mp hk with hk | hk
            · have a1 := q3 _ hk x (List.mem_singleton.mpr rfl)
              have a2 := h2 x (List.mem_append.mpr (.inr (List.mem_singleton.mpr rfl)))
              omega
            · exact (List.mem_singleton.mp hk).symm
          subst hx
          refine ⟨d, (mem_lots k d).mpr ⟨q1, fun p hp => ?_⟩, rfl⟩
          have a1 := q3 p hp _ (List.mem_singleton.mpr rfl)
          have a2 := h2 p (List.mem_append.mpr (.inl hp))
          omega
      · left
        refine (mem_lots k c).mpr ⟨h1, fun p hp => ?_⟩
        have a2 := h2 p hp
        have : p ≠ ((k + 1 : Nat) : Int) := fun z => hk (z ▸ hp)
        omega
theorem mem_cutsL {n : Nat} (hn : 1 ≤ n) {c : List Int} : c ∈ cutsL n ↔ Cut n c := by
  unfold cutsL Cut
  rw [(sortL_perm _).mem_iff, List.mem_filter, mem_lots]
  have e : ∀ p : Int, (1 ≤ p ∧ p ≤ ((n - 1 : Nat) : Int)) ↔ (1 ≤ p ∧ p < (n : Int)) := fun p => by omega
  simp only [e, and_assoc]
  cases c <;> simp
theorem sort_cuts (k : Nat) (hk : k ≤ 7) : SortOk (((lots k).filter fun c => !c.isEmpty).map rowI) := by
  refine ⟨alike_rows _, .inl (.inl fun d hd => ?_), sz (by rw [List.length_map]; exact Nat.le_trans (List.length_filter_le _ _) (by rw [lots_len]; exact Nat.le_trans (Nat.pow_le_pow_right (by decide) hk) (by decide))), fun d hd => ?_⟩
  · obtain ⟨c, hc, rfl⟩ := List.mem_map.mp hd
    have := (List.mem_filter.mp hc).2
    cases c with
    | nil => cases this
    | cons x r => exact ⟨.int x, r.map PyData.int, rfl⟩
  · obtain ⟨c, _, rfl⟩ := List.mem_map.mp hd
    exact depth_row c
theorem lots_loop {D : DEnds} {n : Nat} {v3 : Option Sl} {μ : Mu} (hn : n ≤ 8) (h : ∀ v, D.nx [some (.dat (.int (n : Int))), some (.dat (.list ((lots (n - 1)).map rowI))), v, v3] μ) :
    forD (fun _ => True) (gN 2) (dAsg (dOp DL.rAdd (dVar 1) (dLc (iSeq (dVar 1)) (gN 3) dYes (dOp DL.rAdd (dVar 3) (dTup (aCons (dVar 2) aNil))) [3])) 1) D (rgI 1 (n - 1)) [some (.dat (.int (n : Int))), some (.dat (.list ([[]].map rowI))), none, v3] μ := by
  refine for_rg (fun i v => [some (.dat (.int (n : Int))), some (.dat (.list ((lots i).map rowI))), v, v3]) trivial (fun i hi v => ⟨some (.dat (.int (1 + (i : Int)))), fun N hN => ?_⟩) h none
  have l2 : (lots i).length ≤ 128 := by rw [lots_len]; exact Nat.le_trans (Nat.pow_le_pow_right (by decide) (show i ≤ 7 by omega)) (by decide)
  obtain ⟨C, c0, c1, ci⟩ := iSeq_ok (i := 1) (ρ := [some (.dat (.int (n : Int))), some (.dat (.list ((lots i).map rowI))), some (.dat (.int (1 + (i : Int)))), v3]) (μ := μ) rfl .dl
  have hsm : ∀ x ∈ lots i, (x.length : Nat) ≤ 100 := fun x hx => by
    obtain ⟨h1, h2⟩ := (mem_lots i x).mp hx
    have : ∀ (m : Nat) (x : List Int) (lo : Int), x.Pairwise (· < ·) → (∀ p ∈ x, lo < p ∧ p ≤ lo + (m : Int)) → x.length ≤ m := by
      intro m
      induction m with
      | zero =>
        intro x lo _ h
        cases x with
        | nil => exact Nat.le_refl _
        | cons p r => have := h p (List.mem_cons_self ..); omega
      | succ m ih =>
        intro x lo hp h
        cases x with
        | nil => exact Nat.zero_le _
        | cons p r =>
          obtain ⟨q1, q2⟩ := List.pairwise_cons.mp hp
          have := ih r (lo + 1) q2 fun z hz => by
            have a1 := h p (List.mem_cons_self ..)
            have a2 := q1 z hz
            have a3 := h z (List.mem_cons_of_mem _ hz)
            omega
          rw [List.length_cons]
          omega
    have := this i x 0 h1 fun p hp => by have := h2 p hp; omega
    omega
  have L := fun Q => lc_gen (β := Unit) rowI (fun _ => true) (fun c => rowI (c ++ [1 + (i : Int)])) (g := gN 3) (t := dYes) (e := dOp DL.rAdd (dVar 3) (dTup (aCons (dVar 2) aNil))) (vs := [3]) (Q := Q) ci (fun _ => c1 _) (sz (by omega)) (fun x hx acc R => by
    have e : ∀ (ν : Mu) (Q : DQ), DL.rAdd (.dat (rowI x)) (.dat (.tuple [.int (1 + (i : Int))])) ν Q = Q (.dat (rowI (x ++ [1 + (i : Int)]))) ν := fun ν Q => by
      show ((x.map PyData.int).length + 1 ≤ sizeLine ∧ Q (.dat (.tuple (x.map PyData.int ++ [.int (1 + (i : Int))]))) ν) = _
      have : rowI (x ++ [1 + (i : Int)]) = .tuple (x.map PyData.int ++ [.int (1 + (i : Int))]) := by
        unfold rowI
        rw [List.map_append]
        rfl
      rw [this, List.length_map]
      exact propext ⟨fun z => z.2, fun z => ⟨sz (by have := hsm x hx; omega), z⟩⟩
    simp [wipeD, dYes, e, small_sz])
  have e2 : ((lots i).filter fun _ => true).map (fun c => rowI (c ++ [1 + (i : Int)])) = ((lots i).map (· ++ [((i + 1 : Nat) : Int)])).map rowI := by
    rw [List.filter_eq_self.mpr (fun _ _ => rfl), List.map_map]
    refine List.map_congr_left fun c _ => ?_
    show rowI (c ++ [1 + (i : Int)]) = rowI (c ++ [((i + 1 : Nat) : Int)])
    rw [show (1 + (i : Int)) = ((i + 1 : Nat) : Int) by omega]
  rw [e2] at L
  have e3 : DL.rAdd (.dat (.list ((lots i).map rowI))) (.dat (.list (((lots i).map (· ++ [((i + 1 : Nat) : Int)])).map rowI))) = fun μ Q => (((lots i).map rowI).length + (((lots i).map (· ++ [((i + 1 : Nat) : Int)])).map rowI).length ≤ sizeLine ∧ Q (.dat (.list ((lots i).map rowI ++ ((lots i).map (· ++ [((i + 1 : Nat) : Int)])).map rowI))) μ) := rfl
  have e4 : (lots i).map rowI ++ ((lots i).map (· ++ [((i + 1 : Nat) : Int)])).map rowI = (lots (i + 1)).map rowI := by
    rw [← List.map_append]
    rfl
  simp only [e_gN, e_dAsg, e_dOp, e_dVar, List.set_cons_succ, List.set_cons_zero, List.getElem?_cons_succ, List.getElem?_cons_zero, L, e3, e4]
  exact ⟨sz (by rw [List.length_map, List.length_map, List.length_map]; omega), hN⟩
theorem pu_law_cuts : Pure ["many", "found", "place", "cut"] 1 ph_law_cuts ds_law_cuts := by
  intro ss μ Q' hl h
  obtain ⟨n, rfl, ⟨h2, h8⟩, h⟩ := h
  simp [ds_law_cuts, startD, dFor, iRg2, small_sz, -List.map_map]
  refine ⟨by omega, ?_⟩
  refine lots_loop h8 fun v => ?_
  obtain ⟨C, c0, c1, ci⟩ := iSeq_ok (i := 1) (ρ := [some (.dat (.int (n : Int))), some (.dat (.list ((lots (n - 1)).map rowI))), v, none]) (μ := μ) rfl .dl
  have L := fun Q => lc_gen (β := Unit) rowI (fun c => !c.isEmpty) rowI (g := gN 3) (t := dTest (dOp DL.rNe (dVar 3) (dTup aNil))) (e := dVar 3) (vs := [3]) (Q := Q) ci (fun _ => c1 _) (sz (by rw [lots_len]; exact Nat.le_trans (Nat.pow_le_pow_right (by decide) (show n - 1 ≤ 7 by omega)) (by decide))) (fun x hx acc R => by
    have e : ∀ (ν : Mu) (Q : DQ), DL.rNe (.dat (rowI x)) (.dat (.tuple [])) ν Q = Q (.dat (.bool (!x.isEmpty))) ν := fun ν Q => by
      show ((SeqAt.shaped (rowI x) = true ∧ SeqAt.shaped (.tuple []) = true) ∧ Q (.dat (.bool (!PyData.eqv (rowI x) (.tuple [])))) ν) = _
      have : PyData.eqv (rowI x) (.tuple []) = x.isEmpty := by
        cases x <;> simp [rowI, PyData.eqv, PyData.eqvAll]
      rw [this]
      exact propext ⟨fun z => z.2, fun z => ⟨⟨sh_row.ok (by decide), by decide⟩, z⟩⟩
    simp [wipeD, e])
  have so := sort_cuts (n - 1) (by omega)
  simp [L, fSorted, arg1, so, sortD_rows, -List.map_map]
  exact h
end WL
namespace DL
open PySem PySem.Spec PyProof.Rows L2 Evl
def rMulC : DR2 := fun x y μ Q => match x, rd μ y with
  | .cell k, some (.int n) => match μ[k]? with
    | some (.lst ds) => (0 ≤ n ∧ n ≤ 1000 ∧ ds.length ≤ 1000) ∧ Q (.dat (.list (List.replicate n.toNat ds).flatten)) μ
    | _ => False
  | _, _ => False
section
variable {X : Cx} {K : PySem.W.Frag}
theorem lr_mulC : LR2 K rRep rMulC := fun x y μ Q' h W H vx vy r hx hy Q q => by
  unfold rMulC at h
  split at h
  · rename_i k n e2
    split at h
    · rename_i ds e1
      obtain ⟨⟨h1, h2, h3⟩, h4⟩ := h
      obtain ⟨a, xs, rfl, ha, hH, hd⟩ := tyV_cell r hx e1
      cases rd_int r hy e2
      refine ⟨a, n, xs, rfl, rfl, hH, by omega, by omega, ?_, fun p hp => q.newL (b := false) r (dpAll_rep hd n.toNat) h4 p hp⟩
      rw [hd.length]
      exact Nat.le_trans (Nat.mul_le_mul h3 (show n.toNat ≤ 1000 by omega)) (by decide)
    · exact h.elim
  · exact h.elim
theorem pd_mulC {a b : Expr} {da db : DE} {pos : Pos} (ha : PD X a da) (hb : PD X b db) : PD X (.BinOp a .Mult b pos) (dOp rMulC da db) := pd_op op_rep lr_mulC ha hb
theorem e_mulC {μ : Mu} {Q : DQ} {k : Nat} {ds : List PyData} (h : μ[k]? = some (.lst ds)) (hl : ds.length ≤ 1000) {n : Int} (hn : 0 ≤ n ∧ n ≤ 1000) : rMulC (.cell k) (.dat (.int n)) μ Q = Q (.dat (.list (List.replicate n.toNat ds).flatten)) μ := by
  simp only [rMulC, e_rdD, h]
  exact propext ⟨fun z => z.2, fun z => ⟨⟨hn.1, hn.2, hl⟩, z⟩⟩
end
end DL
namespace DL
open PySem PySem.Spec PyProof.Rows L2 Evl
def dcD (C : Mu → Prop) (g : DG) (t : DT) (ek ev : DE) (k : Nat) (Q : Mu → Prop) (ρ : Rho) : List Sl → Mu → Prop
  | [], μ => C μ ∧ Q μ
  | s :: ss, μ => C μ ∧ g s ρ μ fun ρ1 μ1 => t ρ1 μ1 fun b μ2 => if b = true then ek ρ1 μ2 fun y μ3 => ev ρ1 μ3 fun v μ4 => putK1 (.cell k) y v μ4 (dcD C g t ek ev k Q ρ ss) else dcD C g t ek ev k Q ρ ss μ2
def dDc (i : DI) (g : DG) (t : DT) (ek ev : DE) (vs : List Nat) : DE := fun ρ μ Q => i ρ μ fun ss C μ1 => dcD C g t ek ev μ1.length (fun ν => Q (.cell μ1.length) ν) (wipeD ρ vs) ss (μ1 ++ [.dct []])
section
variable {X : Cx} {K : PySem.W.Frag}
variable {kx vx tg iter : Expr} {ifs : List Expr} {scope : Scope} {own : List (Str × Nat)} {pos : Pos} {i : DI} {g : DG} {t : DT} {ek ev : DE}
def mIndex : DM := fun o vs μ Q => match vs with
  | [y] => match rd μ o, rd μ y with
    | some (.list ds), some d => ∃ j z, (SeqAt.shaped (.list ds) = true ∧ SeqAt.shaped d = true) ∧ ds[j]? = some z ∧ PyData.eqv z d = true ∧ (∀ (m : Nat) (z' : PyData), m < j → ds[m]? = some z' → PyData.eqv z' d = false) ∧ Q (.dat (.int (j : Nat))) μ
    | _, _ => False
  | _ => False
variable {o e : Expr} {apos cpos : Pos} {od ed : DE} {k : Nat}
end
end DL
namespace DL
open PySem PySem.Spec PyProof.Rows L2 Evl
theorem enum_endT {prog : Program} {w : World} {A : Around} {E : Value → Shared → Prop} {s : Shared} {e it l : Addr} {i : Nat} {items : Array Value} {old : Value} {Q : Option Value → Shared → Prop} (hh : A.handled = none)
    (he : IsEnum s.heap e it i old) (hit : s.heap.IsTupleIter it l i) (hl : s.heap.IsTuple l items) (hx : items[i]? = none)
    (hQ : ∀ h', Heap.ExtBut it s.heap h' → Q none { s with heap := h' }) : wpAny (model prog w) A (pyNext (.ref e)) Q E s := by
  have hT : s.TypeIs (.ref e) "enumerate" := ⟨_, he, rfl⟩
  unfold pyNext
  refine wpAny_bind (wpAny_attempt (wpAny_callSpecial?_slot (name := Str.ofString "__next__") hT PySem.F.slot_enumerate_next
    (wpAny_call_entry PySem.F.slot_enumerate_next hT PySem.F.entry_enumerate_next ?_ (PySem.F.args_enumerate_next_1 _))))
  show wpAny _ _ (field (.ref e) 2 >>= _) _ _ _
  refine wpAny_bind (wpAny_field he rfl (x := .ref it) rfl ?_)
  refine wpAny_bind (wpAny_nextOf_tuple_end (A := A.in1) hh hit hl hx fun h' x he' hx' => ?_)
  obtain ⟨o, ho, hc⟩ := hx'
  refine wpAny_bind (wpAny_isInstance (T := "StopIteration") (b := true) ⟨o, ho, hc⟩ isSubtype_stop ?_)
  exact wpAny_pure (hQ _ he')
def IteT (K : PySem.W.Frag) (a : Addr) : It :=
  ⟨fun i H => ∃ (xs : List V) (x : V), SqT K H a xs ∧ xs[i]? = some x, fun i H v H' => ∃ T x, v = .ref T ∧ H T = none ∧ H' = upd H T (.tup [.int (i : Nat), x]) ∧ ∀ xs, SqT K H a xs → xs[i]? = some x, fun i H => ∃ xs : List V, SqT K H a xs ∧ xs.length ≤ i⟩
theorem turn_enumT {P : Program} {w : World} {K : PySem.W.Frag} {elts : List Expr} {kk : Nat} {tpos : Pos} (a e it : Addr) :
    Turn P w K (.Tuple elts kk tpos) (IteT K a) [e, it] e (fun i h => (∃ old, IsEnum h e it ((i : Nat) : Int) old) ∧ h.IsTupleIter it a i ∧ e ≠ it ∧ a ≠ it ∧ e ≠ a) where
  mem := by simp
  obj := fun i h st b hb => by
    obtain ⟨⟨old, he⟩, ⟨o, ho, hc, hd⟩, _⟩ := st
    have e' : b = e ∨ b = it := by simpa using hb
    rcases e' with z | z
    · rw [z]; exact ⟨_, he, fun v q => nomatch q⟩
    · rw [z]; exact ⟨o, ho, fun v q => by rw [hd] at q; cases q⟩
  keep := fun i h h' st k => let ⟨⟨old, he⟩, hi, hne⟩ := st; ⟨⟨old, k e (by simp) _ he⟩, hi.at fun o q => k it (by simp) o q, hne⟩
  item := by
    intro X hP hw hK hc i pins s σ H E I hf st hg
    subst hP hw hK
    obtain ⟨⟨old, he⟩, hit, hne, hai, hea⟩ := st
    obtain ⟨xs, x, hq, hx⟩ := hg
    obtain ⟨its, rv, p, hz⟩ := I.tuple hq
    obtain ⟨u, hu, ru⟩ := rv.get hx
    have hel : e < s.heap.objs.size := Heap.lt_size he
    have hil : it < s.heap.objs.size := by obtain ⟨_, q, _⟩ := hit; exact Heap.lt_size q
    have hlt : i < its.toArray.size := by
      rw [List.size_toArray]
      exact (List.getElem?_eq_some_iff.mp hu).1
    refine wpAny_pyNext_enum_itemD (Draws.tuple (A := X.A.in1) (show X.A.in1.handled = none from I.ok.hd hc) it a hai its.toArray) he ⟨hit, p⟩ hlt hne (by simp [hne, hea]) fun v h' tk hv ho st' hT hsz hk => ?_
    have ev : v = u := by
      have h1 : its.toArray[i]? = some u := by simpa using hu
      have h2 : its.toArray[i]? = some v := hv
      exact Option.some.inj (h2.symm.trans h1)
    subst ev
    refine ⟨_, rfl, wpAny_letOwnedTupleGo_enum (s := { s with heap := h', toks := tk + 1 }) ho fun h'' he' sb => ?_⟩
    have hT2 : h''.get? s.heap.objs.size = some { cls := .type "tuple", data := .seq #[.int i tk, v] } := (sb.2 _ (Nat.ne_of_gt hel)).trans hT
    have new : ObjOk X.prog X.w (upd H s.heap.objs.size (.tup [.int (i : Nat), x])) h'' s.heap.objs.size (.tup [.int (i : Nat), x]) :=
      ⟨by show 2 ≤ sizeLine; decide, [.int i tk, v], .cons ⟨_, rfl⟩ (.cons ru .nil), ⟨_, hT2, rfl, _, rfl⟩⟩
    have I1 : Inv X pins σ (upd H s.heap.objs.size (.tup [.int (i : Nat), x])) { s with heap := h'', toks := tk + 1 } :=
      I.turnedNew (ch := [e, it]) (fun b ob hb q => (sb.2 b (fun z => hb (by simp [z]))).trans (hk b ob (fun z => hb (by simp [z])) (fun z => hb (by simp [z])) q)) hf (Nat.le_refl _) new
    refine ⟨.ref s.heap.objs.size, _, I1, rfl, ⟨_, x, rfl, I.hok.fresh (Nat.le_refl _), rfl, fun ys hy => by rw [I.tuple_inj hy hq]; exact hx⟩, ⟨⟨v, ?_⟩, st'.1.at fun o q => (sb.2 it (Ne.symm hne)).trans q, hne, hai, hea⟩, fun b hb => ?_⟩
    · have e1 : ((i + 1 : Nat) : Int) = (i : Int) + 1 := by omega
      rw [e1]; exact he'
    · have hb' : b < s.heap.objs.size := by
        have e' : b = e ∨ b = it := by simpa using hb
        rcases e' with z | z
        · rw [z]; exact hel
        · rw [z]; exact hil
      rw [upd_ne (Nat.ne_of_lt hb')]
      exact (hf b hb).1
  done := by
    intro X hP hw hK hc i pins s σ H E I hf st hg
    subst hP hw hK
    obtain ⟨⟨old, he⟩, hit, hne, hai, hea⟩ := st
    obtain ⟨xs, hq, hx⟩ := hg
    obtain ⟨its, rv, p, hz⟩ := I.tuple hq
    obtain ⟨f0, f1, f2, f3, f4, f5⟩ := hf it (by simp)
    have hl := rv.length
    exact enum_endT (I.ok.hd hc) he hit p (by simp; omega) fun h' eb => ⟨rfl, I.turned (t' := s.toks) (fun b o hb q => eb b o hb q) f0 f1 f3 f4 f5⟩
  self := fun A i s Q E st h => let ⟨⟨_, he⟩, _⟩ := st; wpAny_pyIter_enum he h
set_option maxHeartbeats 4000000 in
theorem meets_enumN {v : Value} {o : Obj} {H : Heap → Prop} (B : Begins v o H) :
    Meets (Builtin.«enumerate.__new__» ⟨[.type "enumerate", v], []⟩) (fun _ R s => H s.heap ∧
      R (.ok (.ret (.ref (s.heap.push o).objs.size))) { s with heap := (s.heap.push o).push { cls := .type "enumerate", data := .fields #[.none, .bool false, .ref s.heap.objs.size, rawInt 0, .none, .none] } }) :=
  .of_wp fun prog w A R s h => by
    obtain ⟨hp, g, d, tk, os⟩ := s; obtain ⟨h1, h⟩ := h
    have hsub := sub_enumerate
    have q1 : ∀ {A' : Around} {E : Value → Shared → Prop} {Q : Value → Shared → Prop}, Q (.ref hp.objs.size) ⟨hp.push o, g, d, tk, os⟩ → wpAny (model prog w) A' (pyIter v) Q E ⟨hp, g, d, tk, os⟩ :=
      fun q => B.iter prog w _ _ ⟨hp, g, d, tk, os⟩ _ h1 q
    wp_walk using q1
    refine wpAny_stack_any fun st => wpAny_pure ?_
    split
    · rename_i c _ _ _ _ _
      cases (c == Value.type "enumerate")
      · wp_walk using q1
        exact ⟨_, rfl, h⟩
      · wp_walk using q1
        exact ⟨_, rfl, h⟩
    · wp_walk using q1
      exact ⟨_, rfl, h⟩
theorem call_enumN {prog : Program} {w : World} {A : Around} {E : Value → Shared → Prop} {s : Shared} {v : Value} {o : Obj} {H : Heap → Prop} {Q : Value → Shared → Prop} (B : Begins v o H) (h1 : H s.heap)
    (h : ∀ h', IsEnum h' (s.heap.objs.size + 1) s.heap.objs.size 0 .none → h'.get? s.heap.objs.size = some o → h'.objs.size = s.heap.objs.size + 2 →
      (∀ b o, s.heap.get? b = some o → h'.get? b = some o) → Q (.ref (s.heap.objs.size + 1)) { s with heap := h' }) :
    wpAny (model prog w) A (call (.type "enumerate") [v]) Q E s := by
  refine callType_new PySem.F.called_enumerate (by decide) (PySem.F.typeCall_enumerate_1 _) (PySem.F.newCall_enumerate_1 _) (fun obj => PySem.F.args_object_init_2 obj _) PySem.F.entry_enumerate_new
    (meets_enumN B) ⟨h1, ?_⟩
  have hz : (s.heap.push o).objs.size = s.heap.objs.size + 1 := Heap.size_push ..
  show _ ∧ _
  rw [hz]
  have he : IsEnum ((s.heap.push o).push { cls := .type "enumerate", data := .fields #[.none, .bool false, .ref s.heap.objs.size, rawInt 0, .none, .none] }) (s.heap.objs.size + 1) s.heap.objs.size 0 .none := by
    have := Heap.get?_push_size (s.heap.push o) (o := { cls := .type "enumerate", data := .fields #[.none, .bool false, .ref s.heap.objs.size, rawInt 0, .none, .none] }) rfl
    rw [hz] at this; exact this
  refine ⟨⟨_, he, rfl⟩, h _ he (Heap.get?_push_of_some _ (Heap.get?_push_size _ B.free)) (by rw [Heap.size_push, hz]) fun b o x => Heap.get?_push_of_some _ (Heap.get?_push_of_some _ x)⟩
def iEnumA (K : PySem.W.Frag) (ta : TA) : TI := fun σ H R => ta σ H fun vs H1 => ∃ a xs, vs = [.ref a] ∧ ((SqL K H1 a xs ∧ R (Ite K a) H1) ∨ (SqT K H1 a xs ∧ R (IteT K a) H1))
theorem pi_enumA {X : Cx} {e : Expr} {ta : TA} {p pos tpos : Pos} {elts : List Expr} {kk : Nat} (hg : Gl X "enumerate") (hm : X.mg "enumerate" = none) (ha : PA X [e] ta) (hs : starEach [e] X.env = [(false, eval e X.env)] := by rfl) :
    PI X (.Tuple elts kk tpos) (.Call (.Name "enumerate" p) [e] [] pos) (iEnumA X.K ta) := by
  refine ⟨fun pins s σ H R I h => ?_⟩
  refine Call_ (ld_blt I hg hm boot_enumerate (PyProof.Rows.callWith_type1 (thn (ha.run pos pins s σ H _ I h) fun us s1 ⟨vs, H1, I1, r1, q1⟩ => ?_) hs rfl))
  obtain ⟨a, xs, ex, q1⟩ := q1
  subst ex
  cases r1 with
  | cons r rr =>
    cases rr
    cases r
    have fp : ∀ b ∈ [s1.heap.objs.size + 1, s1.heap.objs.size], FpOk X pins H1 b := fun b hb => by
      have e' : b = s1.heap.objs.size + 1 ∨ b = s1.heap.objs.size := by simpa using hb
      have hle : s1.heap.objs.size ≤ b := by
        rcases e' with z | z
        · rw [z]; exact Nat.le_add_right _ _
        · rw [z]; exact Nat.le_refl _
      exact I1.fpOk hle (I1.hok.fresh hle)
    rcases q1 with ⟨hq, q⟩ | ⟨hq, q⟩
    · obtain ⟨its, rv, p', hz⟩ := I1.list hq
      refine call_enumerate_list p'.isList fun h' he hit hsz hk => wpAny_pyIter_enum he ?_
      have I2 : Inv X pins σ H1 { s1 with heap := h' } := I1.kept (t' := s1.toks) hk
      exact ⟨s1.heap.objs.size + 1, [s1.heap.objs.size + 1, s1.heap.objs.size], _, _, H1, rfl, I2, turn_enum a (s1.heap.objs.size + 1) s1.heap.objs.size, ⟨⟨.none, he⟩, hit, Nat.succ_ne_self _⟩, fp, q⟩
    · obtain ⟨its, rv, p', hz⟩ := I1.tuple hq
      have hal : a < s1.heap.objs.size := by
        obtain ⟨_, q, _⟩ := p'
        exact Heap.lt_size q
      refine call_enumN (begins_tuple a its.toArray) p' fun h' he hit hsz hk => wpAny_pyIter_enum he ?_
      have I2 : Inv X pins σ H1 { s1 with heap := h' } := I1.kept (t' := s1.toks) hk
      exact ⟨s1.heap.objs.size + 1, [s1.heap.objs.size + 1, s1.heap.objs.size], _, _, H1, rfl, I2, turn_enumT a (s1.heap.objs.size + 1) s1.heap.objs.size, ⟨⟨.none, he⟩, ⟨_, hit, rfl, rfl⟩, Nat.succ_ne_self _, Nat.ne_of_lt hal, Nat.ne_of_gt (Nat.lt_succ_of_lt hal)⟩, fp, q⟩
end DL
namespace DL
open PySem PySem.Spec PyProof.Rows L2 Evl
def enS (v : Bool) (ds : List PyData) : List Sl := ds.zipIdx.map fun p => mk v (.tuple [.int (p.2 : Nat), p.1])
theorem enS_get {v : Bool} {ds : List PyData} {i : Nat} {s : Sl} (h : (enS v ds)[i]? = some s) : ∃ d, ds[i]? = some d ∧ s = mk v (.tuple [.int (i : Nat), d]) := by
  unfold enS at h
  rw [List.getElem?_map, List.getElem?_zipIdx] at h
  cases e : ds[i]? with
  | none => rw [e] at h; cases h
  | some d =>
    rw [e] at h
    refine ⟨d, rfl, ?_⟩
    have := Option.some.inj h
    simpa using this.symm
theorem enS_len {v : Bool} {ds : List PyData} : (enS v ds).length = ds.length := by
  unfold enS
  rw [List.length_map, List.length_zipIdx]
def iEn (a : DA) : DI := fun ρ μ R => a ρ μ fun ss μ1 => match ss with
  | [x] => match rd μ1 x with
    | some (.list ds) => R (enS (isV x) ds) (fun ν => rd ν x = some (.list ds)) μ1
    | some (.tuple ds) => R (enS (isV x) ds) (fun _ => True) μ1
    | _ => False
  | _ => False
section
variable {X : Cx} {K : PySem.W.Frag} {p pos : Pos}
theorem en_item {W2 : Wd} {H2 : Hp} {μ2 : Mu} {x : Sl} {xs : List V} {ds : List PyData} {i : Nat} {s : Sl} (r2 : Rep K W2 H2 μ2) (hx : Its K W2 x xs ds) (h : (enS (isV x) ds)[i]? = some s) :
    ∃ v, xs[i]? = some v ∧ ∀ T, H2 T = none → ∃ W3, Le W2 W3 ∧ Rep K W3 (upd H2 T (.tup [.int (i : Nat), v])) μ2 ∧ SlOk K W3 (.ref T) s := by
  obtain ⟨d, h1, rfl⟩ := enS_get h
  obtain ⟨v, hv, dv⟩ := DvAll.get hx h1
  refine ⟨v, hv, fun T hT => ⟨W2.new T (.tup [.int (i : Nat), v]), Le.new r2 hT, r2.new hT, slOk_mk ?_⟩⟩
  have l : Le W2 (W2.new T (.tup [.int (i : Nat), v])) := Le.new r2 hT
  have two : DvAll K (bh W2 (isV x)) [.int (i : Nat), v] [.int (i : Nat), d] := .cons (.int _) (.cons dv .nil)
  refine .tup (.inl (.inl ?_)) (two.mono (bh_le l _))
  cases isV x
  · exact upd_same
  · exact upd_same
theorem pdi_enum {e : Expr} {tpos : Pos} {elts : List Expr} {kk : Nat} {a : DA} (ha : PDA X [e] a) (hm : X.mg "enumerate" = none) (hg : Gl X "enumerate" := by rfl)
    (hs : starEach [e] X.env = [(false, eval e X.env)] := by rfl) : PDI X (.Tuple elts kk tpos) (.Call (.Name "enumerate" p) [e] [] pos) (iEn a) := by
  obtain ⟨t, p1, l1⟩ := ha
  refine ⟨_, pi_enumA hg hm p1 hs, fun ρ μ R' hd W σ H he r R q => l1 ρ μ _ hd W σ H he r _ fun vs ss W1 H1 μ1 le1 r1 hss h1 => ?_⟩
  match ss, hss, h1 with
  | [x], hss, h1 =>
    obtain ⟨v, rfl, hv⟩ := slAll1 hss
    replace h1 : (match rd μ1 x with | some (.list ds) => R' (enS (isV x) ds) (fun ν => rd ν x = some (.list ds)) μ1 | some (.tuple ds) => R' (enS (isV x) ds) (fun _ => True) μ1 | _ => False) := h1
    split at h1
    · rename_i ds e1
      obtain ⟨a, xs, rfl, hl, hi⟩ := rd_lst r1 hv e1
      refine ⟨a, xs, rfl, .inl ⟨hl, q _ _ _ W1 H1 μ1 le1 r1 (fun W2 H2 μ2 le2 r2 hC i => ?_) h1⟩⟩
      obtain ⟨a', xs', ea, m1, i1⟩ := rd_lst r2 (hv.mono le2) hC
      cases ea
      refine ⟨fun hle => ⟨xs', m1, by rw [i1.length]; rw [enS_len] at hle; exact hle⟩, fun s es' => ?_⟩
      obtain ⟨w1, g1, f⟩ := en_item r2 i1 es'
      refine ⟨⟨xs', w1, m1, g1⟩, fun z H' hz => ?_⟩
      obtain ⟨T, z1, rfl, nT, rfl, k1⟩ := hz
      have q1 : z1 = w1 := Option.some.inj ((k1 _ m1).symm.trans g1)
      subst q1
      exact f T nT
    · rename_i ds e1
      obtain ⟨a, xs, rfl, hl, hi⟩ := rd_tup r1 hv e1
      refine ⟨a, xs, rfl, .inr ⟨hl, q _ _ _ W1 H1 μ1 le1 r1 (fun W2 H2 μ2 le2 r2 hC i => ?_) h1⟩⟩
      obtain ⟨a', xs', ea, m1, i1⟩ := rd_tup r2 (hv.mono le2) (rd_tup_keep (W' := W2) (μ' := μ2) hv e1)
      cases ea
      refine ⟨fun hle => ⟨xs', m1, by rw [i1.length]; rw [enS_len] at hle; exact hle⟩, fun s es' => ?_⟩
      obtain ⟨w1, g1, f⟩ := en_item r2 i1 es'
      refine ⟨⟨xs', w1, m1, g1⟩, fun z H' hz => ?_⟩
      obtain ⟨T, z1, rfl, nT, rfl, k1⟩ := hz
      have q1 : z1 = w1 := Option.some.inj ((k1 _ m1).symm.trans g1)
      subst q1
      exact f T nT
    · exact h1.elim
end
end DL
namespace DL
open PySem PySem.Spec PyProof.Rows L2 Evl PySem.W
section
variable {prog : Program} {w : World} {A : Around} {E : Value → Shared → Prop} {s : Shared}
theorem collect_tupN {l : Addr} {vs : List Value} {Q : List Value → Shared → Prop} (hl : s.heap.IsTuple l vs.toArray)
    (h : Q vs { s with heap := (s.heap.push (seqObj "list" #[] 0)).update s.heap.objs.size (Obj.mapSeq (· ++ vs.toArray)) }) (hsz : vs.length ≤ sizeLine) :
    wpAny (model prog w) A (collect (.ref l)) Q E s := by
  obtain ⟨o, ho, hc, n, hd⟩ := id hl
  unfold collect
  refine wpAny_bind (wpAny_runValue (codeAny_builtin entry_proto_collect' ?_))
  show wpAny _ _ (do again (.builtin "list.__iadd__" ⟨[← newList [], .ref l], []⟩)) _ _ s
  refine wpAny_bind (wpAny_newList (wpAny_pure ⟨Code.quiet_builtin _ (by decide +kernel), codeAny_builtin entry_list_iadd' ?_⟩))
  show wpAny _ _ (Builtin.List.listExtendWith (.ref s.heap.objs.size) (.ref l) (.ref s.heap.objs.size)) _ _ { s with heap := s.heap.push (seqObj "list" #[] 0) }
  unfold Builtin.List.listExtendWith
  have ho' : (s.heap.push (seqObj "list" #[] 0)).get? l = some o := Heap.get?_push_of_some _ ho
  refine wpAny_bind (wpAny_typeOf (T := "tuple") ⟨o, ho', hc⟩ ?_)
  have ht : (Value.type "tuple" == Value.type "tuple") = true := by rfl
  rw [if_pos (by rw [ht]; simp)]
  refine wpAny_bind (listItems_at ho' hd ?_)
  refine wpAny_bind (listItems_at (xs := #[]) (n := 0) (Heap.get?_push_size _ rfl) rfl ?_)
  rw [if_neg (by simp)]
  refine wpAny_bind (listUpdate_at (xs := #[]) (n := 0) (Heap.get?_push_size _ rfl) rfl ?_ (Nat.zero_le _) (by show (#[] ++ vs.toArray).size ≤ sizeLine + 1; simp only [Array.size_append, List.size_toArray, List.length_nil]; omega))
  refine wpAny_pure ?_
  show wpAny (model prog w) A (do
      let o ← load s.heap.objs.size
      match o.data with
      | .seq xs _ => pure xs.toList
      | _ => unsupported "internal:collect") Q E { s with heap := (s.heap.push (seqObj "list" #[] 0)).update s.heap.objs.size (Obj.mapSeq (· ++ vs.toArray)) }
  refine wpAny_bind (wpAny_load (get?_update_seq (Heap.get?_push_size _ rfl) _) ?_)
  show wpAny _ _ (pure ((#[] : Array Value) ++ vs.toArray).toList) Q E _
  rw [show ((#[] : Array Value) ++ vs.toArray).toList = vs by simp]
  exact wpAny_pure h
theorem sorted_of_sortT {l : Addr} {vs : List Value} {kw : List (Str × Value)} {Q : Value → Shared → Prop} (hl : s.heap.IsTuple l vs.toArray) (hL : vs.length ≤ sizeLine) (ha1 : argsOk "sorted" ⟨[.ref l], kw⟩) (ha2 : ∀ x, argsOk "list.sort" ⟨[.ref x], kw⟩)
    (body : ∀ E' : Value → Shared → Prop, wpAny (model prog w) A.in1.in1 (Builtin.«list.sort» ⟨[.ref (s.heap.objs.size + 1)], kw⟩) (fun f s' => f = .done (.ret .none) ∧ Q (.ref (s.heap.objs.size + 1)) s') E' { s with heap := copyHeap s.heap vs }) :
    wpAny (model prog w) A (call (.builtin "sorted") [.ref l] kw) Q E s := by
  refine call_function_entry_kw kind_sorted plain_sorted entry_sorted ha1 ?_
  unfold Builtin.«sorted»
  refine wpAny_bind (m := checkCount "sorted" 1 1 _) (wpAny_pure ?_)
  refine wpAny_bind (collect_tupN hl ?_ hL)
  refine wpAny_bind (wpAny_newList ?_ hL)
  have hsz : ((s.heap.push (seqObj "list" #[] 0)).update s.heap.objs.size (Obj.mapSeq (· ++ vs.toArray))).objs.size = s.heap.objs.size + 1 := by
    rw [Heap.size_update, size_push']
  show wpAny _ _ _ _ _ { s with heap := copyHeap s.heap vs }
  rw [hsz]
  refine wpAny_bind (wpAny_holding (wpAny_call_entry_kw slot_list_sort ⟨_, copyHeap_at s.heap vs, rfl⟩ entry_list_sort ?body (ha2 _)))
  case body =>
    show wpAny (model prog w) A.in1.in1 (Builtin.«list.sort» ⟨[.ref (s.heap.objs.size + 1)], kw⟩) _ _ _
    refine wpAny_mono (body _) (fun f s' hf => ?_) fun _ _ e => e
    obtain ⟨rfl, hq⟩ := hf
    exact ⟨_, rfl, wpAny_pure ⟨_, rfl, hq⟩⟩
theorem sorted_valsT {κ : PyProof.Rows.KeyKind} {l : Addr} {vs : List Value} {Q : Value → Shared → Prop} (hl : s.heap.IsTuple l vs.toArray) (S : SortsAt prog w A.in1.in1 { s with heap := sortingHeap (copyHeap s.heap vs) (s.heap.objs.size + 1) vs } κ vs) (hL : vs.length ≤ sizeLine)
    (h : Q (.ref (s.heap.objs.size + 1)) { s with heap := sortedAll s.heap vs (sortVals κ false vs vs).toArray }) : wpAny (model prog w) A (call (.builtin "sorted") [.ref l]) Q E s :=
  sorted_of_sortT hl hL (args_sorted1 _) (fun _ => args_list_sort _) fun _ => list_sort_vals (s := { s with heap := copyHeap s.heap vs }) (copyHeap_at s.heap vs) S hL ⟨rfl, h⟩
theorem sorted_anyT {β : Type} {R : Value → β → Prop} {enc : β → PyData} {vs : List Value} {bs : List β} {l : Addr} {Q : Value → Shared → Prop} (hl : s.heap.IsTuple l vs.toArray) (e : EachIs R vs bs) (er : EachIs (fun v b => ∃ as, Reads s.heap v (enc b) as) vs bs) (ok : SortOk (bs.map enc))
    (hu : A.units + 128 < cLine) (h : ∀ out, out.length = bs.length → EachIs R out (bs.mergeSort (dataLe false enc)) → Q (.ref (s.heap.objs.size + 1)) { s with heap := sortedAll s.heap vs (List.toArray out) }) :
    wpAny (model prog w) A (call (.builtin "sorted") [.ref l]) Q E s := by
  obtain ⟨hal, hk, hL, hd⟩ := ok
  have hL' : bs.length ≤ sizeLine := by rw [← List.length_map (f := enc)]; exact hL
  have hd' : ∀ b, b ∈ bs → A.units + 2 + (enc b).depth < cLine := fun b hb => by have := hd _ (List.mem_map.mpr ⟨b, hb, rfl⟩); omega
  have er' : EachIs (fun v b => ∃ as, Reads (sortingHeap (copyHeap s.heap vs) (s.heap.objs.size + 1) vs) v (enc b) as) vs bs := er.mono fun _ _ ⟨as, r⟩ => ⟨as, PyProof.Rows.Reads.keeps (fun _ _ => sorting_copy_old) r⟩
  have fin := h _ (by rw [sortVals_length false rfl]; exact e.length) (sortVals_data false e er' hal)
  have em := each_map (R := fun v d => ∃ as, Reads (sortingHeap (copyHeap s.heap vs) (s.heap.objs.size + 1) vs) v d as) enc er'
  rcases hk with hk | hk
  · exact sorted_valsT hl (SortsAt.data (s := { s with heap := sortingHeap (copyHeap s.heap vs) (s.heap.objs.size + 1) vs }) em hal hk (bound_map hd')) (by rw [e.length]; exact hL') fin
  · exact sorted_valsT hl (sortsAt_empty (s := { s with heap := sortingHeap (copyHeap s.heap vs) (s.heap.objs.size + 1) vs }) em hal hk (bound_map hd')) (by rw [e.length]; exact hL') fin
end
section
variable {X : Cx}
def rSortA (K : PySem.W.Frag) : List V → Hp → VK → Prop := fun vs H Q => ∃ (a : Addr) (xs : List V) (ds : List PyData), vs = [V.ref a] ∧ (SqL K H a xs ∨ SqT K H a xs) ∧ DvAll K H xs ds ∧ SortOk ds ∧
  ∀ p, H p = none → Q (.ref p) (upd H p (.lst (((xs.zip ds).mergeSort (dataLe false fun b : V × PyData => b.2)).map (·.1))))
theorem cr_sortA (hu : X.A.units + 128 < cLine) : CallR X (.builtin "sorted") (rSortA X.K) := by
  intro pins s σ H vs us Q I r h
  obtain ⟨a, xs, ds, rfl, hs, hd, ok, q⟩ := h
  rcases hs with hs | hs
  · exact cr_sortD hu pins s σ H _ us Q I r ⟨a, xs, ds, rfl, hs, hd, ok, q⟩
  · obtain ⟨its, rv, hl, hz⟩ := I.tuple hs
    rw [Vals.ref1 r]
    have hlen := hd.length
    have e := each_zip (R := fun u v => RelV v u) rv hlen (fun _ _ h => h)
    refine sorted_anyT (enc := fun b : V × PyData => b.2) hl e (reads_zip I rv hd) (by rw [zip_snd hlen]; exact ok) hu fun out e1 e2 => ?_
    obtain ⟨ep, he'⟩ := PyProof.Rows.sortedAll_at s.heap its out.toArray
    refine ⟨.ref _, upd H (s.heap.objs.size + 1) (.lst _), I.laid (t' := s.toks) (fun _ _ => PyProof.Rows.sortedAll_old) (Nat.le_succ _) ⟨?_, out, ep, vals_each e2, he'⟩, rfl, q _ (I.hok.fresh (Nat.le_succ _))⟩
    rw [List.length_map, List.length_mergeSort, List.length_zip, hlen, Nat.min_self]
    exact ok.2.2.1
def fSortedA : DRA := arg1 fun d x μ Q => match d with
  | .list ds => SortOk ds ∧ Q (mk (isV x) (.list (sortD ds))) μ
  | .tuple ds => SortOk ds ∧ Q (mk (isV x) (.list (sortD ds))) μ
  | _ => False
variable {e : Expr} {es : List Expr} {p pos : Pos} {k : Nat}
end
end DL
namespace DL
open PySem PySem.Spec PyProof.Rows L2 Evl
open PySem.W (alike alikeAll dataLt)
section
variable {X : Cx} {K : PySem.W.Frag} {pos : Pos}
def dDctD : DE := fun _ μ Q => Q (.dat (.dict [])) μ
def dAsgT (n : Nat) (gs : DGs) (ar : DA) : DS := fun D ρ μ => ar ρ μ fun ss μ1 => (ss.length = n ∧ n ≤ 1000) ∧ gs ss ρ μ1 D.nx
end
end DL
namespace DL
open PySem PySem.Spec PyProof.Rows L2 Evl
def itemsOf : List Sl → Option (List (Nat ⊕ PyData))
  | [] => some []
  | .cell k :: r => (itemsOf r).map (.inl k :: ·)
  | .dat d :: r => (itemsOf r).map (.inr d :: ·)
  | _ :: _ => none
def itS : Nat ⊕ PyData → Sl
  | .inl k => .cell k
  | .inr d => .dat d
section
variable {K : PySem.W.Frag} {W : Wd} {H : Hp} {μ : Mu}
theorem RefsAll.cons {xs : List V} {es : List (Nat ⊕ PyData)} {e : Nat ⊕ PyData} {u : V} (h : RefsAll K W xs es) (q : ItOk1 K W u e) : RefsAll K W (u :: xs) (e :: es) := by
  refine ⟨by simp [h.1], fun i f z => ?_⟩
  cases i with
  | zero => simp at z; subst z; exact ⟨u, by simp, q⟩
  | succ i => obtain ⟨b, z1, z2⟩ := h.2 i f (by simpa using z); exact ⟨b, by simpa using z1, z2⟩
theorem RefsAll.snoc {xs : List V} {es : List (Nat ⊕ PyData)} {e : Nat ⊕ PyData} {u : V} (h : RefsAll K W xs es) (q : ItOk1 K W u e) : RefsAll K W (xs ++ [u]) (es ++ [e]) := by
  refine ⟨by simp [h.1], fun i f z => ?_⟩
  by_cases c : i < es.length
  · rw [List.getElem?_append_left c] at z
    obtain ⟨b, z1, z2⟩ := h.2 i f z
    exact ⟨b, by rw [List.getElem?_append_left (by rw [h.1]; exact c)]; exact z1, z2⟩
  · rw [List.getElem?_append_right (by omega)] at z
    have hz := (List.getElem?_eq_some_iff.mp z).1
    have e0 : i - es.length = 0 := by simpa using hz
    rw [e0] at z
    have : e = f := by simpa using z
    subst this
    refine ⟨u, ?_, q⟩
    rw [List.getElem?_append_right (by rw [h.1]; omega), h.1, e0]
    rfl
def Wd.newF (W : Wd) (p : Addr) (o : HO) : Wd := ⟨W.G, upd W.F p o, W.ad⟩
theorem Le.newF (r : Rep K W H μ) {p : Addr} {o : HO} (hp : H p = none) : Le W (W.newF p o) := by
  obtain ⟨h1, h2⟩ := r.fresh hp
  exact ⟨Ex.refl _, Ex.new h1, fun b _ hg _ => hg, fun _ _ h => h⟩
theorem Rep.newF (r : Rep K W H μ) {p : Addr} {o : HO} (hp : H p = none) : Rep K (W.newF p o) (upd H p o) μ := by
  obtain ⟨h1, h2⟩ := r.fresh hp
  refine ⟨fun a u h => ?_, ex_upd r.fh, r.len, r.nd, fun k a c ha hc => ?_⟩
  · show upd W.F p o a = some u
    rw [upd_ne (show a ≠ p from fun z => by subst z; replace h : W.G _ = some u := h; rw [h2] at h; cases h)]
    exact r.gf a u h
  · obtain ⟨q1, o', q2, q3⟩ := r.cell k a c ha hc
    have ne : a ≠ p := fun z => by rw [z, hp] at q2; cases q2
    refine ⟨?_, o', ?_, q3⟩
    · show upd W.F p o a = none
      rw [upd_ne ne]; exact q1
    · rw [upd_ne ne]; exact q2
theorem Rep.chF (r : Rep K W H μ) {p : Addr} {o o' : HO} (hF : W.F p = some o) (hG : W.G p = none) : Rep K (W.newF p o') (upd H p o') μ := by
  refine ⟨fun a u h => ?_, ex_upd r.fh, r.len, r.nd, fun k a c ha hc => ?_⟩
  · show upd W.F p o' a = some u
    rw [upd_ne (show a ≠ p from fun z => by subst z; replace h : W.G _ = some u := h; rw [hG] at h; cases h)]
    exact r.gf a u h
  · obtain ⟨q1, o1, q2, q3⟩ := r.cell k a c ha hc
    have ne : a ≠ p := fun z => by rw [z, hF] at q1; cases q1
    refine ⟨?_, o1, ?_, q3⟩
    · show upd W.F p o' a = none
      rw [upd_ne ne]; exact q1
    · rw [upd_ne ne]; exact q2
theorem Le.chF {W2 : Wd} (r : Rep K W H μ) {p : Addr} {xs : List V} {o' : HO} (hp : H p = none) (l : Le (W.newF p (.lst xs)) W2) : Le W (W2.newF p o') ∧ W2.F p = some (.lst xs) ∧ W2.G p = none := by
  obtain ⟨h1, h2⟩ := r.fresh hp
  have e1 : (W.newF p (.lst xs)).F p = some (.lst xs) := upd_same
  have e2 := l.f _ _ e1
  have e3 : W2.G p = none := l.n p (by rw [e1]; exact fun z => by cases z) h2 (fun ys z => by rw [e1] at z; cases z)
  refine ⟨⟨l.g, fun b u hb => ?_, fun b hb hg ht => ?_, l.a⟩, e2, e3⟩
  · have ne : b ≠ p := fun z => by subst z; rw [h1] at hb; cases hb
    show upd W2.F p o' b = some u
    rw [upd_ne ne]
    exact l.f b u (by show upd W.F p _ b = some u; rw [upd_ne ne]; exact hb)
  · have ne : b ≠ p := fun z => hb (z ▸ h1)
    have e : (W.newF p (.lst xs)).F b = W.F b := upd_ne ne
    exact l.n b (by rw [e]; exact hb) hg (fun ys => by rw [e]; exact ht ys)
end
def dRefsApp (i : Nat) (a : DA) (e : DE) (b : DS) : DS := fun D ρ μ => i < ρ.length ∧ a ρ μ fun ss μ1 => ∃ es, itemsOf ss = some es ∧ es.length < sizeLine ∧ e (ρ.set i (some (.raw es))) μ1 fun s μ2 => ∃ x, s = itS x ∧ b D (ρ.set i (some (.raw (es ++ [x])))) μ2
def dLstR (a : DA) : DE := fun ρ μ Q => a ρ μ fun ss μ1 => ∃ es, itemsOf ss = some es ∧ es.length ≤ sizeLine ∧ Q (.raw es) μ1
section
variable {X : Cx} {K : PySem.W.Frag}
def iRefs (d : DE) : DI := fun ρ μ R => d ρ μ fun x μ1 => ∃ es, x = .raw es ∧ R (es.map itS) (fun _ => True) μ1
def rIxR : DR2 := fun x y μ Q => ∃ es i e, x = .raw es ∧ rd μ y = some (.int i) ∧ atI es i = some e ∧ Q (itS e) μ
end
end DL
namespace DL
open PySem PySem.Spec PyProof.Rows L2 Evl
def frzI (n : Nat) (μ : Mu) : List (Nat ⊕ PyData) → Option (List PyData)
  | [] => some []
  | .inl k :: r => if n ≤ k then match μ[k]? with
    | some (.lst ds) => (frzI n μ r).map (PyData.list ds :: ·)
    | _ => none else none
  | .inr d :: r => (frzI n μ r).map (d :: ·)
def finR (n : Nat) (Q' : DQ) : DQ := fun s μ' => match s with
  | .raw es => match frzI n μ' es with
    | some dss => Q' (.vw (.list dss)) (μ'.take n)
    | none => False
  | s => finQ n Q' s μ'
section
variable {K : PySem.W.Frag} {W W0 : Wd} {H : Hp} {μ : Mu}
def Wd.rest (W : Wd) (H : Hp) (n : Nat) : Wd := ⟨W.G, fun a => if a ∈ W.ad.drop n then H a else W.F a, W.ad.take n⟩
theorem mem_own {l : List Addr} {n : Nat} {a : Addr} : a ∈ l.drop n ↔ ∃ k, n ≤ k ∧ l[k]? = some a := by
  rw [List.mem_iff_getElem?]
  constructor
  · rintro ⟨i, h⟩
    rw [List.getElem?_drop] at h
    exact ⟨n + i, Nat.le_add_right .., h⟩
  · rintro ⟨k, hk, h⟩
    refine ⟨k - n, ?_⟩
    rw [List.getElem?_drop, Nat.add_sub_cancel' hk]
    exact h
theorem rest_some (r : Rep K W H μ) {n : Nat} {a : Addr} {o : HO} (h : W.F a = some o) : (W.rest H n).F a = some o := by
  show (if a ∈ W.ad.drop n then H a else W.F a) = _
  split
  · exact r.fh a o h
  · exact h
theorem Rep.rest (r : Rep K W H μ) (n : Nat) : Rep K (W.rest H n) H (μ.take n) := by
  refine ⟨fun a o h => rest_some r (r.gf a o h), fun a o h => ?_, by show (W.ad.take n).length = _; rw [List.length_take, List.length_take, r.len], fun i j a hi hj => r.nd i j a (take_some hi).1 (take_some hj).1, fun k a c ha hc => ?_⟩
  · replace h : (if a ∈ W.ad.drop n then H a else W.F a) = some o := h
    split at h
    · exact h
    · exact r.fh a o h
  · obtain ⟨ha1, hkn⟩ := take_some ha
    obtain ⟨z1, o, z2, z3⟩ := r.cell k a c ha1 (take_some hc).1
    refine ⟨?_, o, z2, z3⟩
    show (if a ∈ W.ad.drop n then H a else W.F a) = none
    rw [if_neg]
    · exact z1
    · intro z
      obtain ⟨j, hj, hja⟩ := mem_own.mp z
      have := r.nd k j a ha1 hja
      omega
theorem Le.rest (l : Le W0 W) (r : Rep K W H μ) : Le W0 (W.rest H W0.ad.length) :=
  ⟨l.g, fun a o h => rest_some r (l.f a o h), l.n, fun k x h => by
    have hk : k < W0.ad.length := (List.getElem?_eq_some_iff.mp h).1
    show (W.ad.take W0.ad.length)[k]? = some x
    rw [List.getElem?_take_of_lt hk]
    exact l.a k x h⟩
end
def PureR (N : List Str) (n : Nat) (φ : DF) (ds : DS) : Prop := ∀ ss μ Q', ss.length = n → φ ss μ Q' → ds ⟨fun _ μ' => finR μ.length Q' (.dat .none) μ', finR μ.length Q', fun _ _ => False, fun _ _ => False⟩ (startD N ss) μ
section
variable {P : Program} {w : World} {K : PySem.W.Frag} {mg : Str → Option Value} {base : Heap}
end
def dAsgG2 (d : DE) (g1 g2 : DG) : DS := fun D ρ μ => d ρ μ fun s μ1 => g1 s ρ μ1 fun ρ1 μ2 => g2 s ρ1 μ2 D.nx
def lcRD (C : Mu → Prop) (g : DG) (t : DT) (e : DE) (Q : DQ) (ρ : Rho) : List Sl → List (Nat ⊕ PyData) → Mu → Prop
  | [], es, μ => C μ ∧ Q (.raw es) μ
  | s :: ss, es, μ => C μ ∧ es.length < sizeLine ∧ g s ρ μ fun ρ1 μ1 => t ρ1 μ1 fun b μ2 => if b = true then e ρ1 μ2 fun v μ3 => ∃ x, v = itS x ∧ lcRD C g t e Q ρ ss (es ++ [x]) μ3 else lcRD C g t e Q ρ ss es μ2
def dLcR (i : DI) (g : DG) (t : DT) (e : DE) (vs : List Nat) : DE := fun ρ μ Q => i ρ μ fun ss C μ1 => lcRD C g t e Q (wipeD ρ vs) ss [] μ1
section
variable {X : Cx} {K : PySem.W.Frag}
variable {elt tg iter : Expr} {ifs : List Expr} {scope : Scope} {own : List (Str × Nat)} {pos : Pos} {i : DI} {g : DG} {t : DT} {e : DE}
end
end DL
namespace DL
open PySem PySem.Spec PyProof.Rows L2 Evl
section
variable {prog : Program} {w : World} {A : Around} {E : Value → Shared → Prop} {s : Shared} {a b : Addr} {oa ob : Obj} {es es2 : Array DictEntry} {ep ep2 : Nat} {Q : Value → Shared → Prop}
end
def rEqDE : R2 := fun x y H Q => ∃ (a b : Addr) (kvs : List (List Key × V)), x = .ref a ∧ y = .ref b ∧ H a = some (.dT kvs) ∧ H b = some (.dK []) ∧ Q (.bl kvs.isEmpty) H
def rEqE : DR2 := fun x y μ Q => ∃ (k : Nat) (kvs : List (List Key × PyData)), x = .cell k ∧ μ[k]? = some (.dctT kvs) ∧ y = .dat (.dict []) ∧ Q (.dat (.bool kvs.isEmpty)) μ
end DL
namespace DLZ
open PySem PySem.Spec PyProof.Rows
open PySem.Sem (wp)
section
variable {prog : Program} {w : World} {A : Around} {E : Value → Shared → Prop} {s : Shared}
def ZSt (h : Heap) (z TI TO i1 i2 l1 l2 : Addr) (k : Nat) : Prop :=
  IsPair h TI (.ref i1) (.ref i2) ∧ h.IsTupleIter i1 l1 k ∧ h.IsTupleIter i2 l2 k ∧
    ((IsZip h z TI TO .none ∧ ∃ a b, IsPair h TO a b) ∨ ∃ T f oT, IsZipHeld h z TI TO T f ∧ h.get? T = some oT ∧ T ≠ z ∧ T ≠ i1 ∧ T ≠ i2)
theorem ZSt.at {h h' : Heap} {z TI TO i1 i2 l1 l2 : Addr} {k : Nat} (st : ZSt h z TI TO i1 i2 l1 l2 k) (k' : ∀ b o, h.get? b = some o → b = z ∨ b = TI ∨ b = TO ∨ b = i1 ∨ b = i2 → h'.get? b = some o) (kT : ∀ b o, h.get? b = some o → ∃ o', h'.get? b = some o') : ZSt h' z TI TO i1 i2 l1 l2 k := by
  obtain ⟨p, a1, a2, q⟩ := st
  refine ⟨k' _ _ p (by simp), a1.at fun o e => k' _ _ e (by simp), a2.at fun o e => k' _ _ e (by simp), ?_⟩
  rcases q with ⟨q, a, b, q'⟩ | ⟨T, f, oT, q, q', n1, n2, n3⟩
  · exact .inl ⟨k' _ _ q (by simp), a, b, k' _ _ q' (by simp)⟩
  · obtain ⟨o', e⟩ := kT _ _ q'
    exact .inr ⟨T, f, o', k' _ _ q (by simp), e, n1, n2, n3⟩
end
end DLZ
namespace DLZ
open PySem PySem.Spec PyProof.Rows L2 Evl DL
open PySem.Sem (wp)
inductive TN (S : Addr) (xs ys : List V) (H0 : Hp) : Nat → List Addr → Hp → Prop
  | nil : TN S xs ys H0 0 [] H0
  | snoc {i : Nat} {bs : List Addr} {H : Hp} {T : Addr} {x y : V} : TN S xs ys H0 i bs H → xs[i]? = some x → ys[i]? = some y → H T = none → T ≠ S → TN S xs ys H0 (i + 1) (bs ++ [T]) (upd H T (.tup [x, y]))
theorem TN.length {S : Addr} {xs ys : List V} {H0 H : Hp} {i : Nat} {bs : List Addr} (h : TN S xs ys H0 i bs H) : bs.length = i := by
  induction h with
  | nil => rfl
  | snoc _ _ _ _ _ ih => rw [List.length_append, ih]; rfl
section
variable {X : Cx} {pins : List (Addr × Obj)} {σ : L2.St}
def tLstZip (K : PySem.W.Frag) (ta : TA) : TE := fun σ H Q => ta σ H fun vs H1 => ∃ a b xs ys, vs = [.ref a, .ref b] ∧ SqT K H1 a xs ∧ SqT K H1 b ys ∧ ∀ S bs Ht, TN S xs ys H1 (min xs.length ys.length) bs Ht → H1 S = none → Ht S = none → Q (.ref S) (upd Ht S (.lst (bs.map V.ref)))
end
def zipT (ds es : List PyData) : List PyData := (ds.zip es).map fun p => .tuple [p.1, p.2]
def dLstZip (ar : DA) : DE := fun ρ μ Q => ar ρ μ fun ss μ1 => match ss with
  | [x, y] => match rd μ1 x, rd μ1 y with
    | some (.tuple ds), some (.tuple es) => (isV x = false ∧ isV y = false) ∧ Q (.dat (.list (zipT ds es))) μ1
    | _, _ => False
  | _ => False
end DLZ
namespace DL
open PySem PySem.Spec PyProof.Rows L2 Evl
section
variable {X : Cx}
def rSumT (K : PySem.W.Frag) : List V → Hp → VK → Prop := fun vs H Q => ∃ (a : Addr) (ns : List Int), vs = [V.ref a] ∧ SqT K H a (ns.map V.int) ∧ Q (.int ns.sum) H
def fSumLT : DRA := arg1 fun d _ μ Q => match d with
  | .list ds => match intsOf ds with
    | some is => Q (.dat (.int is.sum)) μ
    | none => False
  | .tuple ds => match intsOf ds with
    | some is => Q (.dat (.int is.sum)) μ
    | none => False
  | _ => False
variable {e : Expr} {es : List Expr} {p pos : Pos}
theorem ints_of_map : ∀ ns : List Int, intsOf (ns.map PyData.int) = some ns
  | [] => rfl
  | b :: r => by simp [intsOf, ints_of_map r]
@[simp ↓] theorem o_sumL {ns : List Int} {μ : Mu} {Q : DQ} : fSumLT [.dat (.list (ns.map PyData.int))] μ Q = Q (.dat (.int ns.sum)) μ := by simp [fSumLT, arg1, ints_of_map]
@[simp ↓] theorem o_sumT {ns : List Int} {μ : Mu} {Q : DQ} : fSumLT [.dat (.tuple (ns.map PyData.int))] μ Q = Q (.dat (.int ns.sum)) μ := by simp [fSumLT, arg1, ints_of_map]
end
end DL
namespace DL
open PySem PySem.Spec PyProof.Rows L2 Evl
structure ErrT (K : PySem.W.Frag) (mg : Str → Option Value) (x f : Str) (st : Stmt) (q : Str) (C fI : Addr) : Prop where
  gC : mg x = some (.ref C)
  oex : OexC K C
  xfc : XfC K C
  noF : PySem.W.findIn K (.ref C) f = some none
  iC : PySem.W.findIn K (.ref C) "__init__" = some (some (.ref fI))
  tI : PySem.W.typeIn K (.ref fI) = some (.type "function")
  te : PySem.W.exmOne K (.ref C) (.ref C) = some true
  fn : ∃ fd, Fun K "__init__" q st fI fd
def spInit (K : PySem.W.Frag) (f : Str) (C : Addr) : Sp := fun vs H Q _ => ∃ (a : Addr) (y : V), vs = [.ref a, y] ∧ H a = some (exo a C none) ∧ ∀ dx, H dx = none → dx ≠ a → Q .non (upd (upd H dx (exd dx [(f, y)])) a (exo a C (some dx)))
section
variable {P : Program} {w : World} {K : PySem.W.Frag} {mg : Str → Option Value} {base : Heap} {x f q : Str} {st : Stmt} {C fI : Addr}
theorem ok_init {fd : FuncData} {N : List Str} (hN : N = [PySem.Str.ofString "self", PySem.Str.ofString "value"]) (T : ErrT K mg x f st q C fI) (F : Fun K "__init__" q st fI fd) (S : FnScope N N (defScope st))
    (hb : ∀ (cdv : Value) (A : Around) (outer : List Env) (s : Shared) (H : Hp) (E : XK), PSs (cxOf CX0 P w K mg base N q (defScope st) fI cdv A outer s H E).nox (defBody st) (tOst K f (tVar 0) (tVar 1))) : FnOk P w K mg base CX0 1 fI fd N (spInit K f C) := by
  subst hN
  refine F.ok S (fun vs H Q E h => ?_) (fun cdv A outer s H vs Q E hr h => ⟨_, hb cdv A outer s H E, ?_⟩)
  · obtain ⟨a, y, rfl, _⟩ := h
    rfl
  · obtain ⟨a, y, rfl, ha, k⟩ := h
    exact ⟨y, rfl, .ref a, rfl, a, C, rfl, T.oex, T.noF, .inl ⟨ha, fun dx h1 h2 => k dx h1 h2⟩⟩
abbrev DFX := List Sl → Mu → DQ → DQ → Prop
def SpX (K : PySem.W.Frag) (n : Nat) (f : Str) (C : Addr) (φ : DFX) : Sp := fun vs H Q E => ∃ W ss μ Q' R', vs.length = n ∧ SlAll K W vs ss ∧ Rep K W H μ ∧ φ ss μ Q' R' ∧ VOk K W Q' Q ∧
  ∀ v s W' H' μ' dx, Le W W' → Rep K W' H' μ' → SlOk K W' v s → H' dx = some (.xd [(f, v)]) → R' s μ' → E (.ref C) (some dx) H'
theorem Rep.ex {W : Wd} {H H' : Hp} {μ : Mu} (r : Rep K W H μ) (e : Ex H H') : Rep K W H' μ :=
  ⟨r.gf, r.fh.trans e, r.len, r.nd, fun k a c ha hc => let ⟨z1, o, z2, z3⟩ := r.cell k a c ha hc; ⟨z1, o, e a o z2, z3⟩⟩
end
section
variable {X : Cx} {x f q : Str} {st : Stmt} {C fI : Addr}
theorem mk_err {K : PySem.W.Frag} {y : V} {H1 : Hp} {Q : XK} (h : ∀ dx H', Ex H1 H' → H' dx = some (.xd [(f, y)]) → Q (.ref C) (some dx) H') : ([y] : List V).length ≤ 1000 ∧ ∀ a, H1 a = none → spInit K f C (.ref a :: ([y] ++ [])) (upd H1 a (exo a C none))
    (fun v H2 => v = .non ∧ ∃ (d : Addr) (fs : List (Str × V)), H2 a = some (exo a C (some d)) ∧ H2 d = some (exd d fs) ∧ H1 d = none ∧ Q (.ref C) (some d) (upd (del H2 a) d (.xd fs))) (fun _ _ _ => False) := by
  refine ⟨by simp, fun a ha => ⟨a, y, rfl, upd_same, fun dx h1 h2 => ⟨rfl, dx, [(f, y)], upd_same, ?_, ?_, ?_⟩⟩⟩
  · rw [upd_ne h2, upd_same]
  · rw [upd_ne h2] at h1; exact h1
  · have hd : H1 dx = none := by rw [upd_ne h2] at h1; exact h1
    refine h dx _ (fun b o e => ?_) upd_same
    have nb : b ≠ dx := fun z => by subst z; rw [hd] at e; cases e
    have na : b ≠ a := fun z => by subst z; rw [ha] at e; cases e
    rw [upd_ne nb, del_ne na, upd_ne na, upd_ne nb, upd_ne na]
    exact e
variable {CX : CXT} {k : Nat} {g : Addr} {fd : FuncData} {ps : List Str} {sp : Sp} {E : L2.St → XK} {y : Str} {p pos : Pos} {e : Expr} {es : List Expr} {t : TA}
theorem pe_callSG (F : FnG X.prog X.w X.K X.mg X.base CX k g fd ps sp) (hr : RoomG k X.A) (hg : Gl X y) (hm : X.mg y = some (.ref g)) (hk : PySem.W.keepIn X.K (.ref g) = true) (hb : Binds X.K fd ps []) (hx : ∀ σ, PassesAt CX X σ (E σ))
    (ha : PA X (e :: es) t) (hdb : (y == ("__debug__" : Str)) = false := by decide) (he : starEach (e :: es) X.env = (false, eval e X.env) :: starEach es X.env := by rfl) (hpl : (backTo pos (starEach es X.env)).any (·.1) = false := by rfl) :
    PE X (.Call (.Name y p) (e :: es) [] pos) (tCallS sp E t) := by
  refine ⟨fun pins s σ H Q I h => wpAny_Call_Name_kw (ld_glob I hg hm ?_ hdb)⟩
  refine PySem.W.callWith_K (h₀ := X.base) I.ok.mod.kin hk (thn (ha.run pos pins s σ H _ I h) fun us s1 z => ?_) he hpl
  obtain ⟨vs, H1, I1, r, q⟩ := z
  have hl : us.length = ps.length := by rw [← r.length]; exact F.len _ _ _ _ q
  have b := hb s1 us I1.kIn (by rw [List.append_nil]; exact hl)
  rw [List.append_nil] at b
  refine ⟨I1.kIn, wpAny_call (codeAny_mono (F.run X.A X.stack s1 H1 ⟨us, []⟩ us vs Q (E σ) hr I1.env0 b r q) fun r s' hq => ?_)⟩
  cases r with
  | error e => exact hx σ pins H1 s1 e s' I1 hq
  | ok fl => cases fl <;> first | exact I1.after hq | exact False.elim hq
theorem EnvOk.none {K : PySem.W.Frag} {W : Wd} {σ : L2.St} {ρ : Rho} (h : EnvOk K W σ ρ) (i : Nat) (o : Option V) : EnvOk K W (σ.set i o) (ρ.set i Option.none) := by
  refine ⟨by simp [h.len], fun j t e => ?_⟩
  by_cases hij : i = j
  · subst hij
    by_cases hl : i < ρ.length
    · rw [List.getElem?_set_self hl] at e; cases e
    · rw [List.getElem?_eq_none (by rw [List.length_set]; omega)] at e; cases e
  · rw [List.getElem?_set_ne hij] at e
    obtain ⟨w, h1, h2⟩ := h.get j t e
    exact ⟨w, by rw [List.getElem?_set_ne hij]; exact h1, h2⟩
def dTry (iT iE n : Nat) (φ : DFX) (a : DA) : DS := fun D ρ μ => iE < ρ.length ∧ a ρ μ fun ss μ1 => ss.length = n ∧ φ ss μ1 (fun s μ2 => D.nx (ρ.set iT (some s)) μ2)
  (fun s μ2 => ∃ d, rd μ2 s = some d ∧ okR d ∧ D.nx (((ρ.set iE none).set iT (some (.dat (.str d.shown)))).set iE none) μ2)
structure OwnX (P : Program) (w : World) (K : PySem.W.Frag) (mg : Str → Option Value) (base : Heap) (y : Str) (st : Stmt) (ps : List Str) (k n : Nat) (f : Str) (C : Addr) (φ : DFX) : Prop where
  ex : ∃ g fd, Fun K y y st g fd ∧ FnG P w K mg base (L2.CX P w) k g fd ps (SpX K n f C φ) ∧ mg y = some (.ref g)
end
section
variable {K : PySem.W.Frag} {h : Heap} {mg : Str → Option Value} {x f q : Str} {st : Stmt} {C fI : Addr} {Z : Prop}
theorem err_of (X : K.In h) (G : h.Ns mainGlobals mg) {nm qn : Str} {N : Addr} {bs bm : List Value} {sn : List Str} {sub : List Value} {ab : Bool} {col : Option Bool} {dd : Option Addr} {m0 m1 m2 m3 m5 : Option Value} {od an : Option Addr} {sl : Array (Option Value)} {oc kV dc pm cd ct : Value}
    (aC : PySem.W.nsIn K mainGlobals x = some (some (.ref C))) (xL : K.lookup C = some (excClassObj nm qn C N bs bm true sn sub ab col dd m0 m1 m2 m3 m5 "ValueError.__new__")) (hbm : PySem.HandSPX.refsVE bm = true)
    (sa : PySem.W.findIn K (.ref C) "__setattr__" = some (some (.builtin "object.__setattr__"))) (ga : PySem.W.findIn K (.ref C) "__getattribute__" = some (some (.builtin "BaseException.__getattribute__"))) (gg : PySem.W.findIn K (.ref C) "__getattr__" = some none) (nb : PySem.W.findIn K (.ref C) f = some none)
    (a1 : PySem.W.findIn K (.ref C) "__init__" = some (some (.ref fI))) (t1 : PySem.W.typeIn K (.ref fI) = some (.type "function"))
    (l1 : K.lookup fI = some ⟨oc, od, .func (PySem.W.fnOf "__init__" q (defArgs st) (defBody st) (defScope st) .none kV dc pm an cd ct), sl⟩) (c1 : PySem.W.codeIn K cd q = true) (kf : PySem.W.keepIn K (.ref fI) = true)
    (kC : PySem.W.keepIn K (.ref C) = true) (eC : PySem.W.subIn K (.ref C) (.type "BaseException") = some true) (tC : PySem.W.typeIn K (.ref C) = some (.type "type")) (hC : PySem.W.hasDictIn K C = true) (sC : PySem.W.subIn K (.ref C) (.ref C) = some true)
    (z : ErrT K mg x f st q C fI → Z) : Z :=
  z { gC := PySem.W.mg_of X G aC, oex := ⟨⟨nm, qn, N, bs, bm, sn, sub, ab, col, dd, m0, m1, m2, m3, m5, xL, hbm⟩, sa, eC, tC, kC⟩, xfc := ⟨ga, gg, eC, hC⟩, noF := nb, iC := a1, tI := t1, te := PySem.W.exm_ref eC hC tC sC, fn := ⟨_, fun_mk l1 c1 kf⟩ }
end
end DL
namespace DL
open PySem PySem.Spec PyProof.Rows L2 Evl
section
variable {X : Cx}
def dAugS (r : DR2) (od id ed : DE) : DS := fun D ρ μ => od ρ μ fun o μ1 => id ρ μ1 fun i μ2 => ∃ k j ds d, o = .cell k ∧ i = .dat (.int j) ∧ μ2[k]? = some (.lst ds) ∧ atI ds j = some d ∧
  ed ρ μ2 fun y μ4 => r (.dat d) y μ4 fun z μ5 => wrL o i z μ5 (D.nx ρ)
end
end DL
namespace DL
open PySem PySem.Spec PyProof.Rows L2 Evl
section
variable {X : Cx}
abbrev Blks (X : Cx) (sc : Scope) (φ : Cx → Prop) : Prop := ∀ (z : Shared) (G : Hp) (A1 : Addr) (cs : List (Str × Addr)) (fp : List Addr), φ (X.blk z G sc (compEnvC sc cs A1 X.env) fp)
def tTurnT (tk tv : TE) (D : Addr) (Nx : Hp → Prop) (τ : L2.St) (G : Hp) : Prop := tk τ G fun y G1 => tv τ G1 fun u G2 => ∃ b ks tb, y = V.ref b ∧ G2 b = some (.tup (ks.map kV)) ∧ G2 D = some (.dT tb) ∧ tb.length < sizeLine ∧ Nx (upd G2 D (.dT (putK tb ks u)))
def tDcT (wi : TI) (g : TG) (tt : TT) (tk tv : TE) (vs : List Nat) : TE := fun σ G Q => wi σ G fun J G1 => ∀ D, G1 D = none → ∃ W : Nat → Nat → Hp → Prop, (∃ m, W 0 m (upd G1 D (.dT []))) ∧ ∀ i m G, W i m G →
  (J.stop i G ∧ Q (.ref D) G) ∨ (J.go i G ∧ ∃ Nx : Hp → Prop, (∀ G', Nx G' → ∃ m', m' < m ∧ W (i + 1) m' G') ∧ ∀ x G', J.yld i G x G' → g x (wipe σ vs) G' fun τ G2 => wipe τ vs = wipe σ vs ∧ tt τ G2 fun b G3 => if b = true then tTurnT tk tv D Nx τ G3 else Nx G3)
end
def putKeys (x : Sl) (ks : List Key) (v : Sl) (μ : Mu) (Q : Mu → Prop) : Prop := match x, v with
  | .cell k, .dat d => match μ[k]? with
    | some (.dctT es) => es.length < sizeLine ∧ Q (μ.set k (.dctT (putD es ks d)))
    | _ => False
  | _, _ => False
def dcDT (C : Mu → Prop) (g : DG) (t : DT) (ak : DA) (ev : DE) (k : Nat) (Q : Mu → Prop) (ρ : Rho) : List Sl → Mu → Prop
  | [], μ => C μ ∧ Q μ
  | s :: ss, μ => C μ ∧ g s ρ μ fun ρ1 μ1 => t ρ1 μ1 fun b μ2 => if b = true then ak ρ1 μ2 fun ys μ3 => ∃ ds ks, datsOf ys = some (false, ds) ∧ keysA ds = some ks ∧ ds.length ≤ sizeLine ∧ ev ρ1 μ3 fun v μ4 => putKeys (.cell k) ks v μ4 (dcDT C g t ak ev k Q ρ ss) else dcDT C g t ak ev k Q ρ ss μ2
def dDcT (i : DI) (g : DG) (t : DT) (ak : DA) (ev : DE) (vs : List Nat) : DE := fun ρ μ Q => i ρ μ fun ss C μ1 => dcDT C g t ak ev μ1.length (fun ν => Q (.cell μ1.length) ν) (wipeD ρ vs) ss (μ1 ++ [.dctT []])
section
variable {X : Cx} {K : PySem.W.Frag}
def taOf (K : PySem.W.Frag) (d : DA) : TA := fun σ H Q => ∃ W ρ μ Q', EnvOk K W σ ρ ∧ Rep K W H μ ∧ d ρ μ Q' ∧ AOk K W Q' Q
theorem PDA.of {X : Cx} {es : List Expr} {d : DA} (h : PDA X es d) : PA X es (taOf X.K d) := by
  obtain ⟨t, p, l⟩ := h
  exact ⟨fun cpos pins s σ H Q I ⟨W, ρ, μ, Q', he, r, hd, q⟩ => p.run cpos pins s σ H Q I (l ρ μ Q' hd W σ H he r Q q)⟩
variable {vx tg iter : Expr} {es : List Expr} {x1} {ifs : List Expr} {scope : Scope} {own : List (Str × Nat)} {pos kpos : Pos} {i : DI} {g : DG} {t : DT} {ak : DA} {ev : DE} {n : Nat}
end
end DL
namespace DL
open PySem PySem.Spec PyProof.Rows L2 Evl PySem.W
section
variable {X : Cx}
def keyTs (kvs : List (List Key × PyData)) : List PyData := kvs.map fun e => .tuple (e.1.map kD)
def keyTv (kvs : List (List Key × V)) : List PyData := kvs.map fun e => .tuple (e.1.map kD)
def rSortDT (K : PySem.W.Frag) : List V → Hp → VK → Prop := fun vs H Q => ∃ (d : Addr) (kvs : List (List Key × V)), vs = [V.ref d] ∧ H d = some (.dT kvs) ∧ SortOk (keyTv kvs) ∧
  ∀ p bs, H p = none → IsKeys H kvs bs → Q (.ref p) (upd H p (.lst ((((bs.map V.ref).zip (keyTv kvs)).mergeSort (dataLe false fun b : V × PyData => b.2)).map (·.1))))
end
def fSortedDT : DRA := fun xs μ Q => match xs with
  | [.cell k] => match μ[k]? with
    | some (.dctT es) => SortOk (keyTs es) ∧ Q (.dat (.list (sortD (keyTs es)))) μ
    | _ => False
  | _ => False
section
variable {X : Cx} {e : Expr} {es : List Expr} {p pos : Pos} {k : Nat}
end
end DL
namespace DL
open PySem PySem.Spec PyProof.Rows L2 Evl
def rMulN : DR2 := fun x y μ Q => match x, rd μ y with
  | .cell k, some (.int n) => match μ[k]? with
    | some (.lst ds) => (0 ≤ n ∧ n ≤ 1000 ∧ ds.length ≤ 1000) ∧ Q (.cell μ.length) (μ ++ [.lst (List.replicate n.toNat ds).flatten])
    | _ => False
  | _, _ => False
section
variable {X : Cx} {K : PySem.W.Frag}
end
end DL
namespace DL
open PySem PySem.Spec PyProof.Rows L2 Evl
def SqK (t : Bool) (K : PySem.W.Frag) (H : Hp) (a : Addr) (xs : List V) : Prop := match t with
  | true => SqT K H a xs
  | false => SqL K H a xs
def itK (t : Bool) (h : Heap) (it a : Addr) (i : Nat) : Prop := match t with
  | true => h.IsTupleIter it a i
  | false => h.IsListIter it a i
def sqK (t : Bool) (h : Heap) (a : Addr) (items : Array Value) : Prop := match t with
  | true => h.IsTuple a items
  | false => h.IsList a items
def itO (t : Bool) (a : Addr) : Obj := match t with
  | true => { cls := .type "tuple_iterator", data := .fields #[.ref a, .int 0 0] }
  | false => { cls := .type "list_iterator", data := .fields #[.ref a, .int 0 0] }
section
variable {P : Program} {w : World} {A : Around}
end
section
variable {X : Cx} {pins : List (Addr × Obj)} {σ : L2.St} {H : Hp} {s : Shared}
end
def ItzG (K : PySem.W.Frag) (t u : Bool) (a b : Addr) : It :=
  ⟨fun i H => ∃ (xs ys : List V) (x y : V), SqK t K H a xs ∧ SqK u K H b ys ∧ xs[i]? = some x ∧ ys[i]? = some y,
    fun i H v H' => ∃ T x y, v = .ref T ∧ H T = none ∧ H' = upd H T (.tup [x, y]) ∧ (∀ xs, SqK t K H a xs → xs[i]? = some x) ∧ ∀ ys, SqK u K H b ys → ys[i]? = some y,
    fun i H => ∃ xs ys : List V, SqK t K H a xs ∧ SqK u K H b ys ∧ (xs.length ≤ i ∨ ys.length ≤ i)⟩
def iZipG (K : PySem.W.Frag) (t u : Bool) (ta : TA) : TI := fun σ H R => ta σ H fun vs H1 => ∃ a b xs ys, vs = [.ref a, .ref b] ∧ SqK t K H1 a xs ∧ SqK u K H1 b ys ∧ R (ItzG K t u a b) H1
end DL
namespace DL
open PySem PySem.Spec PyProof.Rows L2 Evl
def seqR (t : Bool) (ds : List PyData) : PyData := if t then .tuple ds else .list ds
def iZpG (t u : Bool) (a : DA) : DI := fun ρ μ R => a ρ μ fun ss μ1 => match ss with
  | [x, y] => ∃ ds es, rd μ1 x = some (seqR t ds) ∧ rd μ1 y = some (seqR u es) ∧ R (zipS x y ds es) (fun ν => rd ν x = some (seqR t ds) ∧ rd ν y = some (seqR u es)) μ1
  | _ => False
section
variable {X : Cx} {p pos : Pos}
end
end DL
namespace DL
open PySem PySem.Spec PyProof.Rows L2 Evl
section
variable {D : DEnds} {ρ : Rho} {μ : Mu} {Q : DQ}
end
def rgC (lo c : Int) (n : Nat) : List Sl := (List.range n).map fun (i : Nat) => Sl.dat (.int (lo + (i : Int) * c))
def iRg3 (a : DA) : DI := fun ρ μ R => a ρ μ fun ss μ1 => match ss with
  | [.dat (.int i), .dat (.int j), .dat (.int c)] => ∃ n : Nat, RgC i j c n ∧ R (rgC i c n) (fun _ => True) μ1
  | _ => False
section
variable {X : Cx} {K : PySem.W.Frag} {tg a b c e e2 : Expr} {p pos : Pos} {da : DA}
def iZpE (a : DA) : DI := fun ρ μ R => ∃ t u, iZpG t u a ρ μ R
end
def rRevL : DR1 := fun x μ Q => match rd μ x with
  | some (.list ds) => Q (mk (isV x) (.list ds.reverse)) μ
  | _ => False
section
variable {X : Cx} {e : Expr} {k : Nat} {p1 p2 p3 pos : Pos} {d : DE} {ds : List PyData} {μ : Mu} {Q : DQ}
theorem pd_revL (ha : PD X e d) : PD X (.Subscript e (.Slice none none (some (.UnaryOp .USub (.Constant (.int 1) k p1) p2)) p3) pos) (dUn rRevL d) := by
  obtain ⟨t, q1, l1⟩ := ha
  refine ⟨_, pe_revL q1, fun ρ μ Q' h W σ H henv rp Q q => l1 ρ μ _ h W σ H henv rp _ fun v s W1 H1 μ1 le1 r1 hs h1 => ?_⟩
  replace h1 : (match rd μ1 s with | some (.list ds) => Q' (mk (isV s) (.list ds.reverse)) μ1 | _ => False) := h1
  split at h1
  · rename_i ds ee
    obtain ⟨a, xs, rfl, ht, hi⟩ := rd_lst r1 hs ee
    exact ⟨a, xs, rfl, ht, fun p hp => (q.le le1).newL r1 (DvAll.rev hi) h1 p hp⟩
  · exact h1.elim
@[simp ↓] theorem o_revL : rRevL (.dat (.list ds)) μ Q = Q (.dat (.list ds.reverse)) μ := rfl
end
end DL
namespace DL
open PySem PySem.Spec PyProof.Rows L2 Evl
section
variable {X : Cx} {a b : Expr} {da db : DE} {pos : Pos}
def bI (b : Bool) : Int := if b = true then 1 else 0
def rBI (g : Int → Int → Int) : R2 := fun x y H Q => (∃ i j, x = .int i ∧ y = .int j ∧ Q (.int (g i j)) H) ∨ ∃ c j, x = .bl c ∧ y = .int j ∧ Q (.int (g (bI c) j)) H
def numD : PyData → Option Int
  | .int i => some i
  | .bool c => some (bI c)
  | _ => none
def rNum (g : Int → Int → Int) : DR2 := fun x y μ Q => match rd μ x, rd μ y with
  | some d, some (.int j) => ∃ i, numD d = some i ∧ Q (.dat (.int (g i j))) μ
  | _, _ => False
def rAddB : DR2 := rNum (· + ·)
def rSubB : DR2 := rNum (· - ·)
@[simp ↓] theorem o_addB {d : PyData} {j : Int} {μ : Mu} {Q : DQ} : rAddB (.dat d) (.dat (.int j)) μ Q = ∃ i, numD d = some i ∧ Q (.dat (.int (i + j))) μ := rfl
@[simp ↓] theorem o_subB {d : PyData} {j : Int} {μ : Mu} {Q : DQ} : rSubB (.dat d) (.dat (.int j)) μ Q = ∃ i, numD d = some i ∧ Q (.dat (.int (i - j))) μ := rfl
def maxI : List Int → Int
  | [] => 0
  | x :: r => r.foldl (fun a y => if a < y then y else a) x
def fMaxL : DRA := arg1 fun d _ μ Q => match d with
  | .list ds => match intsOf ds with
    | some is => is ≠ [] ∧ Q (.dat (.int (maxI is))) μ
    | none => False
  | _ => False
variable {e : Expr} {es : List Expr} {p : Pos}
end
end DL
namespace DL
open PySem PySem.Spec PyProof.Rows L2 Evl
def IsCnt (ns : List Int) (c : Nat) : Prop := ∃ ks : List Int, ks.Nodup ∧ (∀ k, k ∈ ks ↔ k ∈ ns) ∧ ks.length = c
def tLenSetG (K : PySem.W.Frag) (ta : TE) : TE := fun σ H Q => ta σ H fun x H1 => ∃ (l : Addr) (ns : List Int), x = .ref l ∧ (SqL K H1 l (ns.map V.int) ∨ SqT K H1 l (ns.map V.int)) ∧ ns.length ≤ 1000 ∧ ∀ c : Nat, IsCnt ns c → Q (.int (c : Nat)) H1
theorem ints_of_vals : ∀ {ns : List Int} {us : List Value}, Vals (ns.map V.int) us → PyProof.Rows.IntsAre us ns
  | [], _, .nil => .nil
  | n :: ns, _, .cons r t => by
    obtain ⟨k, rfl⟩ := r
    exact .cons n k (ints_of_vals t)
section
variable {X : Cx}
def rLenSet (K : PySem.W.Frag) : V → Hp → VK → Prop := fun x H1 Q => ∃ (l : Addr) (ns : List Int), x = .ref l ∧ (SqL K H1 l (ns.map V.int) ∨ SqT K H1 l (ns.map V.int)) ∧ ns.length ≤ 1000 ∧ ∀ c : Nat, IsCnt ns c → Q (.int (c : Nat)) H1
def fLenSet : DR1 := fun x μ Q => match rd μ x with
  | some (.list ds) => match intsOf ds with
    | some ns => ns.length ≤ 1000 ∧ ∀ c : Nat, IsCnt ns c → Q (.dat (.int (c : Nat))) μ
    | none => False
  | some (.tuple ds) => match intsOf ds with
    | some ns => ns.length ≤ 1000 ∧ ∀ c : Nat, IsCnt ns c → Q (.dat (.int (c : Nat))) μ
    | none => False
  | _ => False
section
variable {ns : List Int} {μ : Mu} {Q : DQ}
end
def IsUp (ns ms : List Int) : Prop := ms.Pairwise (· < ·) ∧ ∀ k, k ∈ ms ↔ k ∈ ns
def rUpSet (K : PySem.W.Frag) : V → Hp → VK → Prop := fun x H1 Q => ∃ (l : Addr) (ns : List Int), x = .ref l ∧ SqT K H1 l (ns.map V.int) ∧ ns.length < 64 ∧ ∀ (ms : List Int) (p : Addr), IsUp ns ms → H1 p = none → Q (.ref p) (upd H1 p (.lst (ms.map V.int)))
def fUpSet : DR1 := fun x μ Q => match rd μ x with
  | some (.tuple ds) => match intsOf ds with
    | some ns => ns.length < 64 ∧ ∀ ms : List Int, IsUp ns ms → Q (.dat (.list (ms.map PyData.int))) μ
    | none => False
  | _ => False
end
end DL
namespace DL
open PySem PySem.Spec PyProof.Rows L2 Evl
section
variable {P : Program} {w : World} {A : Around} {E : Value → Shared → Prop} {s : Shared} {Kt : Type} [DecidableEq Kt] {knd : PySem.KeyKind P w Kt}
theorem setOf_keep {h h' : Heap} {a : Addr} {S : Kt → Bool} {n : Nat} (R : h.SetOf knd a S n) (k : ∀ o, h.get? a = some o → h'.get? a = some o) : h'.SetOf knd a S n := by
  obtain ⟨o, es, ep, t, ho, r⟩ := R
  exact ⟨o, es, ep, t, k o ho, r⟩
structure SetG (knd : PySem.KeyKind P w Kt) (h : Heap) (a : Addr) (us ks : List Kt) : Prop where
  nd : us.Nodup
  mem : ∀ k, k ∈ us ↔ k ∈ ks
  ob : h.SetOf knd a (fun j => decide (j ∈ us)) us.length
theorem SetG.keep {h h' : Heap} {a : Addr} {us ks : List Kt} (R : SetG knd h a us ks) (k : ∀ o, h.get? a = some o → h'.get? a = some o) : SetG knd h' a us ks := ⟨R.nd, R.mem, setOf_keep R.ob k⟩
def KeysAre (knd : PySem.KeyKind P w Kt) (items : Array Value) (ks : List Kt) : Prop := items.size = ks.length ∧ ∀ (i : Nat) (v : Value), items[i]? = some v → ∃ k, ks[i]? = some k ∧ knd.is k v = true ∧ v.scannable = true
end
def leafOf : PyData → Option Leaf
  | .none => some .none
  | .bool b => some (.num (if b = true then 1 else 0))
  | .int i => some (.num i)
  | .str x => some (.text x)
  | _ => none
def leavesOf : List PyData → Option (List Leaf)
  | [] => some []
  | d :: ds => match leafOf d, leavesOf ds with
    | some k, some ks => some (k :: ks)
    | _, _ => none
def IsCntA (ks : List Leaf) (c : Nat) : Prop := ∃ us : List Leaf, us.Nodup ∧ (∀ k, k ∈ us ↔ k ∈ ks) ∧ us.length = c
def Lvs (K : PySem.W.Frag) (H : Hp) (x : V) (ks : List Leaf) : Prop := ∃ (l : Addr) (xs : List V) (ds : List PyData), x = .ref l ∧ (SqL K H l xs ∨ SqT K H l xs) ∧ DvAll K H xs ds ∧ leavesOf ds = some ks
def rLenSetA (K : PySem.W.Frag) : V → Hp → VK → Prop := fun x H1 Q => ∃ ks : List Leaf, Lvs K H1 x ks ∧ ks.length ≤ 1000 ∧ ∀ c : Nat, IsCntA ks c → Q (.int (c : Nat)) H1
section
variable {X : Cx}
def fLenSetA : DR1 := fun x μ Q => match rd μ x with
  | some (.list ds) => match leavesOf ds with
    | some ks => ks.length ≤ 1000 ∧ ∀ c : Nat, IsCntA ks c → Q (.dat (.int (c : Nat))) μ
    | none => False
  | some (.tuple ds) => match leavesOf ds with
    | some ks => ks.length ≤ 1000 ∧ ∀ c : Nat, IsCntA ks c → Q (.dat (.int (c : Nat))) μ
    | none => False
  | _ => False
end
section
variable {ds : List PyData} {ks : List Leaf} {ns : List Int} {μ : Mu} {Q : DQ}
theorem nodupLen {α : Type} [DecidableEq α] : ∀ {l m : List α}, l.Nodup → (∀ x ∈ l, x ∈ m) → l.length ≤ m.length
  | [], _, _, _ => Nat.zero_le _
  | x :: l, m, nd, h => by
    have n := List.nodup_cons.mp nd
    have hx := h x (List.mem_cons_self ..)
    have q := nodupLen (l := l) (m := m.erase x) n.2 fun y hy => (List.mem_erase_of_ne (fun e => n.1 (by rw [← e]; exact hy))).mpr (h y (List.mem_cons_of_mem _ hy))
    rw [List.length_erase_of_mem hx] at q
    have := List.length_pos_of_mem hx
    rw [List.length_cons]
    omega
theorem IsCntA.le {c : Nat} (h : IsCntA ks c) : c ≤ ks.length := by
  obtain ⟨us, nd, hm, hl⟩ := h
  rw [← hl]
  exact nodupLen nd fun k hk => (hm k).mp hk
end
end DL
namespace WL
open PySem PySem.Spec PyProof.Rows L2 Evl DL
open PySem.W (EachIs dataLe dataLt dataKind SortsAt sortVals sortVals_data sortVals_length each_map bound_map AllAlike Sortable sortingHeap sortingHeap_old list_sort_vals)
def encP (q : Addr × List Int) : PyData := rowI q.2
theorem reads_ints {h : Heap} : ∀ {vs : List Value} {ns : List Int}, IntsAre vs ns → ∃ as, ReadsAll h vs (ns.map PyData.int) as
  | _, _, .nil => ⟨_, ReadsAll.nil⟩
  | _, _, .cons n t r => by
    obtain ⟨as, q⟩ := reads_ints (h := h) r
    exact ⟨_, ReadsAll.cons (Reads.int n t) q⟩
theorem reads_isT {P : Program} {w : World} {h : Heap} {q : Addr × List Int} (x : IsT P w h q.2 q.1) : ∃ as, Reads h (.ref q.1) (encP q) as := by
  obtain ⟨o, its, n, ho, hc, hd, hi⟩ := x
  obtain ⟨as, r⟩ := reads_ints (h := h) (ints_of_items hi)
  exact ⟨_, Reads.tuple ho hc hd r⟩
theorem each_refs {R : Value → Addr × List Int → Prop} : ∀ {L : List (Addr × List Int)}, (∀ q ∈ L, R (.ref q.1) q) → EachIs R (L.map fun q => Value.ref q.1) L
  | [], _ => .nil
  | q :: L, h => .cons (h q (List.mem_cons_self ..)) (each_refs fun r hr => h r (List.mem_cons_of_mem _ hr))
theorem refs_each : ∀ {out : List Value} {L : List (Addr × List Int)}, EachIs (fun u (q : Addr × List Int) => u = Value.ref q.1) out L → out = L.map fun q => Value.ref q.1
  | _, _, .nil => rfl
  | _, _, .cons h t => by rw [h, refs_each t]; rfl
section
variable {P : Program} {w : World} {A : Around} {E : Value → Shared → Prop} {s : Shared}
theorem sort_rowsOk {L : List (Addr × List Int)} (hne : ∀ q ∈ L, q.2 ≠ []) (hl : L.length ≤ 1000) : SortOk (L.map encP) := by
  have e : L.map encP = (L.map (·.2)).map rowI := by rw [List.map_map]; rfl
  rw [e]
  refine ⟨alike_rows _, .inl (.inl fun d hd => ?_), Nat.le_trans (show _ ≤ 1000 by rw [List.length_map, List.length_map]; exact hl) (by decide), fun d hd => ?_⟩
  · obtain ⟨c, hc, rfl⟩ := List.mem_map.mp hd
    obtain ⟨q, hq, rfl⟩ := List.mem_map.mp hc
    have := hne q hq
    cases e : q.2 with
    | nil => exact absurd e this
    | cons x r => exact ⟨_, _, rfl⟩
  · obtain ⟨c, _, rfl⟩ := List.mem_map.mp hd
    exact depth_row c
theorem sorted_setU {a : Addr} {L : List (Addr × List Int)} {es : Array (Int × Value)} {ep : Nat} {t : SetTable} {Q : Value → Shared → Prop} (R : SetTR P w s.heap a L es ep t) (hh : A.handled = none) (hu : A.units + 128 < cLine) (hne : ∀ q ∈ L, q.2 ≠ [])
    (hQ : ∀ s' p (out : Array Value) (c : Nat) (L1 L' : List (Addr × List Int)), (∀ b o, s.heap.get? b = some o → s'.heap.get? b = some o) → s'.gens = s.gens → s'.os = s.os → s.heap.objs.size ≤ p →
      s'.heap.get? p = some (seqObj "list" out c) → out.toList = L'.map (fun q => Value.ref q.1) → L1.Perm L → L' = L1.mergeSort (dataLe false encP) → Q (.ref p) s') :
    wpAny (model P w) A (call (.builtin "sorted") [.ref a]) Q E s := by
  obtain ⟨o, ho, hex, hd⟩ := R.ob
  have hsz := R.size
  have hfew := R.few
  refine Calls.call_function_entry kind_sorted plain_sorted entry_sorted (args_sorted1 _) ?_
  unfold Builtin.«sorted»
  refine wpAny_bind (m := checkCount "sorted" 1 1 _) (wpAny_pure ?_)
  refine wpAny_bind (collect_set (A := A.in1) hh ⟨o, ho, hex.1, hd⟩ R.fits (by unfold scanBound; omega) R.tab.ris R.led fun s1 vs k1 hz g1 o1 pm => ?_)
  have hes : es.toList.map (·.2) = L.map fun q => Value.ref q.1 := by
    rw [R.rows]
    unfold rowsOf
    rw [List.map_map] <;> rfl
  rw [hes] at pm
  have ord : ∀ vs : List Value, (∀ v ∈ vs, ∃ q ∈ L, v = Value.ref q.1) → ∃ L1 : List (Addr × List Int), vs = L1.map (fun q => Value.ref q.1) ∧ ∀ q ∈ L1, q ∈ L := by
    intro vs
    induction vs with
    | nil => intro _; exact ⟨[], rfl, fun q hq => (by cases hq)⟩
    | cons v vs ih =>
      intro hv
      obtain ⟨q, hq, e⟩ := hv v List.mem_cons_self
      obtain ⟨L1, e1, hs⟩ := ih fun u hu => hv u (List.mem_cons_of_mem _ hu)
      refine ⟨q :: L1, by rw [List.map_cons, e, e1], fun r hr => ?_⟩
      rcases List.mem_cons.mp hr with z | z
      · rw [z]; exact hq
      · exact hs r z
  have one : ∀ q ∈ L, ∀ r ∈ L, q.1 = r.1 → q = r := fun q hq r hr e => by
    have a1 := R.tup q hq
    have a2 := R.tup r hr
    rw [e] at a1
    have e2 : q.2 = r.2 := a1.inj a2
    exact Prod.ext e e2
  have perm_of : ∀ L1 : List (Addr × List Int), (∀ q ∈ L1, q ∈ L) → (L1.map (fun q => Value.ref q.1)).Perm (L.map fun q => Value.ref q.1) → L1.Perm L := by
    intro L1 hs pm1
    have nL : L.Nodup := nodup_of_map R.nd
    have nref : (L.map fun q => Value.ref q.1).Nodup := by
      refine List.pairwise_map.mpr (List.Pairwise.imp_of_mem (fun {q r} hq hr hne e => ?_) nL)
      injection e with e
      exact hne (one q hq r hr e)
    have n1 : L1.Nodup := nodup_of_map (pm1.nodup_iff.mpr nref)
    refine (List.perm_ext_iff_of_nodup n1 nL).mpr fun q => ⟨hs q, fun hq => ?_⟩
    have hm : Value.ref q.1 ∈ L1.map (fun q => Value.ref q.1) := pm1.mem_iff.mpr (List.mem_map.mpr ⟨q, hq, rfl⟩)
    obtain ⟨r, hr, e⟩ := List.mem_map.mp hm
    injection e with e
    rw [← one r (hs r hr) q hq e]
    exact hr
  have hvl : vs.length < 64 := by rw [pm.length_eq, List.length_map]; exact hfew
  obtain ⟨L1, e1, hs1⟩ := ord vs fun v hv => by
    obtain ⟨q, hq, e⟩ := List.mem_map.mp (pm.mem_iff.mp hv)
    exact ⟨q, hq, e.symm⟩
  have p1 : L1.Perm L := perm_of L1 hs1 (by rw [← e1]; exact pm)
  refine wpAny_bind (wpAny_newList ?_ (by rw [sizeLine_eq]; omega))
  have hoL : (s1.heap.push (seqObj "list" vs.toArray 0)).get? s1.heap.objs.size = some (seqObj "list" vs.toArray 0) := Heap.get?_push_size _ rfl
  have tk : ∀ q ∈ L1, IsT P w (sortingHeap (s1.heap.push (seqObj "list" vs.toArray 0)) s1.heap.objs.size vs) q.2 q.1 := fun q hq => isT_keep (R.tup q (hs1 q hq)) fun b u e => by
    have e2 := k1 b u e
    exact sortingHeap_old (Nat.ne_of_lt (Heap.lt_size e2)) (Heap.get?_push_of_some _ e2)
  have so := sort_rowsOk (fun q hq => hne q (hs1 q hq)) (show L1.length ≤ 1000 by rw [p1.length_eq]; omega)
  obtain ⟨hal, hk, hL, hdep⟩ := so
  have hS : Sortable (L1.map encP) := by
    rcases hk with h | ⟨⟨r, e⟩, h⟩
    · exact h
    · exfalso
      cases L1 with
      | nil => cases e
      | cons q L1 =>
        have e' : encP q = .tuple [] := (List.cons.inj e).1
        have := hne q (hs1 q (List.mem_cons_self ..))
        unfold encP rowI at e'
        have := PyData.tuple.inj e'
        simp at this
        contradiction
  have eR : EachIs (fun u (q : Addr × List Int) => u = Value.ref q.1) vs L1 := by rw [e1]; exact each_refs fun _ _ => rfl
  have er : EachIs (fun v (q : Addr × List Int) => ∃ as, Reads (sortingHeap (s1.heap.push (seqObj "list" vs.toArray 0)) s1.heap.objs.size vs) v (encP q) as) vs L1 := by
    have := each_refs (L := L1) (R := fun v (q : Addr × List Int) => ∃ as, Reads (sortingHeap (s1.heap.push (seqObj "list" vs.toArray 0)) s1.heap.objs.size vs) v (encP q) as) fun q hq => reads_isT (tk q hq)
    rw [← e1] at this
    exact this
  have hd' : ∀ b, b ∈ L1 → A.units + 2 + (encP b).depth < cLine := fun b hb => by have := hdep _ (List.mem_map.mpr ⟨b, hb, rfl⟩); omega
  have fin := refs_each (sortVals_data false eR er hal)
  generalize hout : (sortVals (dataKind (sortingHeap (s1.heap.push (seqObj "list" vs.toArray 0)) s1.heap.objs.size vs) (L1.map encP)) false vs vs) = out at fin
  have body : wpAny (model P w) A.in1.in1 (Builtin.«list.sort» ⟨[.ref s1.heap.objs.size], []⟩) (fun f s' => f = .done (.ret .none) ∧ s' = { s1 with heap := sortedHeap (s1.heap.push (seqObj "list" vs.toArray 0)) s1.heap.objs.size vs out.toArray }) E { s1 with heap := s1.heap.push (seqObj "list" vs.toArray 0) } := by
    refine list_sort_vals (κ := dataKind (sortingHeap (s1.heap.push (seqObj "list" vs.toArray 0)) s1.heap.objs.size vs) (L1.map encP)) (s := { s1 with heap := s1.heap.push (seqObj "list" vs.toArray 0) }) hoL (SortsAt.data (s := { s1 with heap := sortingHeap (s1.heap.push (seqObj "list" vs.toArray 0)) s1.heap.objs.size vs }) (each_map (R := fun v d => ∃ as, Reads (sortingHeap (s1.heap.push (seqObj "list" vs.toArray 0)) s1.heap.objs.size vs) v d as) encP er) hal hS (bound_map hd')) (by rw [sizeLine_eq]; omega) ?_
    rw [hout]
    exact ⟨rfl, rfl⟩
  refine wpAny_bind (wpAny_holding (wpAny_call_entry slot_list_sort ⟨_, hoL, rfl⟩ entry_list_sort (wpAny_mono body (fun f s' hf => ?_) fun _ _ z => z) (args_list_sort _)))
  obtain ⟨rfl, rfl⟩ := hf
  refine ⟨_, rfl, ?_⟩
  obtain ⟨c, hc⟩ := sortedHeap_at (vs := vs) (out := out.toArray) hoL
  refine wpAny_pure ⟨_, rfl, hQ _ s1.heap.objs.size out.toArray c L1 _ (fun b u e => ?_) g1 o1 hz hc (by simpa using fin) p1 rfl⟩
  have q := k1 b u e
  have hlt := Heap.lt_size q
  show (sortedHeap (s1.heap.push (seqObj "list" vs.toArray 0)) s1.heap.objs.size vs out.toArray).get? b = some u
  rw [sortedHeap_old (Nat.ne_of_lt hlt) (by rw [size_push']; exact Nat.lt_succ_of_lt hlt)]
  exact Heap.get?_push_of_some _ q
end
end WL
namespace WL
open PySem PySem.Spec PyProof.Rows L2 Evl DL
open PySem.W (dataLe)
def IsUpR (cs ms : List (List Int)) : Prop := ms.Pairwise (fun a b => ltL a b = true) ∧ ∀ c, c ∈ ms ↔ c ∈ cs
theorem ltL_of {a b : List Int} (h : leL a b = true) (ne : a ≠ b) : ltL a b = true := by
  cases e : ltL a b with
  | true => rfl
  | false =>
    exfalso
    refine ne (leL_anti a b h ?_)
    unfold leL
    rw [e]
    rfl
theorem map_enc {L : List (Addr × List Int)} : (L.mergeSort (dataLe false encP)).map (·.2) = sortL (L.map (·.2)) := by
  have m := List.map_mergeSort (r := dataLe false encP) (s := leL) (f := fun q : Addr × List Int => q.2) (l := L) (fun a _ b _ => by
    show (!PySem.W.dataLt (rowI b.2) (rowI a.2)) = leL a.2 b.2
    rw [lt_row]
    rfl)
  rw [m, mergeSort_eq leL_tr leL_tot leL_anti (sortL_perm _) (sortL_sorted _)]
theorem up_sort {cs : List (List Int)} (nd : cs.Nodup) : (sortL cs).Pairwise fun a b => ltL a b = true := by
  have n2 : (sortL cs).Nodup := (sortL_perm cs).nodup_iff.mpr nd
  exact (sortL_sorted cs).imp₂ (fun a b h ne => ltL_of h ne) n2
def rUpSetR (K : PySem.W.Frag) : V → Hp → VK → Prop := fun x H1 Q => ∃ (l : Addr) (ks : List (Addr × List Int)), x = .ref l ∧ SqL K H1 l (ks.map fun p => V.ref p.1) ∧ (∀ p ∈ ks, SqT K H1 p.1 (p.2.map V.int)) ∧ ks.length < 64 ∧ (∀ p ∈ ks, p.2 ≠ []) ∧
  ∀ (L' : List (Addr × List Int)) (p : Addr), (∀ q ∈ L', q ∈ ks) → IsUpR (ks.map (·.2)) (L'.map (·.2)) → H1 p = none → Q (.ref p) (upd H1 p (.lst (L'.map fun q => V.ref q.1)))
section
variable {X : Cx}
theorem pe_upSetR {a : Expr} {ta : TE} {p p2 q pos : Pos} (hu : X.A.units + 128 < cLine) (hc : X.calm = true) (hg : Gl X "sorted") (hm : X.mg "sorted" = none) (hg2 : Gl X "set") (hm2 : X.mg "set" = none) (ha : PE X a ta)
    (na : starEach [a] X.env = (false, eval a X.env) :: starEach [] X.env := by rfl) : PE X (.Call (.Name "sorted" p) [.Call (.Name "set" p2) [a] [] q] [] pos) (fun σ H Q => ta σ H fun x H1 => rUpSetR X.K x H1 Q) := by
  refine ⟨fun pins s σ H Q I h => ?_⟩
  refine Call_ (ld_blt I hg hm (by decide +kernel : bootBuiltins "sorted" = some (.builtin "sorted")) ?_)
  refine PyProof.Rows.callWith_builtin1 (PyProof.Rows.args_cons ?_ rfl) rfl rfl
  refine Call_ (ld_blt I hg2 hm2 PyProof.Rows.boot_set ?_)
  refine PyProof.Rows.callWith_type1 (PyProof.Rows.args_cons (thn (ha.run pins s σ H _ I h) fun v s1 ⟨x, H1, I1, r1, q1⟩ => PyProof.Rows.args_nil ?_) na) na rfl
  obtain ⟨l, ks, rfl, hl, hk, hf, hne, q1⟩ := q1
  cases r1
  obtain ⟨its, r, pl, hz⟩ := I1.list hl
  refine call_set_tups (P := X.prog) (w := X.w) ks (I1.ok.hd hc) pl.isList (by simpa using refs_of_vals r) (fun p hp => I1.isT (hk p hp)) hf (by omega) fun h' tk L es ep t R g k => ?_
  refine PyProof.Rows.args_nil ?_
  have sub : ∀ q ∈ L, q ∈ ks := fun q hq => List.mem_of_mem_take (g.sub q hq)
  have all : ∀ q ∈ ks, q.2 ∈ L.map (·.2) := fun q hq => g.all q (by rw [List.take_length]; exact hq)
  have I : Inv X pins σ H1 { s1 with heap := h', toks := tk } := I1.kept fun b o e => k b o e
  obtain ⟨s2, e2⟩ : ∃ s2 : Shared, s2 = { s1 with heap := h', toks := tk } := ⟨_, rfl⟩
  have R2 : SetTR X.prog X.w s2.heap s1.heap.objs.size L es ep t := by rw [e2]; exact R
  rw [← e2] at I ⊢
  refine sorted_setU R2 (I.ok.hd hc) hu (fun q hq => hne q (sub q hq)) fun s' p out c L1 L' k2 g2 o hp hg' hout p1 eL => ?_
  subst eL
  have hfew : (L1.mergeSort (dataLe false encP)).length < 64 := by rw [List.length_mergeSort, p1.length_eq]; exact R.few
  have hlen : ((L1.mergeSort (dataLe false encP)).map fun q => V.ref q.1).length ≤ sizeLine := by rw [List.length_map, sizeLine_eq]; omega
  have hn : H1 p = none := I.hok.fresh hp
  have hv : Vals ((L1.mergeSort (dataLe false encP)).map fun q => V.ref q.1) out.toList := by rw [hout]; exact vals_of_refs _
  have J0 : Inv X pins σ (upd H1 p (.lst ((L1.mergeSort (dataLe false encP)).map fun q => V.ref q.1))) { s2 with heap := s'.heap, gens := s'.gens, drawn := s'.drawn, toks := s'.toks } :=
    I.call (ch := []) (Un.laid k2 hp hn) (I.hok.laid k2 hp ⟨hlen, out.toList, c, hv, hg'⟩) (by rw [g2]; exact I.bare) (fun _ z => nomatch z)
  have J : Inv X pins σ (upd H1 p (.lst ((L1.mergeSort (dataLe false encP)).map fun q => V.ref q.1))) s' := by
    cases s' with
    | mk a b c d e =>
      cases o
      exact J0
  refine ⟨.ref p, _, J, rfl, q1 _ p (fun q hq => sub q (p1.mem_iff.mp (List.mem_mergeSort.mp hq))) ?_ hn⟩
  rw [map_enc]
  have nd1 : (L1.map (·.2)).Nodup := (p1.map (·.2)).nodup_iff.mpr R.nd
  refine ⟨up_sort nd1, fun c => ?_⟩
  rw [(sortL_perm _).mem_iff, (p1.map (·.2)).mem_iff]
  constructor
  · intro h
    obtain ⟨q, hq, rfl⟩ := List.mem_map.mp h
    exact List.mem_map.mpr ⟨q, sub q hq, rfl⟩
  · intro h
    obtain ⟨q, hq, rfl⟩ := List.mem_map.mp h
    exact all q hq
def fUpSetR : DR1 := fun x μ Q => match rd μ x with
  | some (.list ds) => ∃ cs : List (List Int), ds = cs.map rowI ∧ cs.length < 64 ∧ (∀ c ∈ cs, c ≠ []) ∧ ∀ ms, IsUpR cs ms → Q (mk (isV x) (.list (ms.map rowI))) μ
  | _ => False
theorem rows_split {K : PySem.W.Frag} {G : Hp} : ∀ {cs : List (List Int)} {xs : List V}, DvAll K G xs (cs.map rowI) → ∃ ks : List (Addr × List Int), xs = ks.map (fun p => V.ref p.1) ∧ ks.map (·.2) = cs ∧ ∀ p ∈ ks, SqT K G p.1 (p.2.map V.int)
  | [], _, h => by cases h; exact ⟨[], rfl, rfl, fun p hp => by cases hp⟩
  | c :: cs, _, h => by
    rw [List.map_cons] at h
    cases h with
    | cons h1 h2 =>
      obtain ⟨ks, e1, e2, h3⟩ := rows_split h2
      have h1' : Dv K G _ (.tuple (c.map PyData.int)) := h1
      cases h1' with
      | tup hs ha =>
        cases DvAll.of_ints c ha
        refine ⟨(_, c) :: ks, by rw [e1]; rfl, by rw [← e2]; rfl, fun p hp => ?_⟩
        rcases List.mem_cons.mp hp with rfl | hp
        · exact hs
        · exact h3 p hp
theorem rows_join {K : PySem.W.Frag} {G : Hp} : ∀ {ks : List (Addr × List Int)}, (∀ p ∈ ks, SqT K G p.1 (p.2.map V.int)) → DvAll K G (ks.map fun p => V.ref p.1) ((ks.map (·.2)).map rowI)
  | [], _ => .nil
  | k :: ks, h => .cons (Dv.tup (h k (List.mem_cons_self ..)) (DvAll.ints _)) (rows_join fun p hp => h p (List.mem_cons_of_mem _ hp))
theorem lr_upSetR {K : PySem.W.Frag} : LR1 K (rUpSetR K) fUpSetR := fun x μ Q' h W H vx r hx Q q => by
  unfold fUpSetR at h
  split at h
  · rename_i ds e1
    obtain ⟨cs, rfl, hl, hne, h⟩ := h
    obtain ⟨a, ys, rfl, hlst, hi⟩ := rd_lst r hx e1
    obtain ⟨ks, rfl, rfl, hk⟩ := rows_split (show DvAll K (bh W (isV x)) ys (cs.map rowI) from hi)
    have hx2 : Ex (bh W (isV x)) H := by
      cases isV x with
      | true => exact r.fh
      | false => exact r.gh
    refine ⟨a, ks, rfl, hlst, fun p hp => ex_t hx2 (hk p hp), by simpa using hl, fun p hp => hne _ (List.mem_map.mpr ⟨p, hp, rfl⟩), fun L' p hs hu hp => ?_⟩
    exact q.newL r (rows_join fun q hq => hk q (hs q hq)) (h _ hu) p hp
  · exact h.elim
theorem pd_upSetR {a : Expr} {d : DE} {p p2 q pos : Pos} {k : Nat} (hr : RoomG k X.A) (hc : X.calm = true) (ha : PD X a d) (hm : X.mg "sorted" = none) (hm2 : X.mg "set" = none) (hg : Gl X "sorted" := by rfl) (hg2 : Gl X "set" := by rfl)
    (na : starEach [a] X.env = (false, eval a X.env) :: starEach [] X.env := by rfl) : PD X (.Call (.Name "sorted" p) [.Call (.Name "set" p2) [a] [] q] [] pos) (dUn fUpSetR d) := by
  obtain ⟨t, p1, l1⟩ := ha
  exact ⟨_, pe_upSetR hr.u128 hc hg hm hg2 hm2 p1 na, le_un lr_upSetR l1⟩
end
end WL
namespace WL
open PySem PySem.Spec PyProof.Rows L2 Evl DL
theorem for_foldM {C : Mu → Prop} {g : DG} {b : DS} {D : DEnds} {α β ζ : Type} (enc : β → PyData) (F : β → α → α) (st : ζ → α → Rho) (mem : α → Mu) (P : α → Prop) (hC : ∀ a, P a → C (mem a)) : ∀ (xs : List β) (v : ζ) (a : α),
    (∀ x ∈ xs, ∀ v a, P a → P (F x a) ∧ ∃ v', ∀ N : Rho → Mu → Prop, N (st v' (F x a)) (mem (F x a)) → g (.dat (enc x)) (st v a) (mem a) fun ρ1 μ1 => b { D with nx := N, ct := N, bk := D.nx } ρ1 μ1) → P a →
    (∀ v, P (xs.foldl (fun a x => F x a) a) → D.nx (st v (xs.foldl (fun a x => F x a) a)) (mem (xs.foldl (fun a x => F x a) a))) → forD C g b D ((xs.map enc).map .dat) (st v a) (mem a)
  | [], v, a, _, hp, h => ⟨hC a hp, h v hp⟩
  | x :: xs, v, a, hs, hp, h => by
    obtain ⟨hp', v', hv⟩ := hs x (List.mem_cons_self ..) v a hp
    exact ⟨hC a hp, hv _ (for_foldM enc F st mem P hC xs v' (F x a) (fun y hy => hs y (List.mem_cons_of_mem _ hy)) hp' h)⟩
def kv (i : Int) : Key × PyData := (.inl i, .bool true)
theorem val_kv (fs : List Int) (q : Int) : (valD (fs.map kv) (.inl q)).isSome = decide (q ∈ fs) := by
  induction fs with
  | nil => rfl
  | cons a r ih =>
    unfold valD at *
    rw [List.map_cons, List.find?_cons]
    by_cases h : a = q
    · subst h
      simp [kv]
    · have h1 : decide ((kv a).1 = Sum.inl q) = false := decide_eq_false (fun z => h (Sum.inl.inj z))
      rw [h1]
      have h2 : ¬ q = a := fun z => h z.symm
      simpa [h2] using ih
theorem put_kv {fs : List Int} {q : Int} (h : q ∉ fs) : putD (fs.map kv) (.inl q) (.bool true) = (fs ++ [q]).map kv := by
  unfold putD
  rw [if_neg, List.map_append]
  · rfl
  · intro z
    obtain ⟨x, hx, e⟩ := List.any_eq_true.mp z
    obtain ⟨i, hi, rfl⟩ := List.mem_map.mp hx
    exact h (Sum.inl.inj (of_decide_eq_true e) ▸ hi)
theorem keys_kv : ∀ fs : List Int, intKeys (fs.map kv) = some fs
  | [] => rfl
  | a :: r => by
    show (intKeys (r.map kv)).map (a :: ·) = _
    rw [keys_kv r]
    rfl
def farI (t : T3) (p : Int) : Option Int := if t.1 = p then some t.2.1 else if t.2.1 = p then some t.1 else none
theorem farD_eq (t : T3) (p : Int) : farD t p = match farI t p with | some q => .int q | none => .none := by
  unfold farD farI
  split
  · rfl
  · split <;> rfl
def stepF (p : Int) (t : T3) (a : List Int × List Int) : List Int × List Int := match farI t p with
  | some q => if q ∈ a.1 then a else (a.1 ++ [q], a.2 ++ [q])
  | none => a
def memC (μ : Mu) (a : List Int × List Int) : Mu := μ ++ [.dct (a.1.map kv), .lst (a.2.map PyData.int)]
section
variable {μ : Mu} {a : List Int × List Int}
theorem memC_F : (memC μ a)[μ.length]? = some (.dct (a.1.map kv)) := by
  unfold memC
  rw [List.getElem?_append_right (Nat.le_refl _), Nat.sub_self]
  rfl
theorem memC_A : (memC μ a)[μ.length + 1]? = some (.lst (a.2.map PyData.int)) := by
  unfold memC
  rw [List.getElem?_append_right (by omega), show μ.length + 1 - μ.length = 1 by omega]
  rfl
theorem memC_setF {fs : List Int} : (memC μ a).set μ.length (.dct (fs.map kv)) = memC μ (fs, a.2) := by
  unfold memC
  rw [List.set_append_right _ _ (Nat.le_refl _), Nat.sub_self]
  rfl
theorem memC_setA {bs : List Int} : (memC μ a).set (μ.length + 1) (.lst (bs.map PyData.int)) = memC μ (a.1, bs) := by
  unfold memC
  rw [List.set_append_right _ _ (by omega), show μ.length + 1 - μ.length = 1 by omega]
  rfl
theorem memC_take : (memC μ a).take μ.length = μ := by
  unfold memC
  rw [List.take_left']
  rfl
end
structure Inv1 (ts : List T3) (st : Int) (a : List Int × List Int) : Prop where
  nd : a.1.Nodup
  rg : ∀ q ∈ a.1, 0 ≤ q ∧ q < 8
  re : ∀ q ∈ a.1, Reach ts st q
  st_ : st ∈ a.1
  sub : ∀ q ∈ a.2, q ∈ a.1
  nd2 : a.2.Nodup
theorem nodup_len : ∀ (m : Nat) (l : List Int) (lo : Int), l.Nodup → (∀ q ∈ l, lo ≤ q ∧ q < lo + (m : Int)) → l.length ≤ m := by
  intro m
  induction m with
  | zero =>
    intro l lo _ h
    cases l with
    | nil => exact Nat.le_refl _
    | cons p r => have := h p (List.mem_cons_self ..); omega
  | succ m ih =>
    intro l lo hn h
    by_cases hm : lo ∈ l
    · have h1 := ih (l.erase lo) (lo + 1) (hn.erase lo) fun q hq => by
        have hq' := (List.Nodup.mem_erase_iff hn).mp hq
        have := h q hq'.2
        have : q ≠ lo := hq'.1
        omega
      have := List.length_erase_of_mem hm
      omega
    · have := ih l (lo + 1) hn fun q hq => by
        have := h q hq
        have : q ≠ lo := fun z => hm (z ▸ hq)
        omega
      omega
theorem Inv1.len {ts : List T3} {st : Int} {a : List Int × List Int} (h : Inv1 ts st a) : a.1.length ≤ 8 := nodup_len 8 a.1 0 h.nd fun q hq => by have := h.rg q hq; omega
theorem Inv1.len2 {ts : List T3} {st : Int} {a : List Int × List Int} (h : Inv1 ts st a) : a.2.length ≤ 8 := nodup_len 8 a.2 0 h.nd2 fun q hq => by have := h.rg q (h.sub q hq); omega
theorem far_reach {ts : List T3} {st p q : Int} {t : T3} (ht : t ∈ ts) (hp : Reach ts st p) (h : farI t p = some q) : Reach ts st q := by
  unfold farI at h
  split at h
  · rename_i e
    cases h
    exact .fwd hp ht e
  · split at h
    · rename_i e
      cases h
      exact .bwd hp ht e
    · cases h
theorem step_inv {ts : List T3} {st p : Int} {t : T3} {a : List Int × List Int} (hs : Small ts) (ht : t ∈ ts) (hp : Reach ts st p) (h : Inv1 ts st a) : Inv1 ts st (stepF p t a) ∧ (∀ q ∈ a.1, q ∈ (stepF p t a).1) ∧ (∀ q, q ∈ (stepF p t a).1 → q ∈ a.1 ∨ q ∈ (stepF p t a).2) ∧ (∀ q ∈ a.2, q ∈ (stepF p t a).2) ∧ (∀ q, farI t p = some q → q ∈ (stepF p t a).1) ∧
    (stepF p t a).1.length + a.2.length = a.1.length + (stepF p t a).2.length := by
  unfold stepF
  cases e : farI t p with
  | none => exact ⟨h, fun q hq => hq, fun q hq => .inl hq, fun q hq => hq, fun q hq => (by cases hq), rfl⟩
  | some q =>
    by_cases c : q ∈ a.1
    · simp only [if_pos c]
      exact ⟨h, fun q hq => hq, fun q hq => .inl hq, fun q hq => hq, fun q' hq => (by cases hq; exact c), trivial⟩
    · simp only [if_neg c]
      have hr := far_reach ht hp e
      have hq : 0 ≤ q ∧ q < 8 := by
        have := hs.2 t ht
        unfold farI at e
        split at e
        · cases e; exact this.2
        · split at e
          · cases e; exact this.1
          · cases e
      refine ⟨⟨?_, ?_, ?_, List.mem_append.mpr (.inl h.st_), ?_, ?_⟩, fun z hz => List.mem_append.mpr (.inl hz), fun z hz => ?_, fun z hz => List.mem_append.mpr (.inl hz), fun q' hq' => ?_, ?_⟩
      · refine List.nodup_append.mpr ⟨h.nd, List.nodup_cons.mpr ⟨by simp, List.nodup_nil⟩, fun x hx y hy => ?_⟩
        rw [List.mem_singleton.mp hy]
        exact fun z => c (z ▸ hx)
      · intro z hz
        rcases List.mem_append.mp hz with hz | hz
        · exact h.rg z hz
        · rw [List.mem_singleton.mp hz]; exact hq
      · intro z hz
        rcases List.mem_append.mp hz with hz | hz
        · exact h.re z hz
        · rw [List.mem_singleton.mp hz]; exact hr
      · intro z hz
        rcases List.mem_append.mp hz with hz | hz
        · exact List.mem_append.mpr (.inl (h.sub z hz))
        · exact List.mem_append.mpr (.inr hz)
      · refine List.nodup_append.mpr ⟨h.nd2, List.nodup_cons.mpr ⟨by simp, List.nodup_nil⟩, fun x hx y hy => ?_⟩
        rw [List.mem_singleton.mp hy]
        exact fun z => c (z ▸ h.sub x hx)
      · rcases List.mem_append.mp hz with hz | hz
        · exact .inl hz
        · exact .inr (List.mem_append.mpr (.inr hz))
      · cases hq'
        exact List.mem_append.mpr (.inr (List.mem_singleton.mpr rfl))
      · simp only [List.length_append, List.length_singleton]
        omega
theorem fold_inv {ts : List T3} {st p : Int} (hs : Small ts) (hp : Reach ts st p) : ∀ (us : List T3) (a : List Int × List Int), (∀ t ∈ us, t ∈ ts) → Inv1 ts st a →
    let z := us.foldl (fun a t => stepF p t a) a
    Inv1 ts st z ∧ (∀ q ∈ a.1, q ∈ z.1) ∧ (∀ q, q ∈ z.1 → q ∈ a.1 ∨ q ∈ z.2) ∧ (∀ q ∈ a.2, q ∈ z.2) ∧ (∀ t ∈ us, ∀ q, farI t p = some q → q ∈ z.1) ∧ z.1.length + a.2.length = a.1.length + z.2.length
  | [], a, _, h => ⟨h, fun q hq => hq, fun q hq => .inl hq, fun q hq => hq, fun t ht => (by cases ht), rfl⟩
  | t :: us, a, hu, h => by
    obtain ⟨h1, h2, h3, h4, h5, h6⟩ := step_inv hs (hu t (List.mem_cons_self ..)) hp h
    obtain ⟨g1, g2, g3, g4, g5, g6⟩ := fold_inv hs hp us (stepF p t a) (fun x hx => hu x (List.mem_cons_of_mem _ hx)) h1
    refine ⟨g1, fun q hq => g2 q (h2 q hq), fun q hq => ?_, fun q hq => g4 q (h4 q hq), fun x hx q hq => ?_, ?_⟩
    · rcases g3 q hq with z | z
      · rcases h3 q z with w | w
        · exact .inl w
        · exact .inr (g4 q w)
      · exact .inr z
    · rcases List.mem_cons.mp hx with rfl | hx
      · exact g2 q (h5 q hq)
      · exact g5 x hx q hq
    · simp only [List.foldl_cons] at *
      omega
theorem step_len (p : Int) (t : T3) (a : List Int × List Int) : a.1.length ≤ (stepF p t a).1.length := by
  unfold stepF
  split
  · split
    · exact Nat.le_refl _
    · rw [List.length_append]; exact Nat.le_add_right _ _
  · exact Nat.le_refl _
theorem fold_len (p : Int) : ∀ (us : List T3) (a : List Int × List Int), a.1.length ≤ (us.foldl (fun a t => stepF p t a) a).1.length
  | [], _ => Nat.le_refl _
  | t :: us, a => Nat.le_trans (step_len p t a) (fold_len p us (stepF p t a))
def Closed (ts : List T3) (a : List Int × List Int) : Prop := ∀ q ∈ a.1, q ∉ a.2 → ∀ t ∈ ts, ∀ x, farI t q = some x → x ∈ a.1
theorem closed_all {ts : List T3} {st : Int} {fs : List Int} (h : Inv1 ts st (fs, [])) (c : Closed ts (fs, [])) : ∀ q, q ∈ fs ↔ Reach ts st q := by
  intro q
  refine ⟨h.re q, fun r => ?_⟩
  induction r with
  | here => exact h.st_
  | fwd r ht e ih =>
    refine c _ ih (by simp) _ ht _ ?_
    unfold farI
    rw [if_pos e]
  | @bwd p t r ht e ih =>
    by_cases e2 : t.1 = p
    · rw [e2]; exact ih
    · refine c _ ih (by simp) _ ht _ ?_
      unfold farI
      rw [if_neg e2, if_pos e]
theorem come_loop {ts : List T3} {st : Int} {μ : Mu} {D : DEnds} {body : DS} (hs : Small ts)
    (hb : body = dSeq (dAsg (dMt0 mPop (dVar 3)) 4)
    (dFor (iSeq (dVar 1)) (gN 5) (dSeq (dAsg (dCall 2 ph_far_end (aCons (dVar 5) (aCons (dVar 4) aNil))) 6)
    (dIfS (dAnd (dTest (dOp (rIs true) (dVar 6) (dC .none))) (dTest (dOp (wIn not) (dVar 6) (dVar 2)))) (dSeq (dDPut (dVar 2) (dVar 6) (dC (.bool true)))
    (dDrop (dMtL mApp (dVar 3) (aCons (dVar 6) aNil)))) dNext)))) :
    ∀ (m : Nat) (a : List Int × List Int) (v4 v5 v6 : Option Sl), 2 * (8 - a.1.length) + a.2.length < m → Inv1 ts st a → Closed ts a →
    (∀ fs v4 v5 v6, Inv1 ts st (fs, []) → Closed ts (fs, []) → D.nx [some (.dat (.int st)), some (.dat (.list (ts.map tieD))), some (.cell μ.length), some (.cell (μ.length + 1)), v4, v5, v6] (memC μ (fs, []))) →
    whileD (dTru (dVar 3)) body D m [some (.dat (.int st)), some (.dat (.list (ts.map tieD))), some (.cell μ.length), some (.cell (μ.length + 1)), v4, v5, v6] (memC μ a)
  | 0, _, _, _, _, hm, _, _, _ => absurd hm (Nat.not_lt_zero _)
  | m + 1, (fs, as), v4, v5, v6, hm, hi, hc, h => by
    show dTru (dVar 3) _ _ _
    rcases List.eq_nil_or_concat as with rfl | ⟨bs, p, rfl⟩
    · simp only [e_dTru, e_dVar, List.getElem?_cons_succ, List.getElem?_cons_zero, e_rdC, memC_A, e_rdCl, truD, okT, List.map_nil]
      exact ⟨trivial, h fs v4 v5 v6 hi hc⟩
    · rw [List.concat_eq_append] at *
      have hp := hi.re p (hi.sub p (List.mem_append.mpr (.inr (List.mem_singleton.mpr rfl))))
      simp only [e_dTru, e_dVar, List.getElem?_cons_succ, List.getElem?_cons_zero, e_rdC, memC_A, e_rdCl, okT]
      refine ⟨trivial, ?_⟩
      have e9 : truD (.list ((bs ++ [p]).map PyData.int)) = true := by simp [truD]
      rw [if_pos e9, hb]
      have pop : ∀ Q : DQ, mPop (.cell (μ.length + 1)) [] (memC μ (fs, bs ++ [p])) Q = Q (.dat (.int p)) (memC μ (fs, bs)) := fun Q => by
        simp only [mPop, memC_A]
        have e1 : ((bs ++ [p]).map PyData.int)[((bs ++ [p]).map PyData.int).length - 1]? = some (.int p) := by simp
        have e2 : ((bs ++ [p]).map PyData.int).dropLast = bs.map PyData.int := by simp
        rw [e1, e2, memC_setA]
        exact propext ⟨fun ⟨d, e, z⟩ => by cases e; exact z, fun z => ⟨_, rfl, z⟩⟩
      simp only [e_dSeq, e_dAsg, e_dMt0, e_dVar, List.getElem?_cons_succ, List.getElem?_cons_zero, pop, List.set_cons_succ, List.set_cons_zero]
      have hi2 : Inv1 ts st (fs, bs) := ⟨hi.nd, hi.rg, hi.re, hi.st_, fun q hq => hi.sub q (List.mem_append.mpr (.inl hq)), (List.nodup_append.mp hi.nd2).1⟩
      obtain ⟨g1, g2, g3, g4, g5, g6⟩ := fold_inv hs hp ts (fs, bs) (fun t ht => ht) hi2
      show iSeq (dVar 1) _ _ _
      simp only [iSeq, e_dVar, List.getElem?_cons_succ, List.getElem?_cons_zero, e_rdD, e_eltfun]
      refine for_foldM tieD (stepF p) (fun (v : Option Sl × Option Sl) (_ : List Int × List Int) => [some (.dat (.int st)), some (.dat (.list (ts.map tieD))), some (.cell μ.length), some (.cell (μ.length + 1)), some (.dat (.int p)), v.1, v.2]) (memC μ) (Inv1 ts st) (fun _ _ => trivial) ts (v5, v6) (fs, bs) (fun t ht v a ha => ⟨(step_inv hs ht hp ha).1, (some (.dat (tieD t)), some (.dat (farD t p))), fun N hN => ?_⟩) hi2 fun v _ => ?_
      · simp only [e_gN, e_dSeq, e_dAsg, e_dCall, e_aCons, e_aNil, e_dVar, List.getElem?_cons_succ, List.getElem?_cons_zero, List.set_cons_succ, List.set_cons_zero, c_far_end, e_dIfS, e_dAnd, e_dTest, e_dOp, e_dC]
        refine ⟨rfl, ?_⟩
        rw [farD_eq] at hN ⊢
        unfold stepF at hN
        cases e : farI t p with
        | none =>
          simp only [e] at hN ⊢
          simpa [rIs, DL.isNon] using hN
        | some q =>
          simp only [e] at hN ⊢
          by_cases c : q ∈ a.1
          · rw [if_pos c] at hN
            have w : ∀ Q : DQ, wIn not (.dat (.int q)) (.cell μ.length) (memC μ a) Q = Q (.dat (.bool false)) (memC μ a) := fun Q => by
              rw [w_inD memC_F (key := .inl q) rfl, val_kv, decide_eq_true c]
              rfl
            simpa [rIs, DL.isNon, w] using hN
          · rw [if_neg c] at hN
            have w : ∀ Q : DQ, wIn not (.dat (.int q)) (.cell μ.length) (memC μ a) Q = Q (.dat (.bool true)) (memC μ a) := fun Q => by
              rw [w_inD memC_F (key := .inl q) rfl, val_kv, decide_eq_false c]
              rfl
            have pt : ∀ Q : Mu → Prop, Q (memC μ (a.1 ++ [q], a.2)) → putK1 (.cell μ.length) (.dat (.int q)) (.dat (.bool true)) (memC μ a) Q := fun Q hQ => by
              simp only [putK1, memC_F]
              refine ⟨_, .inl q, rfl, rfl, ?_, ?_⟩
              · rw [List.length_map]
                exact Nat.lt_of_le_of_lt ha.len (by decide)
              · rw [put_kv c, memC_setF]
                exact hQ
            have ap : ∀ Q : DQ, mApp (.cell (μ.length + 1)) [.dat (.int q)] (memC μ (a.1 ++ [q], a.2)) Q = Q (.dat .none) (memC μ (a.1 ++ [q], a.2 ++ [q])) := fun Q => by
              simp only [mApp, memC_A]
              have e1 : (a.2.map PyData.int ++ [PyData.int q]) = (a.2 ++ [q]).map PyData.int := by simp
              rw [e1, memC_setA, List.length_map]
              exact propext ⟨fun z => z.2, fun z => ⟨Nat.lt_of_le_of_lt ha.len2 (by decide), z⟩⟩
            have rdA : ∃ ds, rd (memC μ (a.1 ++ [q], a.2)) (.cell (μ.length + 1)) = some (.list ds) := ⟨_, by rw [e_rdC, memC_A]; rfl⟩
            simp [rIs, DL.isNon, w]
            refine pt _ ?_
            simp only [e_dDrop, e_dMtL, e_dVar, List.getElem?_cons_succ, List.getElem?_cons_zero, e_aCons, e_aNil, ap]
            exact ⟨rdA, hN⟩
      · subst hb
        refine come_loop hs rfl m _ _ _ _ ?_ g1 ?_ h
        · have b1 := g1.len
          have b2 : fs.length ≤ 8 := hi2.len
          have b3 : fs.length ≤ (ts.foldl (fun a t => stepF p t a) (fs, bs)).1.length := fold_len p ts (fs, bs)
          replace hm : 2 * (8 - fs.length) + (bs ++ [p]).length < m + 1 := hm
          rw [List.length_append, List.length_singleton] at hm
          replace g6 : (ts.foldl (fun a t => stepF p t a) (fs, bs)).1.length + bs.length = fs.length + (ts.foldl (fun a t => stepF p t a) (fs, bs)).2.length := g6
          omega
        · intro q hq hq2 t ht x hx
          rcases g3 q hq with z | z
          · by_cases e : q = p
            · subst e
              exact g5 t ht x hx
            · refine g2 x (hc q z (fun w => ?_) t ht x hx)
              rcases List.mem_append.mp w with w | w
              · exact hq2 (g4 q w)
              · exact e (List.mem_singleton.mp w)
          · exact absurd z hq2
theorem sortI_lt {ns : List Int} (h : ns.Nodup) : (sortI ns).Pairwise (· < ·) := by
  have p := sortI_pw ns
  have n : (sortI ns).Nodup := (sortI_perm ns).nodup_iff.mpr h
  exact (p.and n).imp fun ⟨h1, h2⟩ => by omega
theorem pu_come_to : Pure ["start", "links", "found", "ahead", "place", "link", "far"] 2 ph_come_to ds_come_to := by
  intro ss μ Q' hl h
  obtain ⟨st, ts, rfl, ⟨⟨s0, s1⟩, hs⟩, h⟩ := h
  have i0 : Inv1 ts st ([st], [st]) := ⟨by simp, fun q hq => by rw [List.mem_singleton.mp hq]; exact ⟨s0, s1⟩, fun q hq => by rw [List.mem_singleton.mp hq]; exact .here, by simp, fun q hq => hq, by simp⟩
  have c0 : Closed ts ([st], [st]) := fun q hq hn => absurd hq hn
  have e0 : ∀ R : DQ, dDct1 (dVar 0) (dC (.bool true)) [some (.dat (.int st)), some (.dat (.list (ts.map tieD))), none, none, none, none, none] μ R = R (.cell μ.length) (μ ++ [.dct ([st].map kv)]) := fun R => by
    simp only [dDct1, e_dVar, List.getElem?_cons_zero, e_dC, e_rdD]
    have e1 : (μ ++ [Cell.dct []])[μ.length]? = some (.dct []) := by
      rw [List.getElem?_append_right (Nat.le_refl _), Nat.sub_self]
      rfl
    have e2 : (μ ++ [Cell.dct []]).set μ.length (.dct [(.inl st, .bool true)]) = μ ++ [.dct ([st].map kv)] := by
      rw [List.set_append_right _ _ (Nat.le_refl _), Nat.sub_self]
      rfl
    rw [e1]
    exact propext ⟨fun ⟨z, key, q1, q2, _, q4⟩ => by cases q1; cases q2; rw [e2] at q4; exact q4, fun q => ⟨_, .inl st, rfl, rfl, rfl, by rw [e2]; exact q⟩⟩
  have e3 : μ ++ [Cell.dct ([st].map kv)] ++ [Cell.lst [.int st]] = memC μ ([st], [st]) := by
    unfold memC
    rw [List.append_assoc]
    rfl
  have e4 : (μ ++ [Cell.dct ([st].map kv)]).length = μ.length + 1 := by simp
  unfold ds_come_to
  simp only [e_dSeq, e_dAsg, startD, List.map_cons, List.map_nil, List.length_cons, List.length_nil, List.replicate, List.cons_append, List.nil_append, List.append_nil]
  show dDct1 _ _ [some (.dat (.int st)), some (.dat (.list (ts.map tieD))), none, none, none, none, none] μ _
  rw [e0]
  simp only [e_dLstC, e_aCons, e_aNil, e_dVar, List.set_cons_succ, List.set_cons_zero, List.getElem?_cons_zero, e_datsCons, e_datsNil, List.length_cons, List.length_nil, e3, e4]
  refine ⟨by decide, ?_⟩
  refine ⟨18, come_loop hs rfl 18 _ _ _ _ (by simp) i0 c0 fun fs v4 v5 v6 hi hc => ?_⟩
  have hall := closed_all hi hc
  simp only [e_dRet, e_dCB, e_aCons, e_aNil, e_dVar, List.getElem?_cons_succ, List.getElem?_cons_zero, fSortedDI, memC_F]
  refine ⟨fs, keys_kv fs, Nat.lt_of_le_of_lt hi.len (by decide), ?_⟩
  rw [e_finD, memC_take]
  exact h (sortI fs) (sortI_lt hi.nd) fun p => by rw [(sortI_perm fs).mem_iff]; exact hall p
end WL
namespace WL
open PySem PySem.Spec PyProof.Rows L2 Evl DL
theorem nodup_sub_len : ∀ {l m : List Int}, l.Nodup → (∀ x ∈ l, x ∈ m) → l.length ≤ m.length
  | [], _, _, _ => Nat.zero_le _
  | a :: r, m, hn, hs => by
    obtain ⟨h1, h2⟩ := List.nodup_cons.mp hn
    have ha := hs a (List.mem_cons_self ..)
    have := nodup_sub_len (l := r) (m := m.erase a) h2 fun x hx => (List.mem_erase_of_ne (fun (z : x = a) => h1 (z ▸ hx))).mpr (hs x (List.mem_cons_of_mem _ hx))
    rw [List.length_erase_of_mem ha] at this
    have : 0 < m.length := List.length_pos_of_mem ha
    rw [List.length_cons]
    omega
theorem sub_all {l m : List Int} (hl : l.Nodup) (hs : ∀ x ∈ l, x ∈ m) (hlen : m.length ≤ l.length) : ∀ x ∈ m, x ∈ l := by
  intro x hx
  refine Classical.byContradiction fun hn => ?_
  have := nodup_sub_len (m := m.erase x) hl fun y hy => (List.mem_erase_of_ne (fun (z : y = x) => hn (z ▸ hy))).mpr (hs y hy)
  rw [List.length_erase_of_mem hx] at this
  have : 0 < m.length := List.length_pos_of_mem hx
  omega
theorem reach_in {ps : List Int} {ts : List T3} {st : Int} (h0 : st ∈ ps) : ∀ {p : Int}, Reach (inner ps ts) st p → p ∈ ps
  | _, .here => h0
  | _, .fwd _ ht _ => by
    have := (List.mem_filter.mp ht).2
    simp at this
    exact this.2
  | _, .bwd _ ht _ => by
    have := (List.mem_filter.mp ht).2
    simp at this
    exact this.1
theorem lt_nodup {ns : List Int} (h : ns.Pairwise (· < ·)) : ns.Nodup := h.imp fun h => by omega
theorem pu_are_joined : Pure ["places", "links", "inner", "link"] 2 ph_are_joined ds_are_joined := by
  intro ss μ Q' hl h
  obtain ⟨s0, s, st, ps, ts, rfl, h0, hs, ⟨⟨hn, hr⟩, hsm⟩, h⟩ := h
  have hin : ∀ (i : Int) (f : Bool → Bool) (ν : Mu) (Q : DQ), wIn f (.dat (.int i)) s0 ν Q = Q (.dat (.bool (f (decide (i ∈ st :: ps))))) ν := fun i f ν Q => by
    rcases h0 with rfl | rfl
    · exact in_row
    · exact in_ints
  have hq : Sq μ s (ts.map tieD) := by rcases hs with rfl | rfl <;> first | exact .dl | exact .dt
  obtain ⟨C, c0, c1, ci⟩ := iSeq_ok (i := 1) (ρ := [some s0, some s, none, none]) (μ := μ) rfl hq
  have L := fun Q => lc_gen (β := Unit) tieD (fun t => decide (t.1 ∈ st :: ps) && decide (t.2.1 ∈ st :: ps)) tieD (g := gN 3) (t := dAnd (dTest (dOp (wIn id) (dOp DL.rIx (dVar 3) (dC (.int 0))) (dVar 0))) (dTest (dOp (wIn id) (dOp DL.rIx (dVar 3) (dC (.int 1))) (dVar 0)))) (e := dVar 3) (vs := [3]) (Q := Q) ci (fun _ => c1 _) (sz (by have := hsm.1; omega)) (fun x hx acc R => by
    simp only [wipeD, e_gN, e_dAnd, e_dTest, e_dOp, e_dVar, e_dC, List.set_cons_succ, List.set_cons_zero, List.getElem?_cons_succ, List.getElem?_cons_zero, ix_t0, ix_t1, hin, id]
    cases decide (x.1 ∈ st :: ps) <;> cases decide (x.2.1 ∈ st :: ps) <;> simp)
  have e : (ts.filter fun t => decide (t.1 ∈ st :: ps) && decide (t.2.1 ∈ st :: ps)) = inner (st :: ps) ts := rfl
  rw [e] at L
  have hi : Small (inner (st :: ps) ts) := ⟨Nat.le_trans (List.length_filter_le _ _) hsm.1, fun t ht => hsm.2 t (List.mem_filter.mp ht).1⟩
  have i0 : ∀ (ν : Mu) (Q : DQ), DL.rIx s0 (.dat (.int 0)) ν Q = Q (.dat (.int st)) ν := fun ν Q => by
    rcases h0 with rfl | rfl
    · exact ix_0
    · exact rix_l atI0
  have hr0 := hr st (List.mem_cons_self ..)
  unfold ds_are_joined
  simp only [e_dSeq, e_dAsg, startD, List.map_cons, List.map_nil, List.length_cons, List.length_nil, List.replicate, List.cons_append, List.nil_append, List.append_nil]
  show dLc _ _ _ _ _ [some s0, some s, none, none] μ _
  rw [L]
  simp only [List.set_cons_succ, List.set_cons_zero, e_dRet, e_dOp, e_dCB, e_aCons, e_aNil, e_dCall, e_dVar, e_dC, List.getElem?_cons_succ, List.getElem?_cons_zero, i0, List.length_cons, List.length_nil]
  refine ⟨trivial, st, _, rfl, ⟨hr0, hi⟩, fun ns hlt hall => ?_⟩
  have e2 : ∀ (l : List Int) (ν : Mu) (Q : DQ), fLen [.dat (.list (l.map PyData.int))] ν Q = Q (.dat (.int l.length)) ν := fun l ν Q => by
    show Q (.dat (.int ((l.map PyData.int).length : Nat))) ν = _
    rw [List.length_map]
  have e3 : ∀ (ν : Mu) (Q : DQ), fLen [s0] ν Q = Q (.dat (.int (st :: ps).length)) ν := fun ν Q => by
    rcases h0 with rfl | rfl
    · show Q (.dat (.int (((st :: ps).map PyData.int).length : Nat))) ν = _
      rw [List.length_map]
    · exact e2 (st :: ps) ν Q
  simp only [e2, e3, o_eqI, e_finD, List.take_length]
  refine h _ ?_
  rw [decide_eq_true_iff]
  have sub : ∀ x ∈ ns, x ∈ st :: ps := fun x hx => reach_in (List.mem_cons_self ..) ((hall x).mp hx)
  constructor
  · intro hlen p hp
    exact (hall p).mp (sub_all (lt_nodup hlt) sub (by omega) p hp)
  · intro hre
    have a1 := nodup_sub_len (lt_nodup hlt) sub
    have a2 := nodup_sub_len hn fun p hp => (hall p).mpr (hre p hp)
    omega
theorem rgL_eq (n : Nat) : rgL 0 (n : Int) = ((List.range n).map fun (i : Nat) => (i : Int)).map PyData.int := by
  unfold rgL
  rw [show ((n : Int) - 0).toNat = n by omega, List.map_map]
  refine List.map_congr_left fun i _ => ?_
  show PyData.int (0 + (i : Int)) = .int (i : Int)
  rw [Int.zero_add]
theorem WebOk.small {many : Int} {ts : List T3} (h : WebOk many ts) : Small ts := ⟨by have := h.rows.most; omega, fun t ht => by
  have := h.rows.in_ t ht
  have := h.hi
  omega⟩
theorem mem_range_int {n : Nat} {p : Int} : p ∈ ((List.range n).map fun (i : Nat) => (i : Int)) ↔ 0 ≤ p ∧ p < n := by
  rw [List.mem_map]
  constructor
  · rintro ⟨i, hi, rfl⟩
    have := List.mem_range.mp hi
    omega
  · rintro ⟨h1, h2⟩
    exact ⟨p.toNat, List.mem_range.mpr (by omega), by omega⟩
theorem range_nodup (n : Nat) : ((List.range n).map fun (i : Nat) => (i : Int)).Nodup := by
  refine List.pairwise_map.mpr ?_
  exact (List.nodup_range (n := n)).imp fun h z => h (by omega)
theorem pu_is_web : Pure ["value", "many", "ties"] 1 ph_is_web ds_is_web := by
  intro ss μ Q' hl h
  obtain ⟨many, ts, rfl, ok, h⟩ := h
  obtain ⟨n, rfl⟩ : ∃ n : Nat, many = (n : Int) := ⟨many.toNat, by have := ok.lo; omega⟩
  have lo := ok.lo
  have hi := ok.hi
  obtain ⟨k, rfl⟩ : ∃ k : Nat, n = k + 1 := ⟨n - 1, by omega⟩
  have b1 : headB (webD ((k + 1 : Nat) : Int) ts) (PySem.Str.ofString "web") 3 = true := by
    simp [headB, webD]
  have b2 : withinB (.int ((k + 1 : Nat) : Int)) 2 8 = true := by
    simp [withinB]
    omega
  have rg : RgOk 0 ((k + 1 : Nat) : Int) := .of_le (by omega) (by omega) (by omega) (by omega)
  have er : ((List.range (k + 1)).map fun (i : Nat) => (i : Int)) = 0 :: ((List.range k).map fun (i : Nat) => ((i + 1 : Nat) : Int)) := by
    rw [List.range_succ_eq_map, List.map_cons, List.map_map]
    rfl
  have hin : inner (0 :: ((List.range k).map fun (i : Nat) => ((i + 1 : Nat) : Int))) ts = ts := by
    refine List.filter_eq_self.mpr fun t ht => ?_
    have := ok.rows.in_ t ht
    rw [← er]
    simp only [mem_range_int]
    simp
    omega
  have hrow : ∀ (ν : Mu) (Q : DQ), Q (.dat (.bool true)) ν → ph_are_rows [.dat (tiesD ts), .dat (.int 14), .dat (.int ((k + 1 : Nat) : Int))] ν Q := fun ν Q q => ⟨ts, 14, _, rfl, ⟨ok.rows, by decide⟩, q⟩
  have hj : ∀ (ν : Mu) (Q : DQ), Q (.dat (.bool true)) ν → ph_are_joined [.dat (.list (rgL 0 ((k + 1 : Nat) : Int))), .dat (tiesD ts)] ν Q := fun ν Q q => by
    rw [rgL_eq, er]
    refine ⟨_, _, 0, _, ts, rfl, .inr rfl, .inr rfl, ⟨⟨?_, ?_⟩, ok.small⟩, fun b hb => ?_⟩
    · rw [← er]; exact range_nodup _
    · intro p hp
      rw [← er] at hp
      have := mem_range_int.mp hp
      omega
    · have : b = true := hb.mpr fun p hp => by
        rw [hin]
        rw [← er] at hp
        have := mem_range_int.mp hp
        exact ok.joined p this.1 this.2
      rw [this]
      exact q
  simp only [ds_is_web, startD, e_dSeq, e_dIfS, e_dOr, e_dNot, e_dTru, e_dCall, e_aCons, e_aNil, e_dVar, e_dC, e_dOp, List.map_cons, List.map_nil, List.length_cons, List.length_nil, List.replicate, List.cons_append, List.nil_append, List.append_nil, List.getElem?_cons_succ, List.getElem?_cons_zero, c_is_headed, b1, ix_w1, c_is_within, b2, e_rdD, o_okT, o_tr, e_dNext, e_dPar, ix_w2, List.set_cons_succ, List.set_cons_zero, e_dRet, e_dAndV]
  simp only [Bool.not_true, Bool.false_eq_true, if_false, true_and]
  refine ⟨by decide, hrow _ _ ?_⟩
  simp only [if_true, dLstRg1, e_dVar, List.getElem?_cons_succ, List.getElem?_cons_zero, e_rdD, Bool.false_eq_true, if_false]
  refine ⟨rg, hj _ _ ?_⟩
  simpa using h
end WL
namespace WL
open PySem PySem.Spec PyProof.Rows L2 Evl DL
def Sm (k : Nat) (x : Int) : Prop := x.natAbs < 2 ^ k
instance (k : Nat) (x : Int) : Decidable (Sm k x) := inferInstanceAs (Decidable (_ < _))
instance (i j : Int) : Decidable (CPow i j) := inferInstanceAs (Decidable (_ ∧ _))
theorem Sm.mono {j k : Nat} {x : Int} (h : Sm j x) (hk : j ≤ k) : Sm k x := Nat.lt_of_lt_of_le h (Nat.pow_le_pow_right (by decide) hk)
theorem Sm.cmul {j k : Nat} {x y : Int} (h : Sm j x) (g : Sm k y) (hj : j ≤ 100000) (hk : k ≤ 100000) : CMulW x y := wide_mul (h.mono hj) (g.mono hk) (by decide) (by decide) (by decide)
theorem Sm.cdv {k : Nat} {i j : Int} (h : Sm k j) (hk : k ≤ 9000) (h0 : j ≠ 0) : CDv i j := ⟨h0, (Nat.log2_lt (Int.natAbs_ne_zero.mpr h0)).mpr (h.mono hk)⟩
theorem sm_of {k : Nat} {x : Int} (h0 : 0 ≤ x) (h : x < 2 ^ k) : Sm k x := by
  unfold Sm
  have : (x.natAbs : Int) < ((2 ^ k : Nat) : Int) := by
    rw [Int.natAbs_of_nonneg h0]
    simpa using h
  exact Int.ofNat_lt.mp this
theorem fmod_lt {a b : Int} (h : 0 < b) : 0 ≤ a.fmod b ∧ a.fmod b < b := ⟨Int.fmod_nonneg_of_pos a h, Int.fmod_lt_of_pos a h⟩
theorem cp18 : CPow 10 18 := by decide
theorem Ch.refl {k : Nat} {μ : Mu} (h : Pot μ k) : Ch k μ μ := ⟨h, rfl, fun _ _ => rfl⟩
theorem Ch.trans {k : Nat} {μ μ1 μ2 : Mu} (h : Ch k μ μ1) (g : Ch k μ1 μ2) : Ch k μ μ2 := ⟨g.1, g.2.1.trans h.2.1, fun j hj => (g.2.2 j hj).trans (h.2.2 j hj)⟩
theorem Pot.lt {k : Nat} {μ : Mu} (h : Pot μ k) : k < μ.length := by
  obtain ⟨_, _, e, _⟩ := h
  exact (List.getElem?_eq_some_iff.mp e).1
theorem Ch.take {k : Nat} {μ μ' : Mu} (h : Ch k μ μ') : List.take μ.length μ' = μ' := List.take_of_length_le (by rw [h.2.1]; exact Nat.le_refl _)
theorem ch_set {k : Nat} {μ : Mu} {p0 p1 : Int} (hk : k < μ.length) (h0 : 0 ≤ p0) (h1 : 0 ≤ p1) (h2 : p1 < 2 ^ 40) : Ch k μ (μ.set k (.lst [.int p0, .int p1])) :=
  ⟨⟨_, _, List.getElem?_set_self hk, h0, h1, h2⟩, List.length_set .., fun j hj => List.getElem?_set_ne (Ne.symm hj)⟩
theorem o_finC {n k : Nat} {μ : Mu} {Q : DQ} {ds : List PyData} (h : μ[k]? = some (.lst ds)) : finQ n Q (.cell k) μ = if k < n then Q (.cell k) (μ.take n) else (Q (.dat (.list ds)) (μ.take n) ∨ Q (.cell n) (μ.take n ++ [.lst ds])) := by
  simp only [finQ, h]
structure PotC (a b m1 c1 c2 c3 m2 : Int) : Prop where
  a : Sm 40 a
  m1 : 0 < m1 ∧ m1 < 2 ^ 40
  c1 : Sm 40 c1
  c2 : Sm 40 c2
  m2 : 0 < m2 ∧ m2 < 2 ^ 39
instance (a b m1 c1 c2 c3 m2 : Int) : Decidable (PotC a b m1 c1 c2 c3 m2) := decidable_of_iff (Sm 40 a ∧ (0 < m1 ∧ m1 < 2 ^ 40) ∧ Sm 40 c1 ∧ Sm 40 c2 ∧ (0 < m2 ∧ m2 < 2 ^ 39)) ⟨fun ⟨h1, h2, h3, h4, h5⟩ => ⟨h1, h2, h3, h4, h5⟩, fun h => ⟨h.a, h.m1, h.c1, h.c2, h.m2⟩⟩
def dPot (a b m1 c1 c2 c3 m2 : Int) : DS := (dSeq (dAsg (dIf (dTest (dOp wLt (dVar 1) (dCB fLen (aCons (dVar 0) aNil)))) (dCB fAbs (aCons (dOp rIx (dVar 0) (dVar 1)) aNil)) (dOp rAdd (dOp rMul (dC (.int a)) (dVar 1)) (dC (.int b)))) 2)
    (dSeq (dAsg (dOp rAdd (dOp rMd (dCB fInt (aCons (dOp rAdd (dOp rAdd (dOp rMul (dOp rMd (dCB fInt (aCons (dVar 2) aNil)) (dC (.int m1))) (dC (.int c1))) (dOp rMul (dC (.int c2)) (dVar 1))) (dC (.int c3))) aNil)) (dC (.int m2))) (dC (.int 1))) 3)
    (dRet (dLstC (aCons (dCB fMax2 (aCons (dC (.int 0)) (aCons (dOp rSub (dVar 2) (dOp rPw (dC (.int 10)) (dC (.int 18)))) aNil))) (aCons (dVar 3) aNil))))))
theorem pot_end {a b m1 c1 c2 c3 m2 : Int} (hC : PotC a b m1 c1 c2 c3 m2) {μ : Mu} {Q' : DQ} {k cell : Int} (hk : 0 ≤ k ∧ k ≤ 100) (h : ∀ p0 p1 : Int, 0 ≤ p0 → 0 ≤ p1 → p1 < 2 ^ 40 → Q' (.cell μ.length) (μ ++ [.lst [.int p0, .int p1]])) :
    m1 ≠ 0 ∧ CMulW (cell.fmod m1) c1 ∧ CMulW c2 k ∧ m2 ≠ 0 ∧ Q' (.cell μ.length) (μ ++ [.lst [.int (if 1000000000000000000 < cell then cell - 1000000000000000000 else 0), .int ((cell.fmod m1 * c1 + c2 * k + c3).fmod m2 + 1)]]) := by
  have f1 := fmod_lt (a := cell) hC.m1.1
  have f2 := fmod_lt (a := cell.fmod m1 * c1 + c2 * k + c3) hC.m2.1
  have z1 := hC.m1
  have z2 := hC.m2
  refine ⟨by omega, (sm_of (k := 40) f1.1 (by omega)).cmul hC.c1 (by decide) (by decide), hC.c2.cmul (k := 40) (sm_of hk.1 (by omega)) (by decide) (by decide), by omega, h _ _ ?_ ?_ ?_⟩
  · split <;> omega
  · omega
  · omega
theorem pot_gen {a b m1 c1 c2 c3 m2 : Int} (hC : PotC a b m1 c1 c2 c3 m2) : Pure ["script", "k", "cell", "low"] 2 ph_law_pot (dPot a b m1 c1 c2 c3 m2) := by
  intro ss μ Q' hl h
  obtain ⟨ns, k, rfl, hk, h⟩ := h
  by_cases c : k < ns.length
  · obtain ⟨x, hx⟩ : ∃ x, atI (ns.map PyData.int) k = some (.int x) := by
      obtain ⟨d, hd, e⟩ := atI_lt (ds := ns.map PyData.int) hk.1 (by simpa using c)
      obtain ⟨x, _, rfl⟩ := List.mem_map.mp hd
      exact ⟨x, e⟩
    have E := pot_end hC (cell := if x < 0 then -x else x) hk h
    simp [dPot, startD, cp18, c, rix_l hx, o_finC]
    exact ⟨E.1, E.2.1, E.2.2.1, E.2.2.2.1, .inr E.2.2.2.2⟩
  · have E := pot_end hC (cell := a * k + b) hk h
    simp [dPot, startD, cp18, c, o_finC]
    exact ⟨hC.a.cmul (k := 40) (sm_of hk.1 (by omega)) (by decide) (by decide), E.1, E.2.1, E.2.2.1, E.2.2.2.1, .inr E.2.2.2.2⟩
structure DrawC (c1 c2 m1 m2 d : Int) : Prop where
  c1 : Sm 40 c1
  m1 : 0 < m1 ∧ m1 < 2 ^ 40
  m2 : m2 ≠ 0
  d : d ≠ 0 ∧ Sm 40 d
instance (c1 c2 m1 m2 d : Int) : Decidable (DrawC c1 c2 m1 m2 d) := decidable_of_iff (Sm 40 c1 ∧ (0 < m1 ∧ m1 < 2 ^ 40) ∧ m2 ≠ 0 ∧ (d ≠ 0 ∧ Sm 40 d)) ⟨fun ⟨h1, h2, h3, h4⟩ => ⟨h1, h2, h3, h4⟩, fun h => ⟨h.c1, h.m1, h.m2, h.d⟩⟩
def dDraw (c1 c2 m1 m2 d : Int) : DS := (dSeq (dIfS (dTest (dOp wGt (dOp rIx (dVar 0) (dC (.int 0))) (dC (.int 0)))) (dSeq (dAsgG (dCB fDm (aCons (dOp rIx (dVar 0) (dC (.int 0))) (aCons (dVar 1) aNil))) (gT 2 (gsCons (gS (dVar 0) (dC (.int 0))) (gsCons (gN 2) gsNil))))
    (dRet (dVar 2))) dNext)
    (dSeq (dAsgG (dOp rMd (dCB fInt (aCons (dOp rAdd (dOp rMul (dOp rIx (dVar 0) (dC (.int 1))) (dC (.int c1))) (dC (.int c2))) aNil)) (dC (.int m1))) (gS (dVar 0) (dC (.int 1))))
    (dRet (dOp rMd (dCB fInt (aCons (dOp rDv (dOp rMd (dCB fInt (aCons (dOp rMul (dOp rIx (dVar 0) (dC (.int 1))) (dOp rIx (dVar 0) (dC (.int 1)))) aNil)) (dC (.int m2))) (dC (.int d))) aNil)) (dVar 1)))))
theorem draw_gen {x y : Str} {c1 c2 m1 m2 d : Int} (hC : DrawC c1 c2 m1 m2 d) : Pure ["pot", x, y] 2 ph_law_draw (dDraw c1 c2 m1 m2 d) := by
  intro ss μ Q' hl h
  obtain ⟨k, n, rfl, ⟨p0, p1, hm, h0, h1, h2⟩, hn, h⟩ := h
  have hk : k < μ.length := (List.getElem?_eq_some_iff.mp hm).1
  have hn0 : n ≠ 0 := by omega
  have i0 : ∀ Q, DL.rIx (.cell k) (.dat (.int 0)) μ Q = Q (.dat (.int p0)) μ := fun Q => rix_c hm rfl
  have i1 : ∀ Q, DL.rIx (.cell k) (.dat (.int 1)) μ Q = Q (.dat (.int p1)) μ := fun Q => rix_c hm rfl
  by_cases c : 0 < p0
  · have cd : CDm p0 n := ⟨hn.1, (Nat.log2_lt (by omega)).mpr ((sm_of (k := 100) (by omega) hn.2).mono (k := 9000) (by decide))⟩
    have w0 : ∀ R, wrL (.cell k) (.dat (.int 0)) (.dat (.int (p0 / n))) μ R = R (μ.set k (.lst [.int (p0 / n), .int p1])) := fun R => wrl_c (m := 0) hm rfl
    have dm : ∀ (ν : Mu) (Q : DQ), fDm [.dat (.int p0), .dat (.int n)] ν Q = (CDm p0 n ∧ Q (.dat (.tuple [.int (p0 / n), .int (p0 % n)])) ν) := fun _ _ => rfl
    simp [dDraw, startD, i0, c, cd, w0, dm]
    rw [List.take_of_length_le (by simp)]
    exact h _ _ (Int.emod_nonneg _ hn0) (Int.emod_lt_of_pos _ hn.1) (ch_set hk (Int.ediv_nonneg h0 (by omega)) h1 h2)
  · have f1 := fmod_lt (a := p1 * c1 + c2) hC.m1.1
    have z1 := hC.m1
    generalize hp : (p1 * c1 + c2).fmod m1 = y at f1
    have w1 : ∀ R, wrL (.cell k) (.dat (.int 1)) (.dat (.int y)) μ R = R (μ.set k (.lst [.int p0, .int y])) := fun R => wrl_c (m := 1) hm rfl
    have hm2 : (μ.set k (.lst [.int p0, .int y]))[k]? = some (.lst [.int p0, .int y]) := List.getElem?_set_self hk
    have i2 : ∀ Q, DL.rIx (.cell k) (.dat (.int 1)) (μ.set k (.lst [.int p0, .int y])) Q = Q (.dat (.int y)) (μ.set k (.lst [.int p0, .int y])) := fun Q => rix_c hm2 rfl
    have c1' : CMulW p1 c1 := (sm_of h1 h2).cmul hC.c1 (by decide) (by decide)
    have sy : Sm 40 y := sm_of f1.1 (by omega)
    have c2' : CMulW y y := sy.cmul sy (by decide) (by decide)
    have c3' : ∀ i, CDv i d := fun i => hC.d.2.cdv (by decide) hC.d.1
    have m1' : m1 ≠ 0 := by omega
    simp [dDraw, startD, i0, i1, c, c1', hp, w1, i2, c2', c3', hn0, m1', hC.m2]
    rw [List.take_of_length_le (by simp)]
    have f3 := fmod_lt (a := ((y * y).fmod m2).fdiv d) hn.1
    exact h _ _ f3.1 f3.2 (ch_set hk h0 f1.1 (by omega))
end WL
namespace WL
open PySem PySem.Spec PyProof.Rows L2 Evl DL
open PySem.W (dataLt dataLe alike alikeAll AllAlike Sortable)
abbrev E3 := (Int × Int) × Int
def kt (e : E3) : List Key × PyData := ([.inl e.1.1, .inl e.1.2], .int e.2)
def putP (ps : List E3) (k : Int × Int) (r : Int) : List E3 := if k ∈ ps.map (·.1) then ps.map (fun e => if e.1 = k then (e.1, r) else e) else ps ++ [(k, r)]
theorem kt_key {e : E3} {a b : Int} : ((kt e).1 = [.inl a, .inl b]) ↔ e.1 = (a, b) := by
  obtain ⟨⟨x, y⟩, z⟩ := e
  simp [kt]
theorem any_kt (ps : List E3) (a b : Int) : ((ps.map kt).any fun e => decide (e.1 = [.inl a, .inl b])) = decide ((a, b) ∈ ps.map (·.1)) := by
  induction ps with
  | nil => rfl
  | cons e r ih =>
    rw [List.map_cons, List.any_cons, ih]
    by_cases h : e.1 = (a, b)
    · rw [decide_eq_true (kt_key.mpr h)]
      simp [h]
    · rw [decide_eq_false (fun z => h (kt_key.mp z))]
      have h' : ¬ (a, b) = e.1 := fun z => h z.symm
      simp [h']
theorem put_kt (ps : List E3) (a b r : Int) : putD (ps.map kt) [.inl a, .inl b] (.int r) = (putP ps (a, b) r).map kt := by
  unfold putD putP
  rw [any_kt]
  by_cases h : (a, b) ∈ ps.map (·.1)
  · rw [if_pos (decide_eq_true h), if_pos h, List.map_map, List.map_map]
    refine List.map_congr_left fun e _ => ?_
    show (if (kt e).1 = _ then ((kt e).1, _) else kt e) = kt (if e.1 = (a, b) then (e.1, r) else e)
    by_cases q : e.1 = (a, b)
    · rw [if_pos (kt_key.mpr q), if_pos q]
      rfl
    · rw [if_neg (fun z => q (kt_key.mp z)), if_neg q]
  · rw [if_neg (by rw [decide_eq_false h]; exact Bool.false_ne_true), if_neg h, List.map_append]
    rfl
theorem val_kt {ps : List E3} (hn : (ps.map (·.1)).Nodup) {e : E3} (he : e ∈ ps) : valD (ps.map kt) [.inl e.1.1, .inl e.1.2] = some (.int e.2) := by
  induction ps with
  | nil => cases he
  | cons x r ih =>
    rw [List.map_cons] at hn
    obtain ⟨h1, h2⟩ := List.nodup_cons.mp hn
    unfold valD
    rw [List.map_cons, List.find?_cons]
    rcases List.mem_cons.mp he with rfl | he
    · rw [decide_eq_true (kt_key.mpr rfl)]
      rfl
    · have ne : ¬ x.1 = e.1 := fun z => h1 (z ▸ List.mem_map.mpr ⟨e, he, rfl⟩)
      rw [decide_eq_false (fun z => ne (kt_key.mp z))]
      exact ih h2 he
theorem keys_put (ps : List E3) (k : Int × Int) (r : Int) : (putP ps k r).map (·.1) = if k ∈ ps.map (·.1) then ps.map (·.1) else ps.map (·.1) ++ [k] := by
  unfold putP
  split
  · rw [List.map_map]
    refine List.map_congr_left fun e _ => ?_
    show (if e.1 = k then (e.1, r) else e).1 = e.1
    split <;> rfl
  · rw [List.map_append]
    rfl
theorem mem_put {ps : List E3} {k : Int × Int} {r : Int} {e : E3} (h : e ∈ putP ps k r) : e ∈ ps ∨ e = (k, r) := by
  unfold putP at h
  split at h
  · obtain ⟨x, hx, rfl⟩ := List.mem_map.mp h
    split
    · rename_i q
      right
      rw [q]
    · exact .inl hx
  · rcases List.mem_append.mp h with h | h
    · exact .inl h
    · exact .inr (List.mem_singleton.mp h)
structure Tab (n room : Int) (i c : Nat) (ps : List E3) : Prop where
  nd : (ps.map (·.1)).Nodup
  rg : ∀ e ∈ ps, (0 ≤ e.1.1 ∧ e.1.1 < e.1.2 ∧ e.1.2 < n) ∧ (1 ≤ e.2 ∧ e.2 ≤ room)
  all : ∀ q : Int, 1 ≤ q → q ≤ (i : Int) → ∃ a, (a, q) ∈ ps.map (·.1)
  len : ps.length ≤ c
theorem Tab.put {n room : Int} {i c : Nat} {ps : List E3} (h : Tab n room i c ps) {a b r : Int} (ha : 0 ≤ a ∧ a < b ∧ b < n) (hr : 1 ≤ r ∧ r ≤ room) : Tab n room i (c + 1) (putP ps (a, b) r) ∧ (a, b) ∈ (putP ps (a, b) r).map (·.1) := by
  refine ⟨⟨?_, fun e he => ?_, fun q h1 h2 => ?_, ?_⟩, ?_⟩
  · rw [keys_put]
    split
    · exact h.nd
    · rename_i q
      refine List.nodup_append.mpr ⟨h.nd, List.nodup_cons.mpr ⟨by simp, List.nodup_nil⟩, fun x hx y hy => ?_⟩
      rw [List.mem_singleton.mp hy]
      exact fun z => q (z ▸ hx)
  · rcases mem_put he with he | rfl
    · exact h.rg e he
    · exact ⟨ha, hr⟩
  · obtain ⟨x, hx⟩ := h.all q h1 h2
    refine ⟨x, ?_⟩
    rw [keys_put]
    split
    · exact hx
    · exact List.mem_append.mpr (.inl hx)
  · have := h.len
    unfold putP
    split
    · rw [List.length_map]; omega
    · rw [List.length_append, List.length_singleton]; omega
  · rw [keys_put]
    split
    · assumption
    · exact List.mem_append.mpr (.inr (List.mem_singleton.mpr rfl))
structure At (k : Nat) (μ ν : Mu) (ps : List E3) : Prop where
  pot : Pot ν k
  len : ν.length = μ.length + 1
  tab : ν[μ.length]? = some (.dctT (ps.map kt))
  old : ∀ j, j < μ.length → j ≠ k → ν[j]? = μ[j]?
theorem At.ch {k : Nat} {μ ν ν' : Mu} {ps : List E3} (h : At k μ ν ps) (hk : k < μ.length) (c : Ch k ν ν') : At k μ ν' ps :=
  ⟨c.1, c.2.1.trans h.len, (c.2.2 _ (by omega)).trans h.tab, fun j hj hk => (c.2.2 j hk).trans (h.old j hj hk)⟩
theorem At.put {k : Nat} {μ ν : Mu} {ps ps' : List E3} (h : At k μ ν ps) (hk : k < μ.length) : At k μ (ν.set μ.length (.dctT (ps'.map kt))) ps' := by
  refine ⟨?_, by rw [List.length_set]; exact h.len, List.getElem?_set_self (by rw [h.len]; omega), fun j hj hk' => ?_⟩
  · obtain ⟨p0, p1, e, q⟩ := h.pot
    exact ⟨p0, p1, by rw [List.getElem?_set_ne (by omega)]; exact e, q⟩
  · rw [List.getElem?_set_ne (by omega)]
    exact h.old j hj hk'
theorem At.end {k : Nat} {μ ν : Mu} {ps : List E3} (h : At k μ ν ps) (hk : k < μ.length) : Ch k μ (ν.take μ.length) := by
  obtain ⟨p0, p1, e, q⟩ := h.pot
  refine ⟨⟨p0, p1, by rw [List.getElem?_take_of_lt hk]; exact e, q⟩, by rw [List.length_take, h.len]; omega, fun j hj => ?_⟩
  by_cases hl : j < μ.length
  · rw [List.getElem?_take_of_lt hl]
    exact h.old j hl hj
  · rw [List.getElem?_eq_none (by rw [List.length_take]; omega), List.getElem?_eq_none (by omega)]
theorem put_tab {k : Nat} {μ ν : Mu} {ps : List E3} {a b r : Int} (h : At k μ ν ps) (hl : ps.length ≤ 1000) {Q : Mu → Prop} (q : Q (ν.set μ.length (.dctT ((putP ps (a, b) r).map kt)))) : putKT (.cell μ.length) (.dat (.int r)) [.dat (.int a), .dat (.int b)] ν Q := by
  unfold putKT
  simp only [h.tab, e_datsCons, e_datsNil]
  refine ⟨[.inl a, .inl b], rfl, by simp [small_sz], by rw [List.length_map]; exact Nat.lt_of_le_of_lt hl (by decide), ?_⟩
  rw [put_kt]
  exact q
section
variable {D : DEnds} {k : Nat} {μ : Mu} {n further room : Int} {v6 v7 v8 : Option Sl}
theorem web_loop1 (hk : k < μ.length) (hn : 2 ≤ n ∧ n ≤ 8) (hr : 1 ≤ room ∧ room ≤ 20)
    (h : ∀ ps v5 ν, At k μ ν ps → Tab n room (n - 1).toNat (n - 1).toNat ps → D.nx [some (.cell k), some (.dat (.int n)), some (.dat (.int further)), some (.dat (.int room)), some (.cell μ.length), v5, v6, v7, v8] ν) :
    ∀ (m i : Nat) (ps : List E3) (v5 : Option Sl) (ν : Mu), i + m = (n - 1).toNat → At k μ ν ps → Tab n room i i ps →
    forD (fun _ => True) (gN 5) (dDPutT (dVar 4) (aCons (dCall 2 ph_law_draw (aCons (dVar 0) (aCons (dVar 5) aNil))) (aCons (dVar 5) aNil)) (dOp DL.rAdd (dC (.int 1)) (dCall 2 ph_law_draw (aCons (dVar 0) (aCons (dVar 3) aNil))))) D
      ((List.range' i m).map fun (j : Nat) => Sl.dat (.int (1 + (j : Int)))) [some (.cell k), some (.dat (.int n)), some (.dat (.int further)), some (.dat (.int room)), some (.cell μ.length), v5, v6, v7, v8] ν
  | 0, i, ps, v5, ν, e, ha, ht => by
    have : i = (n - 1).toNat := by omega
    subst this
    exact ⟨trivial, h ps v5 ν ha ht⟩
  | m + 1, i, ps, v5, ν, e, ha, ht => by
    rw [List.range'_succ, List.map_cons]
    refine ⟨trivial, ?_⟩
    simp [ha.pot]
    refine ⟨by omega, fun x ν1 x0 x1 c1 => ⟨c1.1, by omega, fun y ν2 y0 y1 c2 => ?_⟩⟩
    have h2 := (ha.ch hk c1).ch hk c2
    refine put_tab h2 (by have := ht.len; omega) ?_
    obtain ⟨t1, t2⟩ := ht.put (a := y) (b := 1 + (i : Int)) (r := 1 + x) (by omega) (by omega)
    refine web_loop1 hk hn hr h m (i + 1) _ _ _ (by omega) (h2.put hk) ⟨t1.nd, t1.rg, fun q q1 q2 => ?_, t1.len⟩
    by_cases hq : q ≤ (i : Int)
    · exact t1.all q q1 hq
    · have : q = 1 + (i : Int) := by omega
      subst this
      exact ⟨y, t2⟩
theorem web_loop2 {v5 : Option Sl} (hk : k < μ.length) (hn : 2 ≤ n ∧ n ≤ 8) (hr : 1 ≤ room ∧ room ≤ 20) {g : Nat}
    (h : ∀ ps v6 v7 ν c, At k μ ν ps → Tab n room (n - 1).toNat c ps → c ≤ (n - 1).toNat + g → D.nx [some (.cell k), some (.dat (.int n)), some (.dat (.int further)), some (.dat (.int room)), some (.cell μ.length), v5, v6, v7, v8] ν) (hg : g ≤ 100) :
    ∀ (ts : List Sl) (c : Nat) (ps : List E3) (v6 v7 : Option Sl) (ν : Mu), c + ts.length ≤ (n - 1).toNat + g → At k μ ν ps → Tab n room (n - 1).toNat c ps →
    forD (fun _ => True) (gN 6) (dSeq (dAsg (dCall 2 ph_law_draw (aCons (dVar 0) (aCons (dOp DL.rSub (dVar 1) (dC (.int 1))) aNil))) 7)
    (dDPutT (dVar 4) (aCons (dVar 7) (aCons (dOp DL.rAdd (dOp DL.rAdd (dVar 7) (dC (.int 1))) (dCall 2 ph_law_draw (aCons (dVar 0) (aCons (dOp DL.rSub (dOp DL.rSub (dVar 1) (dC (.int 1))) (dVar 7)) aNil)))) aNil)) (dOp DL.rAdd (dC (.int 1)) (dCall 2 ph_law_draw (aCons (dVar 0) (aCons (dVar 3) aNil)))))) D
      ts [some (.cell k), some (.dat (.int n)), some (.dat (.int further)), some (.dat (.int room)), some (.cell μ.length), v5, v6, v7, v8] ν
  | [], c, ps, v6, v7, ν, e, ha, ht => ⟨trivial, h ps v6 v7 ν c ha ht (by simpa using e)⟩
  | t :: ts, c, ps, v6, v7, ν, e, ha, ht => by
    rw [List.length_cons] at e
    refine ⟨trivial, ?_⟩
    simp [ha.pot]
    refine ⟨by omega, fun one ν1 o0 o1 c1 => ⟨c1.1, by omega, fun x ν2 x0 x1 c2 => ⟨c2.1, by omega, fun y ν3 y0 y1 c3 => ?_⟩⟩⟩
    have h2 := ((ha.ch hk c1).ch hk c2).ch hk c3
    refine put_tab h2 (by have := ht.len; omega) ?_
    obtain ⟨t1, t2⟩ := ht.put (a := one) (b := one + 1 + y) (r := 1 + x) (by omega) (by omega)
    exact web_loop2 hk hn hr h hg ts (c + 1) _ _ _ _ (by omega) (h2.put hk) t1
end
def leP (p q : Int × Int) : Bool := !decide (lexP q p)
theorem lexP_or {p q : Int × Int} (h : leP p q = true) (ne : p ≠ q) : lexP p q := by
  unfold leP at h
  have h' : ¬ lexP q p := by simpa using h
  unfold lexP at *
  have : ¬ (p.1 = q.1 ∧ p.2 = q.2) := fun z => ne (Prod.ext z.1 z.2)
  omega
theorem leP_tr (a b c : Int × Int) (h : leP a b = true) (g : leP b c = true) : leP a c = true := by
  have h' : ¬ lexP b a := by simpa [leP] using h
  have g' : ¬ lexP c b := by simpa [leP] using g
  have r : ¬ lexP c a := by
    unfold lexP at *
    omega
  simpa [leP] using r
theorem leP_tot (a b : Int × Int) : (leP a b || leP b a) = true := by
  unfold leP lexP
  by_cases h : b.1 < a.1 ∨ b.1 = a.1 ∧ b.2 < a.2
  · have : ¬ (a.1 < b.1 ∨ a.1 = b.1 ∧ a.2 < b.2) := by omega
    simp [h, this]
  · simp [h]
theorem sortD_pairs (ps : List (Int × Int)) : sortD (ps.map pairD) = (ps.mergeSort leP).map pairD := by
  unfold sortD
  have m := List.map_mergeSort (r := leP) (s := dataLe false id) (f := pairD) (l := ps) (fun a _ b _ => by
    show _ = (!dataLt (pairD b) (pairD a))
    rw [lt_pair]
    rfl)
  rw [← m]
theorem sort_pairs {ps : List (Int × Int)} (hl : ps.length ≤ 1000) : SortOk (ps.map pairD) := by
  refine ⟨PySem.W.AllAlike.of fun _ _ => alike_pair, .inl (.inl fun d hd => ?_), sz (by rw [List.length_map]; exact hl), fun d hd => ?_⟩
  · obtain ⟨p, _, rfl⟩ := List.mem_map.mp hd
    exact ⟨_, _, rfl⟩
  · obtain ⟨p, _, rfl⟩ := List.mem_map.mp hd
    exact Nat.le_trans sh_pair.2 (by decide)
def valP (ps : List E3) (p : Int × Int) : Int := match ps.find? fun e => decide (e.1 = p) with
  | some e => e.2
  | none => 0
theorem valP_mem {ps : List E3} {p : Int × Int} (h : p ∈ ps.map (·.1)) : ((p, valP ps p) : E3) ∈ ps := by
  unfold valP
  cases e : ps.find? fun e => decide (e.1 = p) with
  | none =>
    obtain ⟨x, hx, rfl⟩ := List.mem_map.mp h
    have := List.find?_eq_none.mp e x hx
    simp at this
  | some x =>
    have h1 := List.mem_of_find?_eq_some e
    have h2 : x.1 = p := by simpa using List.find?_some e
    rw [← h2]
    exact h1
def tiesOf (ps : List E3) : List T3 := ((ps.map (·.1)).mergeSort leP).map fun p => (p.1, p.2, valP ps p)
theorem tiesOf_ok {n room : Int} {c : Nat} {ps : List E3} (hn : 2 ≤ n ∧ n ≤ 8) (hr : room ≤ 20) (hc : c ≤ 14) (h : Tab n room (n - 1).toNat c ps) : WebOk n (tiesOf ps) ∧ ∀ t ∈ tiesOf ps, t.2.2 ≤ room := by
  have mem : ∀ t, t ∈ tiesOf ps → ((t.1, t.2.1), t.2.2) ∈ ps := fun t ht => by
    obtain ⟨p, hp, rfl⟩ := List.mem_map.mp ht
    exact valP_mem (List.mem_mergeSort.mp hp)
  have hlen : (tiesOf ps).length = ps.length := by
    unfold tiesOf
    rw [List.length_map, List.length_mergeSort, List.length_map]
  have has : ∀ q : Int, 1 ≤ q → q < n → ∃ t ∈ tiesOf ps, t.2.1 = q ∧ 0 ≤ t.1 ∧ t.1 < q := fun q q1 q2 => by
    obtain ⟨a, ha⟩ := h.all q q1 (by omega)
    refine ⟨(a, q, valP ps (a, q)), List.mem_map.mpr ⟨(a, q), List.mem_mergeSort.mpr ha, rfl⟩, rfl, ?_⟩
    have := (h.rg _ (valP_mem ha)).1
    exact ⟨this.1, this.2.1⟩
  refine ⟨⟨hn.1, hn.2, ⟨?_, by rw [hlen]; exact Nat.le_trans h.len hc, fun t ht => ?_, ?_⟩, ?_⟩, fun t ht => (h.rg _ (mem t ht)).2.2⟩
  · obtain ⟨t, ht, _⟩ := has 1 (by omega) (by omega)
    exact List.length_pos_of_mem ht
  · have q : (0 ≤ t.1 ∧ t.1 < t.2.1 ∧ t.2.1 < n) ∧ (1 ≤ t.2.2 ∧ t.2.2 ≤ room) := h.rg _ (mem t ht)
    omega
  · unfold tiesOf
    refine List.pairwise_map.mpr ?_
    have p1 := List.pairwise_mergeSort leP_tr leP_tot (ps.map (·.1))
    have p2 : ((ps.map (·.1)).mergeSort leP).Nodup := (List.mergeSort_perm _ _).nodup_iff.mpr h.nd
    exact (p1.and p2).imp fun ⟨z1, z2⟩ => lexP_or z1 z2
  · intro p p0 p1
    have : ∀ (m : Nat) (p : Int), 0 ≤ p → p < n → p < (m : Int) → Reach (tiesOf ps) 0 p := by
      intro m
      induction m with
      | zero => intro p h1 _ h2; omega
      | succ m ih =>
        intro p h1 h2 h3
        by_cases hp : p = 0
        · subst hp; exact .here
        · obtain ⟨t, ht, e, t0, t1⟩ := has p (by omega) h2
          rw [← e]
          exact .fwd (ih t.1 t0 (by omega) (by omega)) ht rfl
    exact this (p.toNat + 1) p p0 p1 (by omega)
theorem pu_law_web : Pure ["pot", "many", "further", "room", "ties", "place", "turn", "one", "tie"] 4 ph_law_web ds_law_web := by
  intro ss μ Q' hl h
  obtain ⟨k, n, further, room, rfl, hp, ⟨hn, hf, hr⟩, h⟩ := h
  have hk := hp.lt
  have a0 : At k μ (μ ++ [.dctT []]) [] := by
    refine ⟨?_, by rw [List.length_append]; rfl, ?_, fun j hj _ => List.getElem?_append_left hj⟩
    · obtain ⟨p0, p1, e, q⟩ := hp
      exact ⟨p0, p1, by rw [List.getElem?_append_left hk]; exact e, q⟩
    · rw [List.getElem?_append_right (Nat.le_refl _), Nat.sub_self]
      rfl
  have t0 : Tab n room 0 0 [] := ⟨by simp, (fun e he => by cases he), (fun q h1 h2 => by omega), Nat.zero_le _⟩
  simp [ds_law_web, startD, dFor, iRg2, -List.map_map]
  refine ⟨by omega, ?_⟩
  unfold rgI
  rw [List.range_eq_range']
  try rw [show n.toNat - 1 = (n - 1).toNat by omega]
  refine web_loop1 (further := further) (v6 := none) (v7 := none) (v8 := none) hk hn hr (fun ps v5 ν ha ht => ?_) (n - 1).toNat 0 [] none _ (by omega) a0 t0
  simp [dFor, iRg1, ha.pot, -List.map_map]
  refine ⟨by omega, fun g ν1 g0 g1 c1 => ⟨by omega, ?_⟩⟩
  refine web_loop2 hk hn hr (g := g.toNat) (fun ps v6 v7 ν c ha ht hc => ?_) (by omega) _ (n - 1).toNat ps none none ν1 (by simp [rgI]) (ha.ch hk c1) ht
  have hlen : ps.length ≤ 14 := by have := ht.len; omega
  obtain ⟨w1, w2⟩ := tiesOf_ok hn hr.2 (by omega) ht
  have eL : ∀ (Q : DQ), fListDT [.cell μ.length] ν Q = Q (.dat (.list ((ps.map (·.1)).map pairD))) ν := fun Q => by
    simp only [fListDT, ha.tab, List.map_map]
    rfl
  have eS : ∀ (Q : DQ), fSorted [.dat (.list ((ps.map (·.1)).map pairD))] ν Q = Q (.dat (.list (((ps.map (·.1)).mergeSort leP).map pairD))) ν := fun Q => by
    simp only [fSorted, arg1, e_rdD, sortD_pairs, e_isVd, e_mkF]
    exact propext ⟨fun z => z.2, fun z => ⟨sort_pairs (by rw [List.length_map]; omega), z⟩⟩
  have ci : ∀ R, iSeq (dCB fSorted (aCons (dCB fListDT (aCons (dVar 4) aNil)) aNil)) [some (.cell k), some (.dat (.int n)), some (.dat (.int further)), some (.dat (.int room)), some (.cell μ.length), v5, v6, v7, none] ν R = R ((((ps.map (·.1)).mergeSort leP).map pairD).map .dat) (fun ν' => rd ν' (.dat (.list (((ps.map (·.1)).mergeSort leP).map pairD))) = some (.list (((ps.map (·.1)).mergeSort leP).map pairD))) ν := fun R => by
    simp only [iSeq, e_dCB, e_aCons, e_aNil, e_dVar, List.getElem?_cons_succ, List.getElem?_cons_zero, eL, eS, e_rdD, e_eltfun]
  have L := fun Q => lc_gen (β := Unit) pairD (fun _ => true) (fun p => tieD (p.1, p.2, valP ps p)) (g := gN 8) (t := dYes) (e := dOp DL.rAdd (dVar 8) (dTup (aCons (dOp rDIx (dVar 4) (dVar 8)) aNil))) (vs := [8]) (Q := Q) ci (fun _ => rfl) (sz (by rw [List.length_mergeSort, List.length_map]; omega)) (fun p hp acc R => by
    have hm := valP_mem (List.mem_mergeSort.mp hp)
    have hv := val_kt ht.nd hm
    have hc' : (ν ++ [Cell.lst acc])[μ.length]? = some (.dctT (ps.map kt)) := by
      rw [List.getElem?_append_left (by rw [ha.len]; omega)]
      exact ha.tab
    have ix : ∀ Q : DQ, rDIx (.cell μ.length) (.dat (pairD p)) (ν ++ [Cell.lst acc]) Q = Q (.dat (.int (valP ps p))) (ν ++ [Cell.lst acc]) := fun Q => by
      simp only [rDIx, dictAt, hc']
      refine propext ⟨fun ⟨ds, ks, e1, e2, q⟩ => ?_, fun q => ⟨_, [.inl p.1, .inl p.2], rfl, rfl, ?_⟩⟩
      · cases e1
        cases e2
        simp only [hv] at q
        exact q
      · simp only [hv]
        exact q
    have ad : ∀ Q : DQ, DL.rAdd (.dat (pairD p)) (.dat (.tuple [.int (valP ps p)])) (ν ++ [Cell.lst acc]) Q = Q (.dat (tieD (p.1, p.2, valP ps p))) (ν ++ [Cell.lst acc]) := fun Q => by
      show ((2 + 1 ≤ sizeLine) ∧ _) = _
      exact propext ⟨fun z => z.2, fun z => ⟨by decide, z⟩⟩
    simp [wipeD, dYes, ix, ad, small_sz])
  have e2 : (((ps.map (·.1)).mergeSort leP).filter fun _ => true).map (fun p => tieD (p.1, p.2, valP ps p)) = (tiesOf ps).map tieD := by
    rw [List.filter_eq_self.mpr (fun _ _ => rfl)]
    unfold tiesOf
    rw [List.map_map]
    rfl
  rw [e2] at L
  have fin := h (tiesOf ps) _ w1 w2 (ha.end hk)
  simp [L, small_sz, -List.map_map]
  exact fin
end WL
namespace WL
open PySem PySem.Spec PyProof.Rows L2 Evl DL
def minI : List Int → Int
  | [] => 0
  | x :: r => r.foldl (fun a y => if y < a then y else a) x
def leastOf (ts : List T3) (cs : List (List Int)) : List (List Int) := cs.filter fun c => decide (roomL ts c = minI (cs.map (roomL ts)))
def dueL (n : Int) (p q : Int) : List (List Int) := (cutsL n.toNat).filter fun c => acrossB c (p, q, 0)
def leastL (n : Int) (ts : List T3) (p q : Int) : List (List Int) := leastOf ts (dueL n p q)
def leastR (n : Int) (ts : List T3) (p q : Int) : Int := minI ((dueL n p q).map (roomL ts))
structure TwoOk (n : Int) (ts : List T3) (p q : Int) : Prop where
  web : WebOk n ts
  one : 0 ≤ p ∧ p < n
  other : 0 ≤ q ∧ q < n
  ne : p ≠ q
def TwoQ (Q : DQ) (ds : List PyData) (μ : Mu) : Prop := Q (.dat (.list ds)) μ ∨ Q (.cell μ.length) (μ ++ [.lst ds])
def ph_of_least_room : DF := fun ss μ Q => ∃ n ts cs, ss = [.dat (webD n ts), .dat (.list (cs.map rowI))] ∧ (ts.length ≤ 100 ∧ cs ≠ [] ∧ cs.length ≤ 1000 ∧ ∀ c ∈ cs, SmallL c) ∧ TwoQ Q ((leastOf ts cs).map rowI) μ
def ph_least_cuts : DF := fun ss μ Q => ∃ n ts p q, ss = [.dat (webD n ts), .dat (.int p), .dat (.int q)] ∧ TwoOk n ts p q ∧ TwoQ Q ((leastL n ts p q).map rowI) μ
def ph_least_cut : DF := fun ss μ Q => ∃ n ts p q, ss = [.dat (webD n ts), .dat (.int p), .dat (.int q)] ∧ TwoOk n ts p q ∧ ∀ c r, leastL n ts p q = c :: r → Q (.dat (rowI c)) μ
def ph_least_room : DF := fun ss μ Q => ∃ n ts p q, ss = [.dat (webD n ts), .dat (.int p), .dat (.int q)] ∧ TwoOk n ts p q ∧ Q (.dat (.int (leastR n ts p q))) μ
end WL
namespace WL
open PySem PySem.Spec PyProof.Rows L2 Evl DL
def ds_of_least_room : DS := (dSeq (dAsg (dLc (iSeq (dVar 1)) (gN 4) dYes (dCall 2 ph_sum_across (aCons (dOp rIx (dVar 0) (dC (.int 2))) (aCons (dVar 4) aNil))) [4]) 2)
    (dSeq (dAsg (dCB fMin1 (aCons (dVar 2) aNil)) 3)
    (dRet (dLcC (iZp (aCons (dVar 1) (aCons (dVar 2) aNil))) (gT 2 (gsCons (gN 4) (gsCons (gN 5) gsNil))) (dTest (dOp rEq (dVar 5) (dVar 3))) (dVar 4) [4, 5]))))
def ds_least_cuts : DS := (dSeq (dDrop (dCall 3 ph_check_two (aCons (dVar 0) (aCons (dVar 1) (aCons (dVar 2) aNil)))))
    (dRet (dCall 2 ph_of_least_room (aCons (dVar 0) (aCons (dLc (iSeq (dCall 1 ph_cuts_of_many (aCons (dOp rIx (dVar 0) (dC (.int 1))) aNil))) (gN 3) (dTru (dCall 2 ph_is_across (aCons (dVar 3) (aCons (dTup (aCons (dVar 1) (aCons (dVar 2) aNil))) aNil)))) (dVar 3) [3]) aNil)))))
def ds_least_cut : DS := (dRet (dOp rIx (dCall 3 ph_least_cuts (aCons (dVar 0) (aCons (dVar 1) (aCons (dVar 2) aNil)))) (dC (.int 0))))
def ds_least_room : DS := (dSeq (dAsg (dCall 3 ph_least_cut (aCons (dVar 0) (aCons (dVar 1) (aCons (dVar 2) aNil)))) 3)
    (dRet (dCall 2 ph_sum_across (aCons (dOp rIx (dVar 0) (dC (.int 2))) (aCons (dVar 3) aNil)))))
end WL
namespace WL
open PySem PySem.Spec PyProof.Rows L2 Evl DL
open PySem.W (dataLt dataLe alike alikeAll AllAlike Sortable minD)
theorem cuts_len {n : Nat} (hn : n ≤ 8) : (cutsL n).length ≤ 128 := by
  unfold cutsL
  rw [(sortL_perm _).length_eq]
  refine Nat.le_trans (List.length_filter_le _ _) ?_
  rw [lots_len]
  exact Nat.le_trans (Nat.pow_le_pow_right (by decide) (show n - 1 ≤ 7 by omega)) (by decide)
theorem Cut.small {n : Int} {c : List Int} (h : Cut n c) (hn : n ≤ 8) : SmallL c := by
  have := nodup_len 8 c 0 (lt_nodup h.1) fun q hq => by have := h.2.1 q hq; omega
  unfold SmallL
  omega
theorem mem_due {n : Int} (hn : 1 ≤ n) {p q : Int} {c : List Int} : c ∈ dueL n p q ↔ Cut n c ∧ acrossB c (p, q, 0) = true := by
  unfold dueL
  rw [List.mem_filter, mem_cutsL (show 1 ≤ n.toNat by omega), show ((n.toNat : Nat) : Int) = n by omega]
theorem due_len {n : Int} (hn : n ≤ 8) {p q : Int} : (dueL n p q).length ≤ 128 := Nat.le_trans (List.length_filter_le _ _) (cuts_len (by omega))
theorem due_ne {n : Int} {p q : Int} (hp : 0 ≤ p ∧ p < n) (hq : 0 ≤ q ∧ q < n) (ne : p ≠ q) : dueL n p q ≠ [] := by
  have one : ∀ r : Int, 1 ≤ r → r < n → Cut n [r] := fun r r1 r2 => ⟨List.pairwise_singleton .., fun x hx => by rw [List.mem_singleton.mp hx]; exact ⟨r1, r2⟩, by simp⟩
  have : ∃ c, c ∈ dueL n p q := by
    by_cases h0 : p = 0
    · refine ⟨[q], (mem_due (by omega)).mpr ⟨one q (by omega) hq.2, ?_⟩⟩
      simp [acrossB, ne]
    · refine ⟨[p], (mem_due (by omega)).mpr ⟨one p (by omega) hp.2, ?_⟩⟩
      have : ¬ q = p := fun z => ne z.symm
      simp [acrossB, this]
  obtain ⟨c, hc⟩ := this
  exact fun e => by rw [e] at hc; cases hc
section
variable {μ : Mu} {Q : DQ} {n p q : Int} {ts : List T3} {cs : List (List Int)}
@[simp ↓] theorem ix_l0 {x : PyData} {r : List PyData} : DL.rIx (.dat (.list (x :: r))) (.dat (.int 0)) μ Q = Q (.dat x) μ := by
  have e : atI (x :: r) 0 = some x := atI0
  simp only [DL.rIx, e_rdD, e, Option.some.injEq, exists_eq_left', e_eltD]
end
theorem TwoOk.due {n p q : Int} {ts : List T3} (h : TwoOk n ts p q) : ts.length ≤ 100 ∧ dueL n p q ≠ [] ∧ (dueL n p q).length ≤ 1000 ∧ ∀ c ∈ dueL n p q, SmallL c := by
  have hn := h.web.hi
  refine ⟨by have := h.web.rows.most; omega, due_ne h.one h.other h.ne, Nat.le_trans (due_len hn) (by decide), fun c hc => ?_⟩
  exact ((mem_due (by have := h.web.lo; omega)).mp hc).1.small hn
end WL
namespace WL
open PySem PySem.Spec PyProof.Rows L2 Evl DL
open PySem.W (dataLt dataLe alike alikeAll AllAlike Sortable minD)
def bd (ts : List T3) (s : Int → Bool) : Int := ((ts.filter fun t => s t.1 != s t.2.1).map (·.2.2)).sum
def placesL (n : Int) : List Int := (List.range n.toNat).map fun (i : Nat) => (i : Int)
theorem mem_placesL {n p : Int} : p ∈ placesL n ↔ 0 ≤ p ∧ p < n := by
  unfold placesL
  rw [mem_range_int]
  omega
def cutOf (n : Int) (s : Int → Bool) : List Int := cutSide n ((placesL n).filter s)
def sideB (c : List Int) (p : Int) (x : Int) : Bool := decide (x ∈ c) == decide (p ∈ c)
structure Least (n : Int) (ts : List T3) (p q : Int) (s : Int → Bool) : Prop where
  one : s p = true
  other : s q = false
  room : bd ts s = leastR n ts p q
def allB (cs : List (List Int)) (p : Int) (x : Int) : Bool := cs.all fun c => sideB c p x
theorem TwoOk.swap {n p q : Int} {ts : List T3} (h : TwoOk n ts p q) : TwoOk n ts q p := ⟨h.web, h.other, h.one, h.ne.symm⟩
def bestC (ts : List T3) (a : List Int) (r : List (List Int)) : List Int := r.foldl (fun a y => if roomL ts y < roomL ts a then y else a) a
theorem eqv_ints : ∀ a b : List Int, PyData.eqvAll (a.map PyData.int) (b.map PyData.int) = decide (a = b)
  | [], [] => rfl
  | [], _ :: _ => rfl
  | _ :: _, [] => rfl
  | x :: a, y :: b => by
    rw [List.map_cons, List.map_cons, PyData.eqvAll, eqv_ints a b]
    have : PyData.eqv (.int x) (.int y) = decide (x = y) := by
      simp only [PyData.eqv]
      exact Bool.beq_eq_decide_eq x y
    rw [this]
    by_cases h : x = y <;> simp [h]
theorem eqv_row {a b : List Int} : PyData.eqv (rowI a) (rowI b) = decide (a = b) := by
  unfold rowI
  simp only [PyData.eqv]
  exact eqv_ints a b
theorem any_row {cs : List (List Int)} {c : List Int} : ((cs.map rowI).any fun z => PyData.eqv z (rowI c)) = decide (c ∈ cs) := by
  induction cs with
  | nil => rfl
  | cons a r ih =>
    rw [List.map_cons, List.any_cons, ih, eqv_row]
    by_cases h : c = a
    · subst h; simp
    · have h' : ¬ a = c := fun z => h z.symm
      simp [h, h']
@[simp ↓] theorem in_rows {cs : List (List Int)} {c : List Int} {f : Bool → Bool} {μ : Mu} {Q : DQ} : wIn f (.dat (rowI c)) (.dat (.list (cs.map rowI))) μ Q = Q (.dat (.bool (f (decide (c ∈ cs))))) μ := by
  rw [w_inL, any_row]
  exact propext ⟨fun z => z.2, fun z => ⟨⟨sh_row.ok (by decide), sh_rows.ok (by decide)⟩, z⟩⟩
def rcD (ts : List T3) (c : List Int) : PyData := .tuple [.int (roomL ts c), rowI c]
end WL
namespace WL
open PySem PySem.Spec PyProof.Rows L2 Evl DL
theorem sh_two {d : PyData} {n : Nat} (h : Sh n d) : Sh (n + 1) (.list [d, d]) := Sh.list fun x hx => by
  simp only [List.mem_cons, List.not_mem_nil, or_false, or_self] at hx
  rw [hx]
  exact h
end WL
namespace WL
open PySem PySem.Spec PyProof.Rows L2 Evl DL
structure Rp (w : Nat) (d : PyData) : Prop where
  show_ : d.showable = true
  dict : d.hasDict = false
  leaves : d.leavesShort 13 = true
  wt : d.weight ≤ w
theorem Rp.mono {v w : Nat} {d : PyData} (h : Rp v d) (hv : v ≤ w) : Rp w d := ⟨h.1, h.2, h.3, Nat.le_trans h.4 hv⟩
theorem Rp.okR {w n : Nat} {d : PyData} (h : Rp w d) (hw : w ≤ 2 ^ 20) (s : Sh n d) (hn : n ≤ 64) : okR d :=
  ⟨h.1, .inl h.2, Nat.le_trans s.2 hn, PyData.shown_fits (by decide) (by decide) h.3 (Nat.le_trans h.4 hw)⟩
theorem Rp.int {i : Int} (h : i.natAbs < 10 ^ 12) : Rp 41 (.int i) := by
  refine ⟨?_, by simp only [PyData.hasDict], ?_, ?_⟩
  · simp only [PyData.showable]
    refine decide_eq_true ?_
    by_cases h0 : i.natAbs = 0
    · rw [h0]; decide
    · have : i.natAbs.log2 < 40 := (Nat.log2_lt h0).mpr (Nat.lt_trans h (by decide))
      omega
  · simp only [PyData.leavesShort]
    exact decide_eq_true (PyData.shown_int_le h)
  · simp only [PyData.weight]
    split
    · exact Nat.zero_le _
    · rename_i h0
      have : i.natAbs ≠ 0 := fun z => h0 (by rw [Int.natAbs_eq_zero.mp z]; rfl)
      have : i.natAbs.log2 < 40 := (Nat.log2_lt this).mpr (Nat.lt_trans h (by decide))
      omega
theorem Rp.bool {b : Bool} : Rp 0 (.bool b) := ⟨by simp only [PyData.showable], by simp only [PyData.hasDict], by simp only [PyData.leavesShort], by simp only [PyData.weight]; exact Nat.le_refl _⟩
theorem Rp.none : Rp 0 .none := ⟨by simp only [PyData.showable], by simp only [PyData.hasDict], by simp only [PyData.leavesShort], by simp only [PyData.weight]; exact Nat.le_refl _⟩
theorem Rp.all {w : Nat} : ∀ {ds : List PyData}, (∀ d ∈ ds, Rp w d) → PyData.showableAll ds = true ∧ PyData.hasDictAll ds = false ∧ PyData.leavesShortAll 13 ds = true ∧ PyData.weightAll ds ≤ ds.length * (w + 1)
  | [], _ => by simp only [PyData.showableAll, PyData.hasDictAll, PyData.leavesShortAll, PyData.weightAll, List.length_nil]; simp
  | d :: r, h => by
    obtain ⟨a, b, c, e⟩ := Rp.all fun x hx => h x (List.mem_cons_of_mem _ hx)
    obtain ⟨a1, b1, c1, e1⟩ := h d (List.mem_cons_self ..)
    simp only [PyData.showableAll, PyData.hasDictAll, PyData.leavesShortAll, PyData.weightAll, List.length_cons, a, b, c, a1, b1, c1, Bool.and_self, Bool.or_self, true_and]
    rw [Nat.add_mul]
    omega
theorem Rp.tup {w m : Nat} {ds : List PyData} (h : ∀ d ∈ ds, Rp w d) (hm : ds.length ≤ m) : Rp (m * (w + 1)) (.tuple ds) := by
  obtain ⟨a, b, c, e⟩ := Rp.all h
  exact ⟨by simp only [PyData.showable]; exact a, by simp only [PyData.hasDict]; exact b, by simp only [PyData.leavesShort]; exact c, by simp only [PyData.weight]; exact Nat.le_trans e (Nat.mul_le_mul_right _ hm)⟩
theorem Rp.list {w m : Nat} {ds : List PyData} (h : ∀ d ∈ ds, Rp w d) (hm : ds.length ≤ m) : Rp (m * (w + 1)) (.list ds) := by
  obtain ⟨a, b, c, e⟩ := Rp.all h
  exact ⟨by simp only [PyData.showable]; exact a, by simp only [PyData.hasDict]; exact b, by simp only [PyData.leavesShort]; exact c, by simp only [PyData.weight]; exact Nat.le_trans e (Nat.mul_le_mul_right _ hm)⟩
theorem eq_str {x : Str} {μ : Mu} {Q : DQ} : DL.rEq (.dat (.str x)) (.dat (.str x)) μ Q = Q (.dat (.bool true)) μ := by
  show Q (.dat (.bool (decide (x = x)))) μ = _
  simp
theorem ne_str {x : Str} {μ : Mu} {Q : DQ} : DL.rNe (.dat (.str x)) (.dat (.str x)) μ Q = Q (.dat (.bool false)) μ := by
  show Q (.dat (.bool (!decide (x = x)))) μ = _
  simp
end WL
namespace WL
open PySem PySem.Spec PyProof.Rows L2 Evl DL
theorem Reach.trans {ts : List T3} {a b c : Int} (h : Reach ts a b) (g : Reach ts b c) : Reach ts a c := by
  induction g with
  | here => exact h
  | fwd _ ht e ih => exact .fwd ih ht e
  | bwd _ ht e ih => exact .bwd ih ht e
theorem Reach.symm {ts : List T3} {a b : Int} (h : Reach ts a b) : Reach ts b a := by
  induction h with
  | here => exact .here
  | fwd _ ht e ih => exact Reach.trans (e ▸ Reach.bwd .here ht rfl) ih
  | bwd _ ht e ih => exact Reach.trans (e ▸ Reach.fwd .here ht rfl) ih
theorem Reach.mono {ts us : List T3} (hs : ∀ t ∈ ts, t ∈ us) {a b : Int} (h : Reach ts a b) : Reach us a b := by
  induction h with
  | here => exact .here
  | fwd _ ht e ih => exact .fwd ih (hs _ ht) e
  | bwd _ ht e ih => exact .bwd ih (hs _ ht) e
def within (ts : List T3) (s : Int → Bool) : List T3 := ts.filter fun t => s t.1 && s t.2.1
def Conn (n : Int) (ts : List T3) (s : Int → Bool) : Prop := ∀ p q, 0 ≤ p ∧ p < n → 0 ≤ q ∧ q < n → s p = true → s q = true → Reach (within ts s) p q
structure Split (n : Int) (ts : List T3) (s a b : Int → Bool) : Prop where
  or_ : ∀ x, s x = (a x || b x)
  dis : ∀ x, (a x && b x) = false
  one : ∃ x, (0 ≤ x ∧ x < n) ∧ a x = true
  two : ∃ x, (0 ≤ x ∧ x < n) ∧ b x = true
  no : ∀ t ∈ ts, (a t.1 && b t.2.1) = false ∧ (b t.1 && a t.2.1) = false
theorem Split.swap {n : Int} {ts : List T3} {s a b : Int → Bool} (h : Split n ts s a b) : Split n ts s b a :=
  ⟨fun x => by rw [h.or_ x, Bool.or_comm], fun x => by rw [Bool.and_comm]; exact h.dis x, h.two, h.one, fun t ht => ⟨(h.no t ht).2, (h.no t ht).1⟩⟩
def cnt (n : Int) (s : Int → Bool) : Nat := ((placesL n).filter s).length
def FirmS (n : Int) (ts : List T3) (s : Int → Bool) : Prop := Conn n ts s ∧ Conn n ts fun x => !s x
structure Some2 (n : Int) (s : Int → Bool) : Prop where
  in_ : ∃ x, (0 ≤ x ∧ x < n) ∧ s x = true
  out : ∃ x, (0 ≤ x ∧ x < n) ∧ s x = false
section
variable {n : Int} {ts ws : List T3} (hw : WebOk n ts) (h0 : ∀ t ∈ ws, 0 ≤ t.2.2) (H : ∀ s, Some2 n s → FirmS n ts s → bd ws s ≤ bd ts s)
include hw h0 H
end
def Joined (ts : List T3) (l : List Int) : Prop := ∀ st r, l = st :: r → ∀ p ∈ l, Reach (inner l ts) st p
def Firm (n : Int) (ts : List T3) (c : List Int) : Prop := Joined ts c ∧ Joined ts (beyondL n c)
end WL
namespace WL
open PySem PySem.Spec PyProof.Rows L2 Evl DL
theorem lc_seq {α : Type} (enc : α → PyData) (p : α → Bool) (f : α → PyData) {i : Nat} {g : DG} {t : DT} {e : DE} {vs : List Nat} {ρ : Rho} {μ : Mu} {Q : DQ} {xs : List α} {s : Sl} (h : ρ[i]? = some (some s)) (hs' : Sq μ s (xs.map enc)) (hl : xs.length ≤ 1000)
    (hs : ∀ x ∈ xs, ∀ (acc : List PyData) (R : Mu → Prop), (g (.dat (enc x)) (wipeD ρ vs) (μ ++ [Cell.lst acc]) fun ρ1 μ1 => t ρ1 μ1 fun b μ2 => if b = true then e ρ1 μ2 fun v μ3 => addTo μ.length v μ3 R else R μ2) = if p x = true then addTo μ.length (.dat (f x)) (μ ++ [Cell.lst acc]) R else R (μ ++ [Cell.lst acc])) :
    dLc (iSeq (dVar i)) g t e vs ρ μ Q = Q (.dat (.list ((xs.filter p).map f))) μ := by
  obtain ⟨C, c0, c1, ci⟩ := iSeq_ok h hs'
  exact lc_gen (β := Unit) enc p f ci (fun _ => c1 _) (sz hl) hs
theorem lc_seqM {α : Type} (enc : α → PyData) (f : α → PyData) {i : Nat} {g : DG} {e : DE} {vs : List Nat} {ρ : Rho} {μ : Mu} {Q : DQ} {xs : List α} {s : Sl} (h : ρ[i]? = some (some s)) (hs' : Sq μ s (xs.map enc)) (hl : xs.length ≤ 1000)
    (hs : ∀ x ∈ xs, ∀ (acc : List PyData) (R : Mu → Prop), (g (.dat (enc x)) (wipeD ρ vs) (μ ++ [Cell.lst acc]) fun ρ1 μ1 => e ρ1 μ1 fun v μ3 => addTo μ.length v μ3 R) = addTo μ.length (.dat (f x)) (μ ++ [Cell.lst acc]) R) :
    dLc (iSeq (dVar i)) g dYes e vs ρ μ Q = Q (.dat (.list (xs.map f))) μ := by
  have := lc_seq (g := g) (t := dYes) (e := e) (vs := vs) (Q := Q) enc (fun _ => true) f h hs' hl (fun x hx acc R => by
    rw [if_pos rfl]
    exact hs x hx acc R)
  rw [List.filter_eq_self.mpr (fun _ _ => rfl)] at this
  exact this
theorem lc_call {α : Type} (enc : α → PyData) (p : α → Bool) (f : α → PyData) {d : DE} {g : DG} {t : DT} {e : DE} {vs : List Nat} {ρ : Rho} {μ : Mu} {Q : DQ} {xs : List α} (h : ∀ R : DQ, d ρ μ R = R (.dat (.list (xs.map enc))) μ) (hl : xs.length ≤ 1000)
    (hs : ∀ x ∈ xs, ∀ (acc : List PyData) (R : Mu → Prop), (g (.dat (enc x)) (wipeD ρ vs) (μ ++ [Cell.lst acc]) fun ρ1 μ1 => t ρ1 μ1 fun b μ2 => if b = true then e ρ1 μ2 fun v μ3 => addTo μ.length v μ3 R else R μ2) = if p x = true then addTo μ.length (.dat (f x)) (μ ++ [Cell.lst acc]) R else R (μ ++ [Cell.lst acc])) :
    dLc (iSeq d) g t e vs ρ μ Q = Q (.dat (.list ((xs.filter p).map f))) μ :=
  lc_gen (β := Unit) (C := fun ν => rd ν (.dat (.list (xs.map enc))) = some (.list (xs.map enc))) enc p f (fun R => by simp only [iSeq, h, e_rdD, e_eltfun]) (fun _ => rfl) (sz hl) hs
end WL
namespace WL
open PySem PySem.Spec PyProof.Rows L2 Evl DL
open PySem.W (dataLt dataLe alike alikeAll AllAlike Sortable minD)
def tl (t : T3) : List Int := [t.1, t.2.1, t.2.2]
def backT : List Int → T3
  | [a, b, c] => (a, b, c)
  | _ => (0, 0, 0)
def sortT (ts : List T3) : List T3 := (sortL (ts.map tl)).map backT
theorem sortT_tl (ts : List T3) : (sortT ts).map tl = sortL (ts.map tl) := by
  unfold sortT
  rw [List.map_map]
  refine (List.map_congr_left fun x hx => ?_).trans (List.map_id _)
  obtain ⟨t, _, rfl⟩ := List.mem_map.mp ((sortL_perm _).mem_iff.mp hx)
  rfl
theorem sortT_perm (ts : List T3) : (sortT ts).Perm ts := by
  have h := (sortL_perm (ts.map tl)).map backT
  rw [List.map_map] at h
  have e : (ts.map (backT ∘ tl)) = ts := (List.map_congr_left fun t _ => rfl).trans (List.map_id _)
  rw [e] at h
  exact h
theorem tl_lex {a b : T3} (h : leL (tl a) (tl b) = true) (ne : two a ≠ two b) : lexP (two a) (two b) := by
  have h' := leL_iff.mp h
  have n : ¬ (tl b < tl a) := List.not_lt.mpr h'
  unfold tl at n
  simp only [List.cons_lt_cons_iff, not_or, not_and] at n
  have ne' : ¬ (a.1 = b.1 ∧ a.2.1 = b.2.1) := fun z => ne (Prod.ext z.1 z.2)
  unfold lexP two
  simp only
  by_cases h1 : b.1 < a.1
  · exact absurd h1 n.1
  · by_cases h2 : b.1 = a.1
    · have n2 := n.2 h2
      by_cases h3 : b.2.1 < a.2.1
      · exact absurd h3 n2.1
      · omega
    · omega
theorem sortT_up {ts : List T3} (h : (ts.map two).Nodup) : (sortT ts).Pairwise fun a b => lexP (two a) (two b) := by
  have p1 : ((sortT ts).map tl).Pairwise fun x y => leL x y = true := by
    rw [sortT_tl]
    exact sortL_sorted _
  have p2 : ((sortT ts).map two).Nodup := ((sortT_perm ts).map two).nodup_iff.mpr h
  exact ((List.pairwise_map.mp p1).and (List.pairwise_map.mp p2)).imp fun ⟨h1, h2⟩ => tl_lex h1 h2
end WL
namespace WL
open PySem PySem.Spec PyProof.Rows L2 Evl DL
structure Gr (k : Nat) (μ ν : Mu) : Prop where
  pot : Pot ν k
  len : μ.length ≤ ν.length
  old : ∀ j, j < μ.length → j ≠ k → ν[j]? = μ[j]?
section
variable {k : Nat} {μ ν ν' : Mu}
theorem Gr.refl (h : Pot μ k) : Gr k μ μ := ⟨h, Nat.le_refl _, fun _ _ _ => rfl⟩
theorem Gr.ch (h : Gr k μ ν) (c : Ch k ν ν') : Gr k μ ν' := ⟨c.1, by rw [c.2.1]; exact h.len, fun j hj hk => (c.2.2 j hk).trans (h.old j hj hk)⟩
theorem Gr.push (h : Gr k μ ν) {c : Cell} : Gr k μ (ν ++ [c]) := by
  refine ⟨?_, by rw [List.length_append]; exact Nat.le_trans h.len (Nat.le_add_right _ _), fun j hj hk => ?_⟩
  · have := h.pot.lt
    obtain ⟨p0, p1, e, q⟩ := h.pot
    exact ⟨p0, p1, by rw [List.getElem?_append_left this]; exact e, q⟩
  · have := h.len
    rw [List.getElem?_append_left (by omega)]
    exact h.old j hj hk
theorem Gr.end (h : Gr k μ ν) (hk : k < μ.length) : Ch k μ (ν.take μ.length) := by
  have hl := h.len
  obtain ⟨p0, p1, e, q⟩ := h.pot
  refine ⟨⟨p0, p1, by rw [List.getElem?_take_of_lt hk]; exact e, q⟩, by rw [List.length_take]; omega, fun j hj => ?_⟩
  by_cases hl' : j < μ.length
  · rw [List.getElem?_take_of_lt hl']
    exact h.old j hl' hj
  · rw [List.getElem?_eq_none (by rw [List.length_take]; omega), List.getElem?_eq_none (by omega)]
end
theorem repr_of {d : PyData} (h : okR d) {μ : Mu} {Q : DQ} : fRepr [.dat d] μ Q = Q (.dat (.str d.shown)) μ := by
  show (DL.okR d ∧ Q (.dat (.str d.shown)) μ) = _
  exact propext ⟨fun z => z.2, fun z => ⟨h, z⟩⟩
theorem ok_bools {bs : List Bool} (h : bs.length ≤ 100) : okR (.list (bs.map PyData.bool)) := by
  refine (Rp.list (w := 0) (m := 100) (fun d hd => ?_) (by rw [List.length_map]; exact h)).okR (by decide) (n := 1) (Sh.list fun x hx => ?_) (by decide)
  · obtain ⟨b, _, rfl⟩ := List.mem_map.mp hd
    exact Rp.bool
  · obtain ⟨b, _, rfl⟩ := List.mem_map.mp hx
    exact .bool
end WL
namespace WL
open PySem PySem.Spec PyProof.Rows L2 Evl DL
def nrm (t : T3) : T3 := (min t.1 t.2.1, max t.1 t.2.1, t.2.2)
def made (ts : List T3) : List T3 := sortT (ts.map nrm)
def swp (t : T3) : T3 := (t.2.1, t.1, t.2.2)
theorem nrm_of {t : T3} (h : t.1 < t.2.1) : nrm t = t := by
  unfold nrm
  rw [Int.min_eq_left (by omega), Int.max_eq_right (by omega)]
theorem lex_le {a b : T3} (h : lexP (two a) (two b)) : leL (tl a) (tl b) = true := by
  unfold leL ltL
  have : ¬ (tl b < tl a) := by
    unfold tl
    simp only [List.cons_lt_cons_iff]
    unfold lexP two at h
    simp only at h
    omega
  simp [this]
theorem sortT_self {ts : List T3} (h : ts.Pairwise fun a b => lexP (two a) (two b)) : sortT ts = ts := by
  have e : sortL (ts.map tl) = ts.map tl := by
    refine perm_sorted_eq (le := fun a b => leL a b = true) leL_anti (sortL_perm _) (sortL_sorted _) ?_
    exact List.pairwise_map.mpr (h.imp fun q => lex_le q)
  unfold sortT
  rw [e, List.map_map]
  exact (List.map_congr_left fun t _ => rfl).trans (List.map_id _)
theorem RowsOk.made {m : Nat} {n : Int} {ts : List T3} (h : RowsOk m n ts) : made ts = ts := by
  unfold WL.made
  have e : ts.map nrm = ts := (List.map_congr_left fun t ht => nrm_of (h.in_ t ht).2.1).trans (List.map_id _)
  rw [e]
  exact sortT_self h.up
theorem made_mem {ts : List T3} {t : T3} : t ∈ made ts ↔ ∃ u ∈ ts, t = nrm u := by
  unfold made
  rw [(sortT_perm _).mem_iff, List.mem_map]
  constructor
  · rintro ⟨u, h1, h2⟩; exact ⟨u, h1, h2.symm⟩
  · rintro ⟨u, h1, h2⟩; exact ⟨u, h1, h2.symm⟩
theorem made_len {ts : List T3} : (made ts).length = ts.length := by
  unfold made
  rw [(sortT_perm _).length_eq, List.length_map]
structure LooseOk (m : Nat) (n : Int) (ts : List T3) : Prop where
  one : 1 ≤ ts.length
  most : ts.length ≤ m
  in_ : ∀ t ∈ ts, (0 ≤ t.1 ∧ t.1 < n) ∧ (0 ≤ t.2.1 ∧ t.2.1 < n) ∧ t.1 ≠ t.2.1 ∧ 1 ≤ t.2.2 ∧ t.2.2 ≤ 20
  nd : (ts.map fun t => two (nrm t)).Nodup
theorem LooseOk.made {m : Nat} {n : Int} {ts : List T3} (h : LooseOk m n ts) : RowsOk m n (made ts) := by
  refine ⟨by rw [made_len]; exact h.one, by rw [made_len]; exact h.most, fun t ht => ?_, ?_⟩
  · obtain ⟨u, hu, rfl⟩ := made_mem.mp ht
    have := h.in_ u hu
    unfold nrm
    simp only
    omega
  · refine sortT_up ?_
    rw [List.map_map]
    exact h.nd
theorem RowsOk.loose {m : Nat} {n : Int} {ts : List T3} (h : RowsOk m n ts) : LooseOk m n ts := by
  refine ⟨h.one, h.most, fun t ht => by have := h.in_ t ht; omega, ?_⟩
  have e : ts.map (fun t => two (nrm t)) = ts.map two := List.map_congr_left fun t ht => by rw [nrm_of (h.in_ t ht).2.1]
  rw [e]
  refine List.pairwise_map.mpr (h.up.imp fun {a b} q z => ?_)
  rw [z] at q
  unfold lexP at q
  omega
def ren (f : Int → Int) (t : T3) : T3 := (f t.1, f t.2.1, t.2.2)
theorem ren_loose {m : Nat} {n : Int} {ts : List T3} (h : RowsOk m n ts) {f g : Int → Int} (hf : ∀ p, 0 ≤ p → p < n → 0 ≤ f p ∧ f p < n) (hg : ∀ p, 0 ≤ p → p < n → g (f p) = p) : LooseOk m n (ts.map (ren f)) := by
  refine ⟨by rw [List.length_map]; exact h.one, by rw [List.length_map]; exact h.most, fun t ht => ?_, ?_⟩
  · obtain ⟨u, hu, rfl⟩ := List.mem_map.mp ht
    have i := h.in_ u hu
    have h1 := hf u.1 (by omega) (by omega)
    have h2 := hf u.2.1 (by omega) (by omega)
    have ne : f u.1 ≠ f u.2.1 := fun z => by
      have := congrArg g z
      rw [hg _ (by omega) (by omega), hg _ (by omega) (by omega)] at this
      omega
    exact ⟨h1, h2, ne, by show 1 ≤ u.2.2 ∧ u.2.2 ≤ 20; omega⟩
  · rw [List.map_map]
    refine List.pairwise_map.mpr ?_
    have nd : (ts.map two).Nodup := by
      refine List.pairwise_map.mpr (h.up.imp fun {a b} q z => ?_)
      rw [z] at q
      unfold lexP at q
      omega
    have nd' := List.pairwise_map.mp nd
    refine (List.Pairwise.and_mem.mp nd').imp fun {a b} ⟨ha, hb, q⟩ z => q ?_
    have i := h.in_ a ha
    have j := h.in_ b hb
    have a1 := hg a.1 (by omega) (by omega)
    have a2 := hg a.2.1 (by omega) (by omega)
    have b1 := hg b.1 (by omega) (by omega)
    have b2 := hg b.2.1 (by omega) (by omega)
    have z1 : min (f a.1) (f a.2.1) = min (f b.1) (f b.2.1) := congrArg Prod.fst z
    have z2 : max (f a.1) (f a.2.1) = max (f b.1) (f b.2.1) := congrArg Prod.snd z
    have key : (f a.1 = f b.1 ∧ f a.2.1 = f b.2.1) ∨ (f a.1 = f b.2.1 ∧ f a.2.1 = f b.1) := by omega
    rcases key with ⟨k1, k2⟩ | ⟨k1, k2⟩
    · rw [k1] at a1
      rw [k2] at a2
      refine Prod.ext ?_ ?_
      · show a.1 = b.1
        omega
      · show a.2.1 = b.2.1
        omega
    · rw [k1] at a1
      rw [k2] at a2
      omega
theorem reach_ren {ts : List T3} {f : Int → Int} {p q : Int} (h : Reach ts p q) : Reach (made (ts.map (ren f))) (f p) (f q) := by
  have step : ∀ t ∈ ts, ∀ x, Reach (made (ts.map (ren f))) x (f t.1) → Reach (made (ts.map (ren f))) x (f t.2.1) := fun t ht x r => by
    have hm : nrm (ren f t) ∈ made (ts.map (ren f)) := made_mem.mpr ⟨_, List.mem_map.mpr ⟨t, ht, rfl⟩, rfl⟩
    by_cases c : f t.1 ≤ f t.2.1
    · have e1 : (nrm (ren f t)).1 = f t.1 := Int.min_eq_left c
      have e2 : (nrm (ren f t)).2.1 = f t.2.1 := Int.max_eq_right c
      exact e2 ▸ Reach.fwd r hm e1
    · have e1 : (nrm (ren f t)).1 = f t.2.1 := Int.min_eq_right (by show f t.2.1 ≤ f t.1; omega)
      have e2 : (nrm (ren f t)).2.1 = f t.1 := Int.max_eq_left (by show f t.2.1 ≤ f t.1; omega)
      exact e1 ▸ Reach.bwd r hm e2
  have step2 : ∀ t ∈ ts, ∀ x, Reach (made (ts.map (ren f))) x (f t.2.1) → Reach (made (ts.map (ren f))) x (f t.1) := fun t ht x r => r.trans (step t ht _ .here).symm
  induction h with
  | here => exact .here
  | fwd _ ht e ih => exact step _ ht _ (e ▸ ih)
  | bwd _ ht e ih => exact step2 _ ht _ (e ▸ ih)
theorem WebOk.ren {n : Int} {ts : List T3} (h : WebOk n ts) {f g : Int → Int} (hf : ∀ p, 0 ≤ p → p < n → 0 ≤ f p ∧ f p < n) (hg : ∀ p, 0 ≤ p → p < n → g (f p) = p) (hg2 : ∀ p, 0 ≤ p → p < n → (0 ≤ g p ∧ g p < n) ∧ f (g p) = p) : WebOk n (made (ts.map (WL.ren f))) := by
  refine ⟨h.lo, h.hi, (ren_loose h.rows hf hg).made, fun p p0 p1 => ?_⟩
  have hn := h.lo
  obtain ⟨⟨z0, z1⟩, z2⟩ := hg2 0 (by omega) (by omega)
  obtain ⟨⟨y0, y1⟩, y2⟩ := hg2 p p0 p1
  have r := (h.joined (g 0) z0 z1).symm.trans (h.joined (g p) y0 y1)
  have := reach_ren (f := f) r
  rw [z2, y2] at this
  exact this
end WL
namespace WL
open PySem PySem.Spec PyProof.Rows L2 Evl DL
structure A2 (k : Nat) (μ ν : Mu) (ds es : List PyData) : Prop where
  pot : Pot ν k
  len : ν.length = μ.length + 2
  A : ν[μ.length]? = some (.lst ds)
  B : ν[μ.length + 1]? = some (.lst es)
  old : ∀ j, j < μ.length → j ≠ k → ν[j]? = μ[j]?
section
variable {k : Nat} {μ ν ν' : Mu} {ds es fs : List PyData} {Q : DQ} {d : PyData}
theorem A2.start (hp : Pot μ k) : A2 k μ (μ ++ [.lst ds] ++ [.lst es]) ds es := by
  have hk := hp.lt
  refine ⟨?_, by simp, ?_, ?_, fun j hj _ => ?_⟩
  · obtain ⟨p0, p1, e, q⟩ := hp
    exact ⟨p0, p1, by rw [List.append_assoc, List.getElem?_append_left hk]; exact e, q⟩
  · rw [List.append_assoc, List.getElem?_append_right (Nat.le_refl _), Nat.sub_self]
    rfl
  · rw [List.append_assoc, List.getElem?_append_right (by omega), show μ.length + 1 - μ.length = 1 by omega]
    rfl
  · rw [List.append_assoc]
    exact List.getElem?_append_left hj
theorem A2.ch (h : A2 k μ ν ds es) (hk : k < μ.length) (c : Ch k ν ν') : A2 k μ ν' ds es :=
  ⟨c.1, c.2.1.trans h.len, (c.2.2 _ (by omega)).trans h.A, (c.2.2 _ (by omega)).trans h.B, fun j hj hk => (c.2.2 j hk).trans (h.old j hj hk)⟩
theorem A2.end (h : A2 k μ ν ds es) (hk : k < μ.length) : Ch k μ (ν.take μ.length) := by
  have hl := h.len
  obtain ⟨p0, p1, e, q⟩ := h.pot
  refine ⟨⟨p0, p1, by rw [List.getElem?_take_of_lt hk]; exact e, q⟩, by rw [List.length_take]; omega, fun j hj => ?_⟩
  by_cases hl' : j < μ.length
  · rw [List.getElem?_take_of_lt hl']
    exact h.old j hl' hj
  · rw [List.getElem?_eq_none (by rw [List.length_take]; omega), List.getElem?_eq_none (by omega)]
theorem A2.rdA (h : A2 k μ ν ds es) : rd ν (.cell μ.length) = some (.list ds) := by
  rw [e_rdC, h.A]
  rfl
end
theorem cons_erase {α : Type} : ∀ {l : List α} {i : Nat} {x : α}, l[i]? = some x → (x :: l.eraseIdx i).Perm l
  | [], i, x, h => by simp at h
  | a :: r, 0, x, h => by
    simp at h
    subst h
    exact List.Perm.refl _
  | a :: r, i + 1, x, h => by
    have ih := cons_erase (l := r) (i := i) (x := x) (by simpa using h)
    exact (List.Perm.swap a x _).trans (List.Perm.cons a ih)
end WL
namespace DL
open PySem PySem.Spec PyProof.Rows L2 Evl
def rRepN (K : PySem.W.Frag) : R2 := fun x y H Q => ∃ l k xs, x = .ref l ∧ y = .int k ∧ SqT K H l xs ∧ xs ≠ [] ∧ (-1000 ≤ k ∧ k ≤ 1000) ∧ xs.length ≤ 1000 ∧ (k = 1 → Q (.ref l) H) ∧ (k ≠ 1 → ∀ p, H p = none → Q (.ref p) (upd H p (.tup (List.replicate k.toNat xs).flatten)))
section
variable {X : Cx}
end
def rMulA : DR2 := fun x y μ Q => match rd μ x, rd μ y with
  | some (.tuple xs), some (.int k) => (isV x = false ∧ xs ≠ [] ∧ (-1000 ≤ k ∧ k ≤ 1000) ∧ xs.length ≤ 1000) ∧ Q (.dat (.tuple (List.replicate k.toNat xs).flatten)) μ
  | _, _ => False
section
variable {X : Cx} {K : PySem.W.Frag}
end
end DL
namespace WL
open PySem PySem.Spec PyProof.Rows L2 Evl DL
theorem draw_gen2 {x y : Str} {c1 c2 m1 m2 d : Int} (hC : DrawC c1 c2 m1 m2 d) : Pure ["pot", x, y] 2 ph_law_draw (dSeq (dIfS (dTest (dOp wGt (dOp DL.rIx (dVar 0) (dC (.int 0))) (dC (.int 0)))) (dSeq (dAsgG (dCB fDm (aCons (dOp DL.rIx (dVar 0) (dC (.int 0))) (aCons (dVar 1) aNil))) (gT 2 (gsCons (gS (dVar 0) (dC (.int 0))) (gsCons (gN 2) gsNil))))
    (dRet (dVar 2))) dNext)
    (dSeq (dAsgG (dOp DL.rMd (dOp DL.rAdd (dOp DL.rMul (dOp DL.rIx (dVar 0) (dC (.int 1))) (dC (.int c1))) (dC (.int c2))) (dC (.int m1))) (gS (dVar 0) (dC (.int 1))))
    (dRet (dOp DL.rMd (dOp DL.rDv (dOp DL.rMd (dOp DL.rMul (dOp DL.rIx (dVar 0) (dC (.int 1))) (dOp DL.rIx (dVar 0) (dC (.int 1)))) (dC (.int m2))) (dC (.int d))) (dVar 1))))) := by
  intro ss μ Q' hl h
  obtain ⟨k, n, rfl, ⟨p0, p1, hm, h0, h1, h2⟩, hn, h⟩ := h
  have hk : k < μ.length := (List.getElem?_eq_some_iff.mp hm).1
  have hn0 : n ≠ 0 := by omega
  have i0 : ∀ Q, DL.rIx (.cell k) (.dat (.int 0)) μ Q = Q (.dat (.int p0)) μ := fun Q => rix_c hm rfl
  have i1 : ∀ Q, DL.rIx (.cell k) (.dat (.int 1)) μ Q = Q (.dat (.int p1)) μ := fun Q => rix_c hm rfl
  by_cases c : 0 < p0
  · have cd : CDm p0 n := ⟨hn.1, (Nat.log2_lt (by omega)).mpr ((sm_of (k := 100) (by omega) hn.2).mono (k := 9000) (by decide))⟩
    have w0 : ∀ R, wrL (.cell k) (.dat (.int 0)) (.dat (.int (p0 / n))) μ R = R (μ.set k (.lst [.int (p0 / n), .int p1])) := fun R => wrl_c (m := 0) hm rfl
    have dm : ∀ (ν : Mu) (Q : DQ), fDm [.dat (.int p0), .dat (.int n)] ν Q = (CDm p0 n ∧ Q (.dat (.tuple [.int (p0 / n), .int (p0 % n)])) ν) := fun _ _ => rfl
    simp [startD, i0, c, cd, w0, dm]
    rw [List.take_of_length_le (by simp)]
    exact h _ _ (Int.emod_nonneg _ hn0) (Int.emod_lt_of_pos _ hn.1) (ch_set hk (Int.ediv_nonneg h0 (by omega)) h1 h2)
  · have f1 := fmod_lt (a := p1 * c1 + c2) hC.m1.1
    have z1 := hC.m1
    generalize hp : (p1 * c1 + c2).fmod m1 = y at f1
    have w1 : ∀ R, wrL (.cell k) (.dat (.int 1)) (.dat (.int y)) μ R = R (μ.set k (.lst [.int p0, .int y])) := fun R => wrl_c (m := 1) hm rfl
    have hm2 : (μ.set k (.lst [.int p0, .int y]))[k]? = some (.lst [.int p0, .int y]) := List.getElem?_set_self hk
    have i2 : ∀ Q, DL.rIx (.cell k) (.dat (.int 1)) (μ.set k (.lst [.int p0, .int y])) Q = Q (.dat (.int y)) (μ.set k (.lst [.int p0, .int y])) := fun Q => rix_c hm2 rfl
    have c1' : CMulW p1 c1 := (sm_of h1 h2).cmul hC.c1 (by decide) (by decide)
    have sy : Sm 40 y := sm_of f1.1 (by omega)
    have c2' : CMulW y y := sy.cmul sy (by decide) (by decide)
    have c3' : ∀ i, CDv i d := fun i => hC.d.2.cdv (by decide) hC.d.1
    have m1' : m1 ≠ 0 := by omega
    simp [startD, i0, i1, c, c1', hp, w1, i2, c2', c3', hn0, m1', hC.m2]
    rw [List.take_of_length_le (by simp)]
    have f3 := fmod_lt (a := ((y * y).fmod m2).fdiv d) hn.1
    exact h _ _ f3.1 f3.2 (ch_set hk h0 f1.1 (by omega))
theorem cut_map {α : Type} (f : α → PyData) (ns : List α) (lo hi : Option Int) : ∃ ms : List α, DL.cutD (ns.map f) lo hi = ms.map f ∧ ms.length ≤ ns.length ∧ ∀ x ∈ ms, x ∈ ns := by
  refine ⟨(ns.drop (HT.sIx ns.length 0 lo)).take (HT.sIx ns.length ns.length hi - HT.sIx ns.length 0 lo), ?_, ?_, fun x hx => ?_⟩
  · unfold DL.cutD
    rw [List.length_map, List.map_take, List.map_drop]
  · rw [List.length_take, List.length_drop]
    omega
  · exact List.mem_of_mem_drop (List.mem_of_mem_take hx)
theorem pot_fin {μ : Mu} {Q' : DQ} {cell y m : Int} (hm : 0 < m ∧ m < 2 ^ 39) (h : ∀ (p0 p1 : Int), 0 ≤ p0 → 0 ≤ p1 → p1 < 2 ^ 40 → Q' (Sl.cell (List.length μ)) (μ ++ [Cell.lst [PyData.int p0, PyData.int p1]])) :
    Q' (Sl.cell μ.length) (μ ++ [Cell.lst [.int (if 1000000000000000000 < cell then cell - 1000000000000000000 else 0), .int (y.fmod m + 1)]]) := by
  have f := fmod_lt (a := y) hm.1
  refine h _ _ ?_ (by omega) (by omega)
  split <;> omega
theorem o_any (bs : List Bool) (μ : Mu) (Q : DQ) : fAny [.dat (.list (bs.map PyData.bool))] μ Q = Q (.dat (.bool (bs.any id))) μ := by
  have : ∀ bs : List Bool, boolsOf (bs.map PyData.bool) = some bs := fun bs => by
    induction bs with
    | nil => rfl
    | cons b r ih => simp [boolsOf, ih]
  simp [fAny, fBools, arg1, this]
theorem o_min2 {i j : Int} {μ : Mu} {Q : DQ} : fMin2 [.dat (.int i), .dat (.int j)] μ Q = Q (.dat (.int (if j < i then j else i))) μ := propext ⟨fun h => h.2, fun h => ⟨trivial, h⟩⟩
theorem ne_nilD {μ : Mu} {ds : List PyData} {n : Nat} (hs : Sh n (.list ds)) (hn : n ≤ 64) {Q : DQ} : DL.rNe (.dat (.list ds)) (.dat (.list [])) μ Q = Q (.dat (.bool (!ds.isEmpty))) μ := by
  unfold DL.rNe eqD
  simp only [e_rdD]
  have e1 : PyData.eqv (.list ds) (.list []) = ds.isEmpty := by
    cases ds <;> simp [PyData.eqv, PyData.eqvAll]
  rw [e1]
  exact propext ⟨fun z => z.2, fun z => ⟨⟨hs.ok hn, rfl⟩, z⟩⟩
end WL
namespace WL
open PySem PySem.Spec PyProof.Rows L2 Evl DL
section
variable {k m : Nat} {μ ν ν0 ν' : Mu} {cs : List Cell} {c d : Cell} {Q : DQ}
theorem ch_split (h : Ch k (ν0 ++ cs) ν') (hk : k < ν0.length) : ∃ ν1, ν' = ν1 ++ cs ∧ Ch k ν0 ν1 := by
  have hl := h.2.1
  rw [List.length_append] at hl
  refine ⟨ν'.take ν0.length, ?_, ?_, by rw [List.length_take]; omega, fun j hj => ?_⟩
  · have e : ν'.drop ν0.length = cs := by
      refine List.ext_getElem? fun i => ?_
      rw [List.getElem?_drop, h.2.2 _ (by omega), List.getElem?_append_right (by omega)]
      congr 1
      omega
    rw [← e, List.take_append_drop]
  · obtain ⟨p0, p1, e, q⟩ := h.1
    exact ⟨p0, p1, by rw [List.getElem?_take_of_lt hk]; exact e, q⟩
  · by_cases hj' : j < ν0.length
    · rw [List.getElem?_take_of_lt hj', h.2.2 j hj, List.getElem?_append_left hj']
    · rw [List.getElem?_eq_none (by rw [List.length_take]; omega), List.getElem?_eq_none (by omega)]
theorem pot_app (h : Pot ν0 k) : Pot (ν0 ++ cs) k := by
  have := h.lt
  obtain ⟨p0, p1, e, q⟩ := h
  exact ⟨p0, p1, by rw [List.getElem?_append_left this]; exact e, q⟩
theorem cell0 (h : ν0.length = m) : (ν0 ++ c :: cs)[m]? = some c := by
  rw [List.getElem?_append_right (by omega), h, Nat.sub_self]
  rfl
theorem set0 (h : ν0.length = m) {c' : Cell} : (ν0 ++ c :: cs).set m c' = ν0 ++ c' :: cs := by
  rw [List.set_append_right _ _ (by omega), h, Nat.sub_self]
  rfl
theorem app0 (h : ν0.length = m) {X : List PyData} {x : PyData} (hX : X.length ≤ 1000) : mApp (.cell m) [.dat x] (ν0 ++ Cell.lst X :: cs) Q = Q (.dat .none) (ν0 ++ Cell.lst (X ++ [x]) :: cs) := by
  simp only [mApp, cell0 h, set0 h]
  exact propext ⟨fun z => z.2, fun z => ⟨Nat.lt_of_le_of_lt hX (by decide), z⟩⟩
theorem rd0 (h : ν0.length = m) {X : List PyData} : rd (ν0 ++ Cell.lst X :: cs) (.cell m) = some (.list X) := by
  rw [e_rdC, cell0 h]
  rfl
end
section
variable {k m : Nat} {ν0 : Mu} {cs : List Cell} {c d e : Cell} {Q : DQ}
end
theorem atI_last {α : Type} {xs : List α} {x : α} : atI (xs ++ [x]) (-1) = some x := by
  unfold atI ixN
  rw [List.length_append, List.length_singleton, if_neg (by decide), if_pos (by omega)]
  have : ((-1 : Int) + ((xs.length + 1 : Nat) : Int)).toNat = xs.length := by omega
  show (xs ++ [x])[((-1 : Int) + ((xs.length + 1 : Nat) : Int)).toNat]? = some x
  rw [this, List.getElem?_append_right (Nat.le_refl _), Nat.sub_self]
  rfl
theorem sortD_ints (ns : List Int) : sortD (ns.map PyData.int) = (sortI ns).map PyData.int := by
  unfold sortD sortI
  have m := List.map_mergeSort (r := fun a b => decide (a ≤ b)) (s := PySem.W.dataLe false id) (f := PyData.int) (l := ns) (fun a _ b _ => by
    show _ = (!PySem.W.dataLt (.int b) (.int a))
    rw [PySem.W.dataLt_int]
    by_cases h : a ≤ b
    · rw [decide_eq_true h, decide_eq_false (by omega)]
      rfl
    · rw [decide_eq_false h, decide_eq_true (by omega)]
      rfl)
  rw [← m]
theorem sort_intsU {c : List Int} (hl : c.length ≤ 1000) : SortOk (c.map PyData.int) := by
  refine ⟨PySem.W.AllAlike.of fun _ _ => rfl, .inl (.inr fun d hd => ?_), sz (by rw [List.length_map]; omega), fun d hd => ?_⟩
  · obtain ⟨i, _, rfl⟩ := List.mem_map.mp hd
    exact ⟨(fun h => by cases h), fun xs h => by cases h⟩
  · obtain ⟨i, _, rfl⟩ := List.mem_map.mp hd
    exact Nat.zero_le _
theorem o_sortI {c : List Int} (hl : c.length ≤ 1000) {μ : Mu} {Q : DQ} : fSorted [.dat (.list (c.map PyData.int))] μ Q = Q (.dat (.list ((sortI c).map PyData.int))) μ := by
  simp only [fSorted, arg1, e_rdD, sortD_ints, e_isVd, e_mkF]
  exact propext ⟨fun z => z.2, fun z => ⟨sort_intsU hl, z⟩⟩
end WL
namespace DL
open PySem PySem.Spec PyProof.Rows L2 Evl
def lcD2 (C : Mu → Prop) (g : DG) (t : DT) (i1 : DI) (g1 : DG) (t1 : DT) (e : DE) (vs1 : List Nat) (k : Nat) (Q : Mu → Prop) (ρ : Rho) : List Sl → Mu → Prop
  | [], μ => C μ ∧ Q μ
  | s :: ss, μ => C μ ∧ g s ρ μ fun ρ1 μ1 => t ρ1 μ1 fun b μ2 => if b = true then i1 ρ1 μ2 fun ss1 C1 μ3 => lcD C1 g1 t1 e k (lcD2 C g t i1 g1 t1 e vs1 k Q ρ ss) (wipeD ρ1 vs1) ss1 μ3 else lcD2 C g t i1 g1 t1 e vs1 k Q ρ ss μ2
def dLc2Q (F : Nat → DQ → Mu → Prop) (i : DI) (g : DG) (t : DT) (i1 : DI) (g1 : DG) (t1 : DT) (e : DE) (vs vs1 : List Nat) : DE := fun ρ μ Q => i ρ μ fun ss C μ1 => lcD2 C g t i1 g1 t1 e vs1 μ1.length (F μ1.length Q) (wipeD ρ vs) ss (μ1 ++ [.lst []])
def dLc2 : DI → DG → DT → DI → DG → DT → DE → List Nat → List Nat → DE := dLc2Q frzQ
def tiOf (K : PySem.W.Frag) (d : DI) : TI := fun σ H R => ∃ W ρ μ R', EnvOk K W σ ρ ∧ Rep K W H μ ∧ d ρ μ R' ∧ ∀ J ss C W' H' μ', Le W W' → Rep K W' H' μ' → ItOk K W' J ss C → R' ss C μ' → R J H'
theorem PDI.of {X : Cx} {tg e : Expr} {d : DI} (h : PDI X tg e d) : PI X tg e (tiOf X.K d) := by
  obtain ⟨t, p, l⟩ := h
  exact ⟨fun pins s σ H R I ⟨W, ρ, μ, R', he, r, hd, q⟩ => p.run pins s σ H R I (l ρ μ R' hd W σ H he r R q)⟩
section
variable {X : Cx} {K : PySem.W.Frag}
variable {elt tg iter tg1 iter1 : Expr} {ifs ifs1 : List Expr} {scope : Scope} {own : List (Str × Nat)} {pos : Pos} {i i1 : DI} {g g1 : DG} {t t1 : DT} {e : DE}
end
end DL
namespace WL
open PySem PySem.Spec PyProof.Rows L2 Evl DL
end WL
namespace K27
open PySem PySem.Spec PyProof.Rows L2 Evl DL
open WL
def ownD (n : Int) (ts : List T3) : PyData := .tuple [.int n, .list (ts.map tieD)]
def asRow : PyData → Option (List Int)
  | .tuple ds => intsOf ds
  | _ => none
def goes (ts : List T3) (xs : List Int) (f : T3 → Int) (p : Int) : Int := (((ts.zip xs).filter fun z => decide (f z.1 = p)).map (·.2)).sum
def awayI (ts : List T3) (xs : List Int) (p : Int) : Int := goes ts xs (·.1) p - goes ts xs (·.2.1) p
def fitB (ts : List T3) (xs : List Int) : Bool := (ts.zip xs).all fun z => !decide (z.1.2.2 < (if z.2 < 0 then -z.2 else z.2))
def offB (p q x : Int) : Bool := !decide (x ∈ [p, q])
def evenB (n : Int) (ts : List T3) (p q : Int) (xs : List Int) : Bool := (placesL n).all fun x => !offB p q x || decide (awayI ts xs x = 0)
def flowB (n : Int) (ts : List T3) (p q : Int) (d : PyData) : Bool := match asRow d with
  | some xs => decide (xs.length = ts.length) && (fitB ts xs && evenB n ts p q xs)
  | none => false
def valO (n : Int) (ts : List T3) (p q : Int) (d : PyData) : Option Int := if flowB n ts p q d = true then (asRow d).map fun xs => awayI ts xs p else none
def optD : Option Int → PyData
  | some i => .int i
  | none => .none
def ph_are_integers : DF := fun ss μ Q => ∃ ds, ss = [.dat (.tuple ds)] ∧ ds.length ≤ 1000 ∧ Q (.dat (.bool (ds.all isW))) μ
def ph_more_away : DF := fun ss μ Q => ∃ n ts xs p, ss = [.dat (webD n ts), .dat (rowI xs), .dat (.int p)] ∧ ts.length ≤ 100 ∧ Q (.dat (.int (awayI ts xs p))) μ
def ph_is_flow : DF := fun ss μ Q => ∃ n ts p q d, ss = [.dat (webD n ts), .dat (.int p), .dat (.int q), .dat d] ∧ TwoOk n ts p q ∧ Q (.dat (.bool (flowB n ts p q d))) μ
def ph_value_of : DF := fun ss μ Q => ∃ n ts p q d, ss = [.dat (webD n ts), .dat (.int p), .dat (.int q), .dat d] ∧ TwoOk n ts p q ∧ ∃ i, valO n ts p q d = some i ∧ Q (.dat (.int i)) μ
def ph_is_greatest : DF := fun ss μ Q => ∃ n ts p q d, ss = [.dat (webD n ts), .dat (.int p), .dat (.int q), .dat d] ∧ TwoOk n ts p q ∧ Q (.dat (.bool (decide (valO n ts p q d = some (leastR n ts p q))))) μ
def ph_law_web : DF := fun ss μ Q => ∃ k, ss = [.cell k, .dat (.int 4), .dat (.int 3)] ∧ Pot μ k ∧ ∀ n ts μ', WebOk n ts → Ch k μ μ' → Q (.dat (ownD n ts)) μ'
def ph_law_told : DF := fun ss μ Q => ∃ n ts, ss = [.dat (ownD n ts)] ∧ Q (.dat (webD n ts)) μ
def ph_law_room : DF := fun ss μ Q => ∃ n ts c, ss = [.dat (ownD n ts), .dat (rowI c)] ∧ (SmallL c ∧ ts.length ≤ 100) ∧ Q (.dat (.int (roomL ts c))) μ
def ph_law_least : DF := fun ss μ Q => ∃ n ts p q, ss = [.dat (ownD n ts), .dat (.int p), .dat (.int q)] ∧ TwoOk n ts p q ∧ Q (.dat (.int (leastR n ts p q))) μ
def ph_law_two : DF := fun ss μ Q => ∃ k n, ss = [.cell k, .dat (.int n)] ∧ Pot μ k ∧ (2 ≤ n ∧ n ≤ 8) ∧ ∀ (p q : Int) (μ' : Mu), (0 ≤ p ∧ p < n) → (0 ≤ q ∧ q < n) → p ≠ q → Ch k μ μ' → Q (.dat (.tuple [.int p, .int q])) μ'
def ph_law_is_whole : DF := ph_is_integer
def ph_law_value : DF := fun ss μ Q => ∃ n ts p q d, ss = [.dat (ownD n ts), .dat (.int p), .dat (.int q), .dat d] ∧ TwoOk n ts p q ∧ Q (.dat (optD (valO n ts p q d))) μ
def ph_law_way : DF := fun ss μ Q => ∃ k n ts p q, ss = [.cell k, .dat (ownD n ts), .dat (.int p), .dat (.int q)] ∧ Pot μ k ∧ TwoOk n ts p q ∧ (∀ μ', Ch k μ μ' → Q (.dat .none) μ') ∧ ∀ (way : List Int) (μ' : Mu), way.length ≤ 10 → Ch k μ μ' → Q (.dat (.list (way.map PyData.int))) μ'
def ph_law_along : DF := fun ss μ Q => ∃ (n : Int) (ts : List T3) (way : List Int) (much : Int), ss = [.dat (ownD n ts), .dat (.list (way.map PyData.int)), .dat (.int much)] ∧ (ts.length ≤ 14 ∧ way.length ≤ 10 ∧ 1 ≤ much ∧ much ≤ 2) ∧ ∀ xs : List Int, xs.length = ts.length → (∀ x ∈ xs, x.natAbs ≤ 100) → Q (.dat (.list (xs.map PyData.int))) μ
def ph_law_values : DF := fun ss μ Q => ∃ k n ts p q, ss = [.cell k, .dat (ownD n ts), .dat (.int p), .dat (.int q)] ∧ Pot μ k ∧ TwoOk n ts p q ∧ ∀ ds μ', (∀ d ∈ ds, okR d) → ds.length ≤ 1000 → Ch k μ μ' → Q (.dat (.list ds)) μ'
def ph_law_right : DF := fun ss μ Q => ∃ k, ss = [.cell k] ∧ Pot μ k ∧ ∀ μ', Ch k μ μ' → Q (.dat (.bool true)) μ'
def ph_law : DF := lawF
end K27
namespace K52
open PySem PySem.Spec PyProof.Rows L2 Evl DL
open WL
def fitT (z : T3 × Int) : Bool := !decide (z.1.2.2 < (if z.2 < 0 then -z.2 else z.2)) && decide ((z.1.2.2 - z.2).fmod 2 = 0)
def turnB (ts : List T3) (d : PyData) : Bool := match K27.asRow d with
  | some xs => decide (xs.length = ts.length) && (ts.zip xs).all fitT
  | none => false
def surI (n : Int) (ts : List T3) (xs : List Int) : List Int := (placesL n).map (K27.awayI ts xs)
def surOf (n : Int) (ts : List T3) (d : PyData) : List Int := match K27.asRow d with
  | some xs => surI n ts xs
  | none => []
def intsL (xs : List Int) : PyData := .list (xs.map PyData.int)
def ph_is_listed : DF := fun ss μ Q => ∃ s xs, ss = [s] ∧ Sq1 s xs ∧ Q (.dat (.bool true)) μ
def ph_are_integers : DF := fun ss μ Q => ∃ s ds, ss = [s] ∧ (s = .dat (.tuple ds) ∨ s = .dat (.list ds)) ∧ ds.length ≤ 1000 ∧ Q (.dat (.bool (ds.all isW))) μ
def ph_more_away : DF := K27.ph_more_away
def ph_is_surplus : DF := fun ss μ Q => ∃ n ts s xs, ss = [.dat (webD n ts), s] ∧ Sq1 s xs ∧ ((xs.length : Int) = n ∧ n ≤ 8 ∧ xs.sum = 0) ∧ Q (.dat (.bool true)) μ
def ph_check_surplus : DF := fun ss μ Q => ∃ n ts s xs, ss = [.dat (webD n ts), s] ∧ Sq1 s xs ∧ ((xs.length : Int) = n ∧ n ≤ 8 ∧ xs.sum = 0) ∧ Q (.dat .none) μ
def ph_is_turning : DF := fun ss μ Q => ∃ n ts d, ss = [.dat (webD n ts), .dat d] ∧ WebOk n ts ∧ Q (.dat (.bool (turnB ts d))) μ
def ph_surplus_by : DF := fun ss μ Q => ∃ n ts xs, ss = [.dat (webD n ts), .dat (rowI xs)] ∧ WebOk n ts ∧ Q (.dat (intsL (surI n ts xs))) μ
def ph_is_turned : DF := fun ss μ Q => ∃ n ts s xs d, ss = [.dat (webD n ts), s, .dat d] ∧ Sq1 s xs ∧ (WebOk n ts ∧ (xs.length : Int) = n ∧ xs.sum = 0) ∧ Q (.dat (.bool (turnB ts d && decide (surOf n ts d = xs)))) μ
def ph_law_web : DF := fun ss μ Q => ∃ k, ss = [.cell k, .dat (.int 2), .dat (.int 4), .dat (.int 4)] ∧ Pot μ k ∧ ∀ n ts μ', WebOk n ts → n ≤ 4 → Ch k μ μ' → Q (.dat (webD n ts)) μ'
def ph_law_surplus : DF := fun ss μ Q => ∃ n ts xs, ss = [.dat (webD n ts), .dat (rowI xs)] ∧ WebOk n ts ∧ Q (.dat (intsL (surI n ts xs))) μ
def ph_law_is_integer : DF := ph_is_integer
def ph_law_is_turning : DF := fun ss μ Q => ∃ n ts d, ss = [.dat (webD n ts), .dat d] ∧ WebOk n ts ∧ Q (.dat (.bool (turnB ts d))) μ
def ph_law_bent : DF := fun ss μ Q => ∃ k xs, ss = [.cell k, .dat (rowI xs)] ∧ Pot μ k ∧ ((∀ x ∈ xs, x.natAbs ≤ 100) ∧ xs ≠ [] ∧ xs.length ≤ 14) ∧ ∀ d μ', okR d → Ch k μ μ' → Q (.dat d) μ'
def ph_law_heard : DF := fun ss μ Q => ∃ n ts d, ss = [.dat (webD n ts), .dat d] ∧ (WebOk n ts ∧ okR d) ∧ Q (.dat (if turnB ts d = true then intsL (surOf n ts d) else .str d.shown)) μ
def ph_law : DF := lawF
end K52
namespace WL
open PySem PySem.Spec PyProof.Rows L2 Evl DL
def posT (ts : List T3) : List (List Key × PyData) := ts.zipIdx.map fun x => ([Sum.inl x.1.1, Sum.inl x.1.2.1], PyData.int (x.2 : Nat))
def ph_tie_positions : DF := fun ss μ Q => ∃ n ts, ss = [.dat (webD n ts)] ∧ ((ts.map two).Nodup ∧ ts.length ≤ 100) ∧ Q (.cell μ.length) (μ ++ [.dctT (posT ts)])
def tieIx (ts : List T3) (a b : Int) : Nat := (ts.map two).idxOf (if a < b then (a, b) else (b, a))
def Tied (ts : List T3) (a b : Int) : Prop := (if a < b then (a, b) else (b, a)) ∈ ts.map two
instance (ts : List T3) (a b : Int) : Decidable (Tied ts a b) := inferInstanceAs (Decidable (_ ∈ _))
def nexts : List Int → List (Int × Int)
  | a :: b :: r => (a, b) :: nexts (b :: r)
  | _ => []
def stepI (ts : List T3) (p : Int × Int) : Int × Int := ((tieIx ts p.1 p.2 : Nat), if p.1 < p.2 then 1 else -1)
def ph_signed_steps : DF := fun ss μ Q => ∃ n ts xs, ss = [.dat (webD n ts), .dat (rowI xs)] ∧ ((ts.map two).Nodup ∧ ts.length ≤ 100 ∧ xs.length ≤ 100 ∧ ∀ p ∈ nexts xs, Tied ts p.1 p.2) ∧ Q (.dat (.list (((nexts xs).map (stepI ts)).map pairD))) μ
def Goes (ts : List T3) (sp : List (Int × Int)) (a b : Int) : Prop := ∃ z ∈ ts.zip sp, (z.1.1 = a ∧ z.1.2.1 = b ∧ 0 < z.2.1) ∨ (z.1.2.1 = a ∧ z.1.1 = b ∧ 0 < z.2.2)
inductive Come (ts : List T3) (sp : List (Int × Int)) (a : Int) : Int → Prop
  | here : Come ts sp a a
  | on {b c : Int} : Come ts sp a b → Goes ts sp b c → Come ts sp a c
structure OpenW (ts : List T3) (sp : List (Int × Int)) (a b : Int) (w : List Int) : Prop where
  nd : w.Nodup
  first : w.head? = some a
  last : w.getLast? = some b
  goes : ∀ p ∈ nexts w, Goes ts sp p.1 p.2
def ph_open_way : DF := fun ss μ Q => ∃ n ts sp a b, ss = [.dat (webD n ts), .dat (.list (sp.map pairD)), .dat (.int a), .dat (.int b)] ∧ (WebOk n ts ∧ sp.length = ts.length ∧ (0 ≤ a ∧ a < n) ∧ a ≠ b) ∧
  ∀ w : List Int, (w = [] ∧ ¬ Come ts sp a b ∨ OpenW ts sp a b w ∧ ∀ x ∈ w, 0 ≤ x ∧ x < n) → Q (.dat (rowI w)) μ
def camesD (cs : List (Int × Option Int)) : List (Key × PyData) := cs.map fun c => (Sum.inl c.1, match c.2 with | some p => .int p | none => .none)
structure Camed (ok : Int → Int → Prop) (a : Int) (cs : List (Int × Option Int)) : Prop where
  nd : (cs.map (·.1)).Nodup
  head : cs.head? = some (a, none)
  par : ∀ (i : Nat) (x : Int) (q : Option Int), cs[i]? = some (x, q) → (i = 0 ∧ q = none) ∨ ∃ (p : Int) (j : Nat) (q' : Option Int), q = some p ∧ j < i ∧ cs[j]? = some (p, q') ∧ ok p x
def ph_led_back : DF := fun ss μ Q => ∃ (ok : Int → Int → Prop) (k : Nat) (a b : Int) (cs : List (Int × Option Int)), ss = [.cell k, .dat (.int b)] ∧ (μ[k]? = some (.dct (camesD cs)) ∧ Camed ok a cs ∧ cs.length ≤ 8) ∧
  ∀ w : List Int, (w = [] ∧ b ∉ cs.map (·.1) ∨ (w.Nodup ∧ w.head? = some a ∧ w.getLast? = some b ∧ (∀ p ∈ nexts w, ok p.1 p.2) ∧ ∀ x ∈ w, x ∈ cs.map (·.1))) → Q (.dat (rowI w)) μ
def atSum (ts : List T3) (p : Int) : Int := ((ts.filter fun t => decide (p = t.1) || decide (p = t.2.1)).map (·.2.2)).sum
def ph_summed_at : DF := fun ss μ Q => ∃ ts p, ss = [.dat (tiesD ts), .dat (.int p)] ∧ ts.length ≤ 100 ∧ Q (.dat (.int (atSum ts p))) μ
def ph_more_away : DF := fun ss μ Q => ∃ n ts s xs p, ss = [.dat (webD n ts), s, .dat (.int p)] ∧ Sq1 s xs ∧ ts.length ≤ 100 ∧ Q (.dat (.int (K27.awayI ts xs p))) μ
end WL
namespace WL
open PySem PySem.Spec PyProof.Rows L2 Evl DL
def ph_are_integers : DF := K52.ph_are_integers
def stepsB (ts : List T3) (xs : List Int) : Bool := (nexts xs).all fun p => decide (Tied ts p.1 p.2)
def ph_are_steps : DF := fun ss μ Q => ∃ n ts xs, ss = [.dat (webD n ts), .dat (rowI xs)] ∧ ((ts.map two).Nodup ∧ ts.length ≤ 100 ∧ xs.length ≤ 1000) ∧ Q (.dat (.bool (stepsB ts xs))) μ
structure WayOk (ts : List T3) (xs : List Int) : Prop where
  two_ : 2 ≤ xs.length
  nd : xs.Nodup
  on : ∀ p ∈ nexts xs, Tied ts p.1 p.2
instance (ts : List T3) (xs : List Int) : Decidable (WayOk ts xs) := decidable_of_iff (2 ≤ xs.length ∧ xs.Nodup ∧ ∀ p ∈ nexts xs, Tied ts p.1 p.2) ⟨fun ⟨a, b, c⟩ => ⟨a, b, c⟩, fun ⟨a, b, c⟩ => ⟨a, b, c⟩⟩
def wayB (ts : List T3) (d : PyData) : Bool := match K27.asRow d with
  | some xs => decide (WayOk ts xs)
  | none => false
def Short (d : PyData) : Prop := ∀ ds, d = .tuple ds → ds.length ≤ 1000
def ph_is_way : DF := fun ss μ Q => ∃ n ts d, ss = [.dat (webD n ts), .dat d] ∧ (WebOk n ts ∧ Short d) ∧ Q (.dat (.bool (wayB ts d))) μ
def alongT (ts : List T3) (xs : List Int) : List Int := (nexts xs).map fun p => ((tieIx ts p.1 p.2 : Nat) : Int)
def ph_positions_along : DF := fun ss μ Q => ∃ n ts xs, ss = [.dat (webD n ts), .dat (rowI xs)] ∧ ((ts.map two).Nodup ∧ ts.length ≤ 100 ∧ xs.length ≤ 100 ∧ ∀ p ∈ nexts xs, Tied ts p.1 p.2) ∧ Q (.dat (rowI (alongT ts xs))) μ
def ph_ties_of_way : DF := fun ss μ Q => ∃ n ts xs, ss = [.dat (webD n ts), .dat (rowI xs)] ∧ (WebOk n ts ∧ xs.length ≤ 100 ∧ WayOk ts xs) ∧ Q (.dat (rowI (alongT ts xs))) μ
end WL
namespace WL
open PySem PySem.Spec PyProof.Rows L2 Evl DL
structure LensOk (ts : List T3) (ls : List Int) : Prop where
  len : ls.length = ts.length
  in_ : ∀ l ∈ ls, 0 ≤ l ∧ l ≤ 1000000000000
def lensB (ts : List T3) (d : PyData) : Bool := tupOfB d ts.length && match d with | .tuple ds => ds.all fun x => withinB x 0 1000000000000 | _ => false
def ph_are_lengths : DF := fun ss μ Q => ∃ n ts d, ss = [.dat (webD n ts), .dat d] ∧ ts.length ≤ 100 ∧ Q (.dat (.bool (lensB ts d))) μ
def ph_check_lengths : DF := fun ss μ Q => ∃ n ts ls, ss = [.dat (webD n ts), .dat (rowI ls)] ∧ (ts.length ≤ 100 ∧ LensOk ts ls) ∧ Q (.dat .none) μ
def crossI (ts : List T3) (c : List Int) : List Int := ts.map fun t => if acrossB c t = true then 1 else 0
def ph_crossing_lengths : DF := fun ss μ Q => ∃ n ts c, ss = [.dat (webD n ts), .dat (rowI c)] ∧ (ts.length ≤ 100 ∧ SmallL c) ∧ Q (.dat (rowI (crossI ts c))) μ
def hadI (ts : List T3) (ls : List Int) : Int := ((ts.zip ls).map fun z => z.1.2.2 * z.2).sum
def ph_had : DF := fun ss μ Q => ∃ n ts ls, ss = [.dat (webD n ts), .dat (rowI ls)] ∧ (WebOk n ts ∧ LensOk ts ls) ∧ Q (.dat (.int (hadI ts ls))) μ
end WL
namespace WL
open PySem PySem.Spec PyProof.Rows L2 Evl DL
def lenI (ts : List T3) (ls : List Int) (xs : List Int) : Int := ((nexts xs).map fun p => ls.getD (tieIx ts p.1 p.2) 0).sum
def ph_length_of : DF := fun ss μ Q => ∃ n ts ls xs, ss = [.dat (webD n ts), .dat (rowI ls), .dat (rowI xs)] ∧ (WebOk n ts ∧ LensOk ts ls ∧ xs.length ≤ 100 ∧ WayOk ts xs) ∧ Q (.dat (.int (lenI ts ls xs))) μ
end WL
namespace WL
open PySem PySem.Spec PyProof.Rows L2 Evl DL
instance (many : Int) (c : List Int) : Decidable (Cut many c) := inferInstanceAs (Decidable (_ ∧ _ ∧ _))
def cutB (many : Int) (d : PyData) : Bool := match K27.asRow d with
  | some c => decide (Cut many c)
  | none => false
def ph_is_cut_of_many : DF := fun ss μ Q => ∃ many d, ss = [.dat (.int many), .dat d] ∧ Short d ∧ Q (.dat (.bool (cutB many d))) μ
def ph_is_cut : DF := fun ss μ Q => ∃ n ts d, ss = [.dat (webD n ts), .dat d] ∧ Short d ∧ Q (.dat (.bool (cutB n d))) μ
def ph_check_cut : DF := fun ss μ Q => ∃ n ts c, ss = [.dat (webD n ts), .dat (rowI c)] ∧ (Cut n c ∧ c.length ≤ 100) ∧ Q (.dat .none) μ
def ph_lengths_of_cut : DF := fun ss μ Q => ∃ n ts c, ss = [.dat (webD n ts), .dat (rowI c)] ∧ (WebOk n ts ∧ Cut n c ∧ c.length ≤ 100) ∧ Q (.dat (rowI (crossI ts c))) μ
end WL
namespace WL
open PySem PySem.Spec PyProof.Rows L2 Evl DL
def ds_are_lengths : DS := (dRet (dAndV (dCall 2 ph_is_tuple_of (aCons (dVar 1) (aCons (dCB fLen (aCons (dOp DL.rIx (dVar 0) (dC (.int 2))) aNil)) aNil))) (dCB fAll (aCons (dLc (iSeq (dVar 1)) (gN 2) dYes (dCall 3 ph_is_within (aCons (dVar 2) (aCons (dC (.int 0)) (aCons (dC (.int 1000000000000)) aNil)))) [2]) aNil))))
def ds_check_lengths : DS := (dIfS (dNot (dTru (dCall 2 ph_are_lengths (aCons (dVar 0) (aCons (dVar 1) aNil))))) dNever dNext)
def ds_crossing_lengths : DS := (dRet (dCB fTuple (aCons (dLc (iSeq (dOp DL.rIx (dVar 0) (dC (.int 2)))) (gN 2) dYes (dIf (dTru (dCall 2 ph_is_across (aCons (dVar 1) (aCons (dVar 2) aNil)))) (dC (.int 1)) (dC (.int 0))) [2]) aNil)))
def ds_had : DS := (dSeq (dDrop (dCall 1 ph_check_web (aCons (dVar 0) aNil)))
    (dSeq (dDrop (dCall 2 ph_check_lengths (aCons (dVar 0) (aCons (dVar 1) aNil))))
    (dRet (dCB fSum (aCons (dLc (iZp (aCons (dOp DL.rIx (dVar 0) (dC (.int 2))) (aCons (dVar 1) aNil))) (gT 2 (gsCons (gN 2) (gsCons (gN 3) gsNil))) dYes (dOp DL.rMul (dOp DL.rIx (dVar 2) (dC (.int 2))) (dVar 3)) [2, 3]) aNil)))))
end WL
namespace WL
open PySem PySem.Spec PyProof.Rows L2 Evl DL
def ds_are_integers : DS := (dRet (dCB fAll (aCons (dLc (iSeq (dVar 0)) (gN 1) dYes (dCall 1 ph_is_integer (aCons (dVar 1) aNil)) [1]) aNil)))
def ds_are_steps : DS := (dSeq (dAsg (dCall 1 ph_tie_positions (aCons (dVar 0) aNil)) 2)
    (dRet (dCB fAll (aCons (dLc (iZp (aCons (dVar 1) (aCons (dSl (dVar 1) (oSome (dC (.int 1))) oNone) aNil))) (gT 2 (gsCons (gN 3) (gsCons (gN 4) gsNil))) dYes (dOp (wIn id) (dTup (aCons (dCB fMin2 (aCons (dVar 3) (aCons (dVar 4) aNil))) (aCons (dCB fMax2 (aCons (dVar 3) (aCons (dVar 4) aNil))) aNil))) (dVar 2)) [3, 4]) aNil))))
def ds_is_way : DS := (dSeq (dDrop (dCall 1 ph_check_web (aCons (dVar 0) aNil)))
    (dSeq (dIfS (dOr (dNot (dTru (dUn (fIsi .tup) (dVar 1)))) (dOr (dTest (dOp wLt (dCB fLen (aCons (dVar 1) aNil)) (dC (.int 2)))) (dNot (dTru (dCall 1 ph_are_integers (aCons (dVar 1) aNil)))))) (dRet (dC (.bool false))) dNext)
    (dRet (dAndV (dOp DL.rEq (dUn fLenSet (dVar 1)) (dCB fLen (aCons (dVar 1) aNil))) (dCall 2 ph_are_steps (aCons (dVar 0) (aCons (dVar 1) aNil)))))))
def ds_positions_along : DS := (dRet (dCB fTuple (aCons (dLc (iSeq (dCall 2 ph_signed_steps (aCons (dVar 0) (aCons (dVar 1) aNil)))) (gT 2 (gsCons (gN 2) (gsCons (gN 3) gsNil))) dYes (dVar 2) [2, 3]) aNil)))
def ds_ties_of_way : DS := (dSeq (dIfS (dNot (dTru (dCall 2 ph_is_way (aCons (dVar 0) (aCons (dVar 1) aNil))))) dNever dNext)
    (dRet (dCall 2 ph_positions_along (aCons (dVar 0) (aCons (dVar 1) aNil)))))
end WL
namespace WL
open PySem PySem.Spec PyProof.Rows L2 Evl DL
def ds_summed_at : DS := (dRet (dCB fSum (aCons (dLc (iSeq (dVar 0)) (gN 2) (dTest (dOp (wIn id) (dVar 1) (dSl (dVar 2) oNone (oSome (dC (.int 2)))))) (dOp rIx (dVar 2) (dC (.int 2))) [2]) aNil)))
def ds_tie_positions : DS := (dRet (dDcT (iEn (aCons (dOp rIx (dVar 0) (dC (.int 2))) aNil)) (gT 2 (gsCons (gN 1) (gsCons (gN 2) gsNil))) dYes (aCons (dOp rIx (dVar 2) (dC (.int 0))) (aCons (dOp rIx (dVar 2) (dC (.int 1))) aNil)) (dVar 1) [1, 2]))
def ds_signed_steps : DS := (dSeq (dAsg (dCall 1 ph_tie_positions (aCons (dVar 0) aNil)) 2)
    (dRet (dLc (iZp (aCons (dVar 1) (aCons (dSl (dVar 1) (oSome (dC (.int 1))) oNone) aNil))) (gT 2 (gsCons (gN 3) (gsCons (gN 4) gsNil))) dYes (dIf (dTest (dOp wLt (dVar 3) (dVar 4))) (dTup (aCons (dOp rDIx (dVar 2) (dTup (aCons (dVar 3) (aCons (dVar 4) aNil)))) (aCons (dC (.int 1)) aNil))) (dTup (aCons (dOp rDIx (dVar 2) (dTup (aCons (dVar 4) (aCons (dVar 3) aNil)))) (aCons (dUn rNeg (dC (.int 1))) aNil)))) [3, 4])))
def ds_open_way : DS := (dSeq (dAsg (dDct1 (dVar 2) (dC .none)) 4)
    (dSeq (dAsg (dLstC (aCons (dVar 2) aNil)) 5)
    (dSeq (dWhile (dTru (dVar 5)) (dSeq (dAsg (dMtL mPopAt (dVar 5) (aCons (dC (.int 0)) aNil)) 6)
    (dFor (iZpG true false (aCons (dOp rIx (dVar 0) (dC (.int 2))) (aCons (dVar 1) aNil))) (gT 2 (gsCons (gN 7) (gsCons (gT 2 (gsCons (gN 8) (gsCons (gN 9) gsNil))) gsNil))) (dSeq (dAsg (dCall 2 ph_far_end (aCons (dVar 7) (aCons (dVar 6) aNil))) 10)
    (dSeq (dIfS (dOr (dTest (dOp (rIs false) (dVar 10) (dC .none))) (dOr (dTest (dOp (wIn id) (dVar 10) (dVar 4))) (dTest (dOp wLe (dIf (dTest (dOp wLt (dVar 6) (dVar 10))) (dVar 8) (dVar 9)) (dC (.int 0)))))) dCont dNext)
    (dSeq (dDPut (dVar 4) (dVar 10) (dVar 6))
    (dDrop (dMtL mApp (dVar 5) (aCons (dVar 10) aNil)))))))))
    (dRet (dCall 2 ph_led_back (aCons (dVar 4) (aCons (dVar 3) aNil)))))))
def ds_led_back : DS := (dSeq (dIfS (dTest (dOp (wIn not) (dVar 1) (dVar 0))) (dRet (dTup aNil)) dNext)
    (dSeq (dAsg (dLstC (aCons (dVar 1) aNil)) 2)
    (dSeq (dWhile (dTest (dOp (rIs true) (dOp rDIx (dVar 0) (dOp rIx (dVar 2) (dUn rNeg (dC (.int 1))))) (dC .none))) (dDrop (dMtL mApp (dVar 2) (aCons (dOp rDIx (dVar 0) (dOp rIx (dVar 2) (dUn rNeg (dC (.int 1))))) aNil))))
    (dRet (dCB fTuple (aCons (dUn rRevL (dVar 2)) aNil))))))
def ds_more_away : DS := (dSeq (dAsg (dCB fSum (aCons (dLc (iZpE (aCons (dOp rIx (dVar 0) (dC (.int 2))) (aCons (dVar 1) aNil))) (gT 2 (gsCons (gN 4) (gsCons (gN 5) gsNil))) (dTest (dOp rEq (dOp rIx (dVar 4) (dC (.int 0))) (dVar 2))) (dVar 5) [4, 5]) aNil)) 3)
    (dRet (dOp rSub (dVar 3) (dCB fSum (aCons (dLc (iZpE (aCons (dOp rIx (dVar 0) (dC (.int 2))) (aCons (dVar 1) aNil))) (gT 2 (gsCons (gN 4) (gsCons (gN 5) gsNil))) (dTest (dOp rEq (dOp rIx (dVar 4) (dC (.int 1))) (dVar 2))) (dVar 5) [4, 5]) aNil)))))
end WL
namespace K27
open PySem PySem.Spec PyProof.Rows L2 Evl DL
def ds_are_integers : DS := (dRet (dCB fAll (aCons (dLc (iSeq (dVar 0)) (gN 1) dYes (dCall 1 WL.ph_is_integer (aCons (dVar 1) aNil)) [1]) aNil)))
def ds_more_away : DS := (dSeq (dAsg (dCB fSum (aCons (dLc (iZp (aCons (dOp rIx (dVar 0) (dC (.int 2))) (aCons (dVar 1) aNil))) (gT 2 (gsCons (gN 4) (gsCons (gN 5) gsNil))) (dTest (dOp rEq (dOp rIx (dVar 4) (dC (.int 0))) (dVar 2))) (dVar 5) [4, 5]) aNil)) 3)
    (dRet (dOp rSub (dVar 3) (dCB fSum (aCons (dLc (iZp (aCons (dOp rIx (dVar 0) (dC (.int 2))) (aCons (dVar 1) aNil))) (gT 2 (gsCons (gN 4) (gsCons (gN 5) gsNil))) (dTest (dOp rEq (dOp rIx (dVar 4) (dC (.int 1))) (dVar 2))) (dVar 5) [4, 5]) aNil)))))
def ds_is_flow : DS := (dSeq (dDrop (dCall 3 WL.ph_check_two (aCons (dVar 0) (aCons (dVar 1) (aCons (dVar 2) aNil)))))
    (dSeq (dIfS (dOr (dNot (dTru (dCall 2 WL.ph_is_tuple_of (aCons (dVar 3) (aCons (dCB fLen (aCons (dOp rIx (dVar 0) (dC (.int 2))) aNil)) aNil))))) (dNot (dTru (dCall 1 ph_are_integers (aCons (dVar 3) aNil))))) (dRet (dC (.bool false))) dNext)
    (dSeq (dIfS (dTru (dCB fAny (aCons (dLc (iZp (aCons (dOp rIx (dVar 0) (dC (.int 2))) (aCons (dVar 3) aNil))) (gT 2 (gsCons (gN 4) (gsCons (gN 5) gsNil))) dYes (dOp wGt (dCB fAbs (aCons (dVar 5) aNil)) (dOp rIx (dVar 4) (dC (.int 2)))) [4, 5]) aNil))) (dRet (dC (.bool false))) dNext)
    (dRet (dCB fAll (aCons (dLc (iRg1 (aCons (dOp rIx (dVar 0) (dC (.int 1))) aNil)) (gN 6) (dTest (dOp (wIn not) (dVar 6) (dTup (aCons (dVar 1) (aCons (dVar 2) aNil))))) (dOp rEq (dCall 3 ph_more_away (aCons (dVar 0) (aCons (dVar 3) (aCons (dVar 6) aNil)))) (dC (.int 0))) [6]) aNil))))))
def ds_value_of : DS := (dSeq (dIfS (dNot (dTru (dCall 4 ph_is_flow (aCons (dVar 0) (aCons (dVar 1) (aCons (dVar 2) (aCons (dVar 3) aNil))))))) dNever dNext)
    (dRet (dCall 3 ph_more_away (aCons (dVar 0) (aCons (dVar 3) (aCons (dVar 1) aNil))))))
def ds_is_greatest : DS := (dRet (dAndV (dCall 4 ph_is_flow (aCons (dVar 0) (aCons (dVar 1) (aCons (dVar 2) (aCons (dVar 3) aNil))))) (dOp rEq (dCall 3 ph_more_away (aCons (dVar 0) (aCons (dVar 3) (aCons (dVar 1) aNil)))) (dCall 3 WL.ph_least_room (aCons (dVar 0) (aCons (dVar 1) (aCons (dVar 2) aNil)))))))
def ds_law_pot : DS := (dSeq (dAsg (dOp rAdd (dOp rAdd (dOp rMul (dC (.int 659)) (dVar 1)) (dC (.int 1087))) (dOp rMd (dCB fSum (aCons (dSl (dVar 0) oNone (oSome (dC (.int 1)))) aNil)) (dC (.int 1000003)))) 2)
    (dSeq (dIfS (dTest (dOp wLt (dVar 1) (dCB fLen (aCons (dVar 0) aNil)))) (dAsg (dCB fAbs (aCons (dOp rIx (dVar 0) (dVar 1)) aNil)) 2) dNext)
    (dRet (dLstC (aCons (dCB fMax2 (aCons (dC (.int 0)) (aCons (dOp rSub (dVar 2) (dOp rPw (dC (.int 10)) (dC (.int 18)))) aNil))) (aCons (dOp rAdd (dOp rMd (dOp rAdd (dOp rAdd (dOp rMul (dOp rMd (dVar 2) (dC (.int 2147483549))) (dC (.int 1439))) (dOp rMul (dC (.int 193)) (dVar 1))) (dC (.int 229))) (dC (.int 2147483563))) (dC (.int 1))) aNil))))))
def ds_law_draw : DS := (dSeq (dIfS (dTest (dOp wGt (dOp rIx (dVar 0) (dC (.int 0))) (dC (.int 0)))) (dSeq (dAsgG (dCB fDm (aCons (dOp rIx (dVar 0) (dC (.int 0))) (aCons (dVar 1) aNil))) (gT 2 (gsCons (gS (dVar 0) (dC (.int 0))) (gsCons (gN 2) gsNil))))
    (dRet (dVar 2))) dNext)
    (dSeq (dAsgG (dOp rMd (dOp rAdd (dOp rMul (dOp rIx (dVar 0) (dC (.int 1))) (dC (.int 40692))) (dC (.int 263))) (dC (.int 2147483399))) (gS (dVar 0) (dC (.int 1))))
    (dRet (dOp rMd (dOp rDv (dOp rMd (dOp rMul (dOp rIx (dVar 0) (dC (.int 1))) (dOp rIx (dVar 0) (dC (.int 1)))) (dC (.int 2147483323))) (dC (.int 17))) (dVar 1)))))
def ds_law_web : DS := (dSeq (dAsgT 2 (gsCons (gN 3) (gsCons (gN 4) gsNil)) (aCons (dOp rAdd (dC (.int 2)) (dCall 2 WL.ph_law_draw (aCons (dVar 0) (aCons (dOp rSub (dVar 1) (dC (.int 1))) aNil)))) (aCons dDctT aNil)))
    (dSeq (dFor (iRg2 (aCons (dC (.int 1)) (aCons (dVar 3) aNil))) (gN 5) (dDPutT (dVar 4) (aCons (dCall 2 WL.ph_law_draw (aCons (dVar 0) (aCons (dVar 5) aNil))) (aCons (dVar 5) aNil)) (dOp rAdd (dC (.int 1)) (dCall 2 WL.ph_law_draw (aCons (dVar 0) (aCons (dC (.int 4)) aNil))))))
    (dSeq (dFor (iRg1 (aCons (dCall 2 WL.ph_law_draw (aCons (dVar 0) (aCons (dOp rAdd (dVar 2) (dC (.int 1))) aNil))) aNil)) (gN 6) (dSeq (dPar 7 8 (aCons (dCall 2 WL.ph_law_draw (aCons (dVar 0) (aCons (dVar 3) aNil))) (aCons (dCall 2 WL.ph_law_draw (aCons (dVar 0) (aCons (dVar 3) aNil))) aNil)))
    (dIfS (dTest (dOp rNe (dVar 7) (dVar 8))) (dDPutT (dVar 4) (aCons (dCB fMin2 (aCons (dVar 7) (aCons (dVar 8) aNil))) (aCons (dCB fMax2 (aCons (dVar 7) (aCons (dVar 8) aNil))) aNil)) (dOp rAdd (dC (.int 1)) (dCall 2 WL.ph_law_pick (aCons (dVar 0) (aCons (dLst (aCons (dC (.int 0)) (aCons (dC (.int 1)) (aCons (dC (.int 2)) (aCons (dC (.int 3)) (aCons (dC (.int 19)) aNil)))))) aNil))))) dNext)))
    (dRet (dTup (aCons (dVar 3) (aCons (dLc (iSeq (dCB fSortedDT (aCons (dVar 4) aNil))) (gT 2 (gsCons (gN 7) (gsCons (gN 8) gsNil))) dYes (dTup (aCons (dVar 7) (aCons (dVar 8) (aCons (dOp rDIx (dVar 4) (dTup (aCons (dVar 7) (aCons (dVar 8) aNil)))) aNil)))) [7, 8]) aNil)))))))
def ds_law_told : DS := (dRet (dTup (aCons (dC (.str (PySem.Str.ofString "web"))) (aCons (dOp rIx (dVar 0) (dC (.int 0))) (aCons (dCB fTuple (aCons (dOp rIx (dVar 0) (dC (.int 1))) aNil)) aNil)))))
def ds_law_room : DS := (dRet (dCB fSum (aCons (dLc (iSeq (dOp rIx (dVar 0) (dC (.int 1)))) (gT 3 (gsCons (gN 2) (gsCons (gN 3) (gsCons (gN 4) gsNil)))) (dTest (dOp rNe (dOp (wIn id) (dVar 2) (dVar 1)) (dOp (wIn id) (dVar 3) (dVar 1)))) (dVar 4) [2, 3, 4]) aNil)))
def ds_law_least : DS := (dRet (dCB fMin1 (aCons (dLc (iSeq (dCall 1 WL.ph_law_cuts (aCons (dOp rIx (dVar 0) (dC (.int 0))) aNil))) (gN 3) (dTest (dOp rNe (dOp (wIn id) (dVar 1) (dVar 3)) (dOp (wIn id) (dVar 2) (dVar 3)))) (dCall 2 ph_law_room (aCons (dVar 0) (aCons (dVar 3) aNil))) [3]) aNil)))
def ds_law_two : DS := (dSeq (dAsg (dCall 2 WL.ph_law_draw (aCons (dVar 0) (aCons (dVar 1) aNil))) 2)
    (dSeq (dAsg (dOp rMd (dOp rAdd (dOp rAdd (dVar 2) (dC (.int 1))) (dCall 2 WL.ph_law_draw (aCons (dVar 0) (aCons (dOp rSub (dVar 1) (dC (.int 1))) aNil)))) (dVar 1)) 3)
    (dRet (dTup (aCons (dVar 2) (aCons (dVar 3) aNil))))))
def ds_law_is_whole : DS := (dRet (dAndV (dUn (fIsi .int) (dVar 0)) (dNotV (dUn (fIsi .bool) (dVar 0)))))
def ds_law_value : DS := (dSeq (dIfS (dOr (dNot (dTru (dUn (fIsi .tup) (dVar 3)))) (dOr (dTest (dOp rNe (dCB fLen (aCons (dVar 3) aNil)) (dCB fLen (aCons (dOp rIx (dVar 0) (dC (.int 1))) aNil)))) (dNot (dTru (dCB fAll (aCons (dLc (iSeq (dVar 3)) (gN 8) dYes (dCall 1 ph_law_is_whole (aCons (dVar 8) aNil)) [8]) aNil)))))) (dRet (dC .none)) dNext)
    (dSeq (dAsg (dOp rMulN (dLstC (aCons (dC (.int 0)) aNil)) (dOp rIx (dVar 0) (dC (.int 0)))) 4)
    (dSeq (dFor (iZpG false true (aCons (dOp rIx (dVar 0) (dC (.int 1))) (aCons (dVar 3) aNil))) (gT 2 (gsCons (gT 3 (gsCons (gN 5) (gsCons (gN 6) (gsCons (gN 7) gsNil)))) (gsCons (gN 8) gsNil))) (dSeq (dIfS (dTest (dOp wGt (dCB fAbs (aCons (dVar 8) aNil)) (dVar 7))) (dRet (dC .none)) dNext)
    (dAsgG (dTup (aCons (dOp rAdd (dOp rIx (dVar 4) (dVar 5)) (dVar 8)) (aCons (dOp rSub (dOp rIx (dVar 4) (dVar 6)) (dVar 8)) aNil))) (gT 2 (gsCons (gS (dVar 4) (dVar 5)) (gsCons (gS (dVar 4) (dVar 6)) gsNil))))))
    (dSeq (dIfS (dTest (dOp rNe (dLc (iEn (aCons (dVar 4) aNil)) (gT 2 (gsCons (gN 9) (gsCons (gN 10) gsNil))) (dAnd (dTest (dOp (wIn not) (dVar 9) (dTup (aCons (dVar 1) (aCons (dVar 2) aNil))))) (dTest (dOp rNe (dVar 10) (dC (.int 0))))) (dC (.int 1)) [9, 10]) (dLst aNil))) (dRet (dC .none)) dNext)
    (dRet (dOp rIx (dVar 4) (dVar 1)))))))
def ds_law_way : DS := (dSeq (dAsg (dLstC (aCons (dVar 2) aNil)) 4)
    (dSeq (dFor (iRg1 (aCons (dOp rIx (dVar 1) (dC (.int 0))) aNil)) (gN 5) (dSeq (dIfS (dTest (dOp rEq (dOp rIx (dVar 4) (dUn rNeg (dC (.int 1)))) (dVar 3))) (dRet (dVar 4)) dNext)
    (dSeq (dAsg (dLc (iSeq (dOp rIx (dVar 1) (dC (.int 1)))) (gT 3 (gsCons (gN 8) (gsCons (gN 9) (gsCons (gN 10) gsNil)))) (dTest (dOp rEq (dVar 8) (dOp rIx (dVar 4) (dUn rNeg (dC (.int 1)))))) (dVar 9) [8, 9, 10]) 6)
    (dSeq (dAsg (dOp rAdd (dVar 6) (dLc (iSeq (dOp rIx (dVar 1) (dC (.int 1)))) (gT 3 (gsCons (gN 8) (gsCons (gN 9) (gsCons (gN 10) gsNil)))) (dTest (dOp rEq (dVar 9) (dOp rIx (dVar 4) (dUn rNeg (dC (.int 1)))))) (dVar 8) [8, 9, 10])) 6)
    (dSeq (dAsg (dLc (iSeq (dCB fSorted (aCons (dVar 6) aNil))) (gN 8) (dTest (dOp (wIn not) (dVar 8) (dVar 4))) (dVar 8) [8]) 7)
    (dSeq (dIfS (dTest (dOp rEq (dVar 7) (dLst aNil))) (dRet (dC .none)) dNext)
    (dDrop (dMtL mApp (dVar 4) (aCons (dCall 2 WL.ph_law_pick (aCons (dVar 0) (aCons (dVar 7) aNil))) aNil)))))))))
    (dRet (dIf (dTest (dOp rEq (dOp rIx (dVar 4) (dUn rNeg (dC (.int 1)))) (dVar 3))) (dVar 4) (dC .none)))))
def ds_law_along : DS := (dSeq (dAsg (dLstC aNil) 3)
    (dSeq (dFor (iSeq (dOp rIx (dVar 0) (dC (.int 1)))) (gT 3 (gsCons (gN 4) (gsCons (gN 5) (gsCons (gN 6) gsNil)))) (dSeq (dAsg (dC (.int 0)) 7)
    (dSeq (dFor (iZp (aCons (dVar 1) (aCons (dSl (dVar 1) (oSome (dC (.int 1))) oNone) aNil))) (gT 2 (gsCons (gN 8) (gsCons (gN 9) gsNil))) (dSeq (dIfS (dTest (dOp rEq (dTup (aCons (dVar 8) (aCons (dVar 9) aNil))) (dTup (aCons (dVar 4) (aCons (dVar 5) aNil))))) (dAsg (dOp rAdd (dVar 7) (dVar 2)) 7) dNext)
    (dIfS (dTest (dOp rEq (dTup (aCons (dVar 9) (aCons (dVar 8) aNil))) (dTup (aCons (dVar 4) (aCons (dVar 5) aNil))))) (dAsg (dOp rSub (dVar 7) (dVar 2)) 7) dNext)))
    (dDrop (dMtL mApp (dVar 3) (aCons (dVar 7) aNil))))))
    (dRet (dVar 3))))
def ds_law_values : DS := (dSeq (dPar3 4 5 6 (aCons (dCB fLen (aCons (dOp rIx (dVar 1) (dC (.int 1))) aNil)) (aCons (dOp rMulC (dLstC (aCons (dC (.int 0)) aNil)) (dCB fLen (aCons (dOp rIx (dVar 1) (dC (.int 1))) aNil))) (aCons (dC .none) aNil))))
    (dSeq (dAsg (dLstC (aCons (dC .none) (aCons (dC (.int 0)) (aCons (dC (.bool true)) (aCons (dC (.str (PySem.Str.ofString ""))) (aCons (dLst aNil) (aCons (dTup aNil) (aCons dDctD (aCons (dOp rMulA (dTup (aCons (dC (.int 0)) aNil)) (dVar 4)) (aCons (dOp rMulC (dLstC (aCons (dC (.int 0)) aNil)) (dVar 4)) (aCons (dOp rMulA (dTup (aCons (dC (.int 0)) aNil)) (dOp rAdd (dVar 4) (dC (.int 1)))) (aCons (dOp rMulA (dTup (aCons (dC (.int 0)) aNil)) (dOp rSub (dVar 4) (dC (.int 1)))) aNil)))))))))))) 7)
    (dSeq (dFor (iRg1 (aCons (dC (.int 4)) aNil)) (gN 8) (dSeq (dAsg (dCall 4 ph_law_way (aCons (dVar 0) (aCons (dVar 1) (aCons (dVar 2) (aCons (dVar 3) aNil))))) 9)
    (dIfS (dTest (dOp (rIs true) (dVar 9) (dC .none))) (dSeq (dAsg (dCall 3 ph_law_along (aCons (dVar 1) (aCons (dVar 9) (aCons (dOp rAdd (dC (.int 1)) (dCall 2 WL.ph_law_draw (aCons (dVar 0) (aCons (dC (.int 2)) aNil)))) aNil)))) 10)
    (dSeq (dAsg (dLc (iZp (aCons (dVar 5) (aCons (dVar 10) aNil))) (gT 2 (gsCons (gN 13) (gsCons (gN 14) gsNil))) dYes (dOp rAdd (dVar 13) (dVar 14)) [13, 14]) 5)
    (dSeq (dAsg (dIf (dTest (dOp (rIs false) (dVar 6) (dC .none))) (dVar 10) (dVar 6)) 6)
    (dSeq (dDrop (dMtL mApp (dVar 7) (aCons (dCB fTuple (aCons (dLc (iZp (aCons (dVar 10) (aCons (dVar 6) aNil))) (gT 2 (gsCons (gN 13) (gsCons (gN 14) gsNil))) dYes (dOp rSub (dVar 13) (dVar 14)) [13, 14]) aNil)) aNil)))
    (dDrop (dMtL mExt (dVar 7) (aCons (dLst (aCons (dCB fTuple (aCons (dVar 10) aNil)) (aCons (dCB fTuple (aCons (dVar 5) aNil)) (aCons (dCB fList (aCons (dVar 5) aNil)) (aCons (dCB fTuple (aCons (dLc (iSeq (dVar 5)) (gN 15) dYes (dOp rSub (dC (.int 0)) (dVar 15)) [15]) aNil)) aNil))))) aNil))))))) dNext)))
    (dSeq (dAsg (dCall 2 WL.ph_law_draw (aCons (dVar 0) (aCons (dVar 4) aNil))) 11)
    (dSeq (dFor (iSeq (dLst (aCons (dC (.int 1)) (aCons (dUn rNeg (dC (.int 1))) (aCons (dC (.int 20)) (aCons (dC (.int 21)) (aCons (dC (.bool true)) (aCons (dC .none) (aCons (dC (.str (PySem.Str.ofString "0"))) aNil))))))))) (gN 12) (dDrop (dMtL mApp (dVar 7) (aCons (dOp rAdd (dOp rAdd (dOp rMulA (dTup (aCons (dC (.int 0)) aNil)) (dVar 11)) (dTup (aCons (dVar 12) aNil))) (dOp rMulA (dTup (aCons (dC (.int 0)) aNil)) (dOp rSub (dOp rSub (dVar 4) (dVar 11)) (dC (.int 1))))) aNil))))
    (dSeq (dDrop (dMtL mApp (dVar 7) (aCons (dCB fTuple (aCons (dLc (iSeq (dOp rIx (dVar 1) (dC (.int 1)))) (gT 3 (gsCons (gN 13) (gsCons (gN 14) (gsCons (gN 16) gsNil)))) dYes (dVar 16) [13, 14, 16]) aNil)) aNil)))
    (dRet (dVar 7))))))))
def ds_law_right : DS := (dSeq (dAsg (dCall 3 ph_law_web (aCons (dVar 0) (aCons (dC (.int 4)) (aCons (dC (.int 3)) aNil)))) 1)
    (dSeq (dAsgG (dTup (aCons (dCall 1 ph_law_told (aCons (dVar 1) aNil)) (aCons (dCall 2 ph_law_two (aCons (dVar 0) (aCons (dOp rIx (dVar 1) (dC (.int 0))) aNil))) aNil))) (gT 2 (gsCons (gN 2) (gsCons (gT 2 (gsCons (gN 3) (gsCons (gN 4) gsNil))) gsNil))))
    (dSeq (dAsg (dCall 3 ph_law_least (aCons (dVar 1) (aCons (dVar 3) (aCons (dVar 4) aNil)))) 5)
    (dSeq (dFor (iSeq (dCall 4 ph_law_values (aCons (dVar 0) (aCons (dVar 1) (aCons (dVar 3) (aCons (dVar 4) aNil)))))) (gN 6) (dSeq (dPar 7 8 (aCons (dCB fRepr (aCons (dVar 6) aNil)) (aCons (dCall 4 ph_law_value (aCons (dVar 1) (aCons (dVar 3) (aCons (dVar 4) (aCons (dVar 6) aNil))))) aNil)))
    (dSeq (dAsg (dLst (aCons (dCall 4 ph_is_flow (aCons (dVar 2) (aCons (dVar 3) (aCons (dVar 4) (aCons (dVar 6) aNil))))) (aCons (dCallK 0 [3, 2, 1, 0] 4 ph_is_greatest aNil (aCons (dVar 6) (aCons (dVar 4) (aCons (dVar 3) (aCons (dVar 2) aNil))))) aNil))) 9)
    (dSeq (dIfS (dOr (dTest (dOp rNe (dCB fRepr (aCons (dVar 9) aNil)) (dCB fRepr (aCons (dLst (aCons (dOp (rIs true) (dVar 8) (dC .none)) (aCons (dOp rEq (dVar 8) (dVar 5)) aNil))) aNil)))) (dTest (dOp rNe (dCB fRepr (aCons (dVar 6) aNil)) (dVar 7)))) (dRet (dC (.bool false))) dNext)
    (dIfS (dAnd (dTest (dOp (rIs true) (dVar 8) (dC .none))) (dTest (dOp rNe (dCallK 3 [0] 4 ph_value_of (aCons (dVar 2) (aCons (dVar 3) (aCons (dVar 4) aNil))) (aCons (dVar 6) aNil)) (dVar 8)))) (dRet (dC (.bool false))) dNext)))))
    (dRet (dC (.bool true)))))))
def ds_law : DS := (dRet (dCall 1 ph_law_right (aCons (dCall 2 WL.ph_law_pot (aCons (dVar 0) (aCons (dC (.int 0)) aNil))) aNil)))
end K27
namespace K27
open PySem PySem.Spec PyProof.Rows L2 Evl DL
open WL
theorem pu_law_pot : Pure ["script", "k", "cell"] 2 WL.ph_law_pot ds_law_pot := by
  intro ss μ Q' hl h
  obtain ⟨ns, k, rfl, hk, h⟩ := h
  obtain ⟨ms, e1, _, _⟩ := cut_map PyData.int ns none (some 1)
  have es : ∀ (v : Option Sl) (Q : DQ), dSl (dVar 0) oNone (oSome (dC (PyData.int 1))) [some (Sl.dat (PyData.list (List.map PyData.int ns))), some (Sl.dat (PyData.int k)), v] μ Q = Q (.dat (.list (ms.map PyData.int))) μ := fun v Q => by
    show rSl (.dat (.list (ns.map PyData.int))) none (some 1) μ Q = _
    simp only [rSl, e_rdD, e1, e_isVd, e_mkF]
  have c1 : CMulW 659 k := (sm_of (k := 40) (by decide) (by decide)).cmul (sm_of (k := 40) hk.1 (by omega)) (by decide) (by decide)
  have c2 : CMulW 193 k := (sm_of (k := 40) (by decide) (by decide)).cmul (sm_of (k := 40) hk.1 (by omega)) (by decide) (by decide)
  have c3 : ∀ z : Int, CMulW (z.fmod 2147483549) 1439 := fun z => by
    have f := fmod_lt (a := z) (b := 2147483549) (by decide)
    exact (sm_of (k := 40) f.1 (by omega)).cmul (sm_of (k := 40) (by decide) (by decide)) (by decide) (by decide)
  by_cases c : k < ns.length
  · obtain ⟨x, hx⟩ : ∃ x, atI (ns.map PyData.int) k = some (.int x) := by
      obtain ⟨d, hd, e⟩ := atI_lt (ds := ns.map PyData.int) hk.1 (by simpa using c)
      obtain ⟨x, _, rfl⟩ := List.mem_map.mp hd
      exact ⟨x, e⟩
    simp [ds_law_pot, startD, cp18, c, rix_l hx, o_finC, es, c1, c2, c3]
    exact .inr (pot_fin (by decide) h)
  · simp [ds_law_pot, startD, cp18, c, o_finC, es, c1, c2, c3]
    exact .inr (pot_fin (by decide) h)
theorem pu_law_draw : Pure ["pot", "many", "digit"] 2 WL.ph_law_draw ds_law_draw := draw_gen2 (c1 := 40692) (c2 := 263) (m1 := 2147483399) (m2 := 2147483323) (d := 17) (by constructor <;> decide)
theorem pu_are_integers : Pure ["value", "number"] 1 ph_are_integers ds_are_integers := by
  intro ss μ Q' hl h
  obtain ⟨ds, rfl, hd, h⟩ := h
  obtain ⟨C, c0, c1, ci⟩ := iSeq_ok (i := 0) (ρ := [some (.dat (.tuple ds)), none]) (μ := μ) rfl (Sq.dt (ds := ds))
  have L := fun Q => lc_map (g := gN 1) (e := dCall 1 WL.ph_is_integer (aCons (dVar 1) aNil)) (vs := [1]) (Q := Q) (fun d => PyData.bool (isW d)) ci (fun _ => c1 _) (sz hd) (fun x hx acc R => by
    simp [wipeD])
  have e : (ds.map fun d => PyData.bool (isW d)) = (ds.map isW).map PyData.bool := by rw [List.map_map]; rfl
  rw [e] at L
  have e2 : (ds.map isW).all id = ds.all isW := by rw [List.all_map]; rfl
  simpa [ds_are_integers, startD, L, e2, -List.map_map, -List.all_map] using h
theorem zw_ties {ts : List T3} {xs : List Int} : List.zipWith (fun d e => PyData.tuple [d, e]) (ts.map tieD) (xs.map PyData.int) = (ts.zip xs).map fun z => PyData.tuple [tieD z.1, .int z.2] := by
  rw [List.zipWith_map, ← List.map_uncurry_zip_eq_zipWith]
  rfl
def zD (z : T3 × Int) : PyData := .tuple [tieD z.1, .int z.2]
theorem zip_ci {ts : List T3} {xs : List Int} {a b : DE} {ρ : Rho} {μ : Mu} (h1 : ∀ R : DQ, a ρ μ R = R (.dat (tiesD ts)) μ) (h2 : ∀ R : DQ, b ρ μ R = R (.dat (rowI xs)) μ) (R : List Sl → (Mu → Prop) → Mu → Prop) :
    iZp (aCons a (aCons b aNil)) ρ μ R = R (((ts.zip xs).map zD).map .dat) (fun _ => True) μ := by
  have : (ts.zip xs).map zD = List.zipWith (fun d e => PyData.tuple [d, e]) (ts.map tieD) (xs.map PyData.int) := zw_ties.symm
  rw [this]
  unfold tiesD at h1
  unfold rowI at h2
  simp only [iZp, e_aCons, e_aNil, h1, h2, e_rdD, zipS_dat]
theorem goes_lc {n : Int} {ts : List T3} {xs : List Int} {p : Int} {f : T3 → Int} {j : Int} {v : Option Sl} {μ : Mu} {Q : DQ} (hf : ∀ (t : T3) (μ : Mu) (Q : DQ), DL.rIx (.dat (tieD t)) (.dat (.int j)) μ Q = Q (.dat (.int (f t))) μ) (hl : ts.length ≤ 100) :
    dLc (iZp (aCons (dOp DL.rIx (dVar 0) (dC (.int 2))) (aCons (dVar 1) aNil))) (gT 2 (gsCons (gN 4) (gsCons (gN 5) gsNil))) (dTest (dOp DL.rEq (dOp DL.rIx (dVar 4) (dC (.int j))) (dVar 2))) (dVar 5) [4, 5] [some (.dat (webD n ts)), some (.dat (rowI xs)), some (.dat (.int p)), v, none, none] μ Q
      = Q (.dat (.list ((((ts.zip xs).filter fun z => decide (f z.1 = p)).map (·.2)).map PyData.int))) μ := by
  refine (lc_gen (β := Unit) zD (fun z => decide (f z.1 = p)) (fun z => .int z.2) (zip_ci (ts := ts) (xs := xs) (fun R => by simp) (fun R => by simp)) (fun _ => trivial) (sz (by rw [List.length_zip]; omega)) (fun z hz acc R => by
    simp [wipeD, zD, hf])).trans ?_
  rw [List.map_map]
  rfl
theorem pu_more_away : Pure ["web", "flow", "place", "away", "tie", "much"] 3 ph_more_away ds_more_away := by
  intro ss μ Q' hl h
  obtain ⟨n, ts, xs, p, rfl, ht, h⟩ := h
  have L1 := fun v Q => goes_lc (n := n) (xs := xs) (p := p) (f := (·.1)) (j := 0) (v := v) (μ := μ) (Q := Q) (fun _ _ _ => ix_t0) ht
  have L2 := fun v Q => goes_lc (n := n) (xs := xs) (p := p) (f := (·.2.1)) (j := 1) (v := v) (μ := μ) (Q := Q) (fun _ _ _ => ix_t1) ht
  simpa [ds_more_away, startD, L1, L2, awayI, goes, -List.map_map] using h
end K27
namespace WL
open PySem PySem.Spec PyProof.Rows L2 Evl DL
open K27 (awayI goes zD zw_ties)
section
variable {n : Int} {ts : List T3} {μ : Mu} {Q : DQ}
end
theorem zipE_ci {ts : List T3} {s : Sl} {xs : List Int} (hs : Sq1 s xs) {a b : DE} {ρ : Rho} {μ : Mu} (h1 : ∀ R : DQ, a ρ μ R = R (.dat (tiesD ts)) μ) (h2 : ∀ R : DQ, b ρ μ R = R s μ) : ∃ C : Mu → Prop, (∀ ν, C ν) ∧ ∀ R : List Sl → (Mu → Prop) → Mu → Prop, iZpE (aCons a (aCons b aNil)) ρ μ R = R (((ts.zip xs).map zD).map .dat) C μ := by
  have e : (ts.zip xs).map zD = List.zipWith (fun d e => PyData.tuple [d, e]) (ts.map tieD) (xs.map PyData.int) := zw_ties.symm
  obtain ⟨w, sw, cw⟩ : ∃ w, s = .dat (seqR w (xs.map PyData.int)) ∧ ∀ w' ds, seqR w (xs.map PyData.int) = seqR w' ds → w' = w ∧ ds = xs.map PyData.int := by
    rcases hs with rfl | rfl
    · refine ⟨true, rfl, fun w' ds z => ?_⟩
      cases w' <;> simp only [seqR, if_true, Bool.false_eq_true, if_false] at z
      · cases z
      · exact ⟨rfl, (PyData.tuple.inj z).symm⟩
    · refine ⟨false, rfl, fun w' ds z => ?_⟩
      cases w' <;> simp only [seqR, if_true, Bool.false_eq_true, if_false] at z
      · exact ⟨rfl, (PyData.list.inj z).symm⟩
      · cases z
  subst sw
  have cv : ∀ w' ds, seqR true (ts.map tieD) = seqR w' ds → w' = true ∧ ds = ts.map tieD := fun w' ds z => by
    cases w' <;> simp only [seqR, if_true, Bool.false_eq_true, if_false] at z
    · cases z
    · exact ⟨rfl, (PyData.tuple.inj z).symm⟩
  refine ⟨fun ν => rd ν (.dat (tiesD ts)) = some (seqR true (ts.map tieD)) ∧ rd ν (.dat (seqR w (xs.map PyData.int))) = some (seqR w (xs.map PyData.int)), fun ν => ⟨rfl, rfl⟩, fun R => propext ⟨fun ⟨t, u, h⟩ => ?_, fun h => ⟨true, w, ?_⟩⟩⟩
  · unfold iZpG at h
    simp only [e_aCons, e_aNil, h1, h2] at h
    obtain ⟨ds, es, q1, q2, h⟩ := h
    obtain ⟨rfl, rfl⟩ := cv t ds (Option.some.inj q1)
    obtain ⟨rfl, rfl⟩ := cw u es (Option.some.inj q2)
    rw [e]
    have z : zipS (.dat (tiesD ts)) (.dat (seqR u (xs.map PyData.int))) (ts.map tieD) (xs.map PyData.int) = _ := zipS_dat
    rw [z] at h
    exact h
  · unfold iZpG
    simp only [e_aCons, e_aNil, h1, h2]
    refine ⟨ts.map tieD, xs.map PyData.int, rfl, rfl, ?_⟩
    rw [e] at h
    have z : zipS (.dat (tiesD ts)) (.dat (seqR w (xs.map PyData.int))) (ts.map tieD) (xs.map PyData.int) = _ := zipS_dat
    rw [z]
    exact h
theorem goesE {n : Int} {ts : List T3} {s : Sl} {xs : List Int} (hs : Sq1 s xs) {p : Int} {f : T3 → Int} {j : Int} {v : Option Sl} {μ : Mu} {Q : DQ} (hf : ∀ (t : T3) (μ : Mu) (Q : DQ), DL.rIx (.dat (tieD t)) (.dat (.int j)) μ Q = Q (.dat (.int (f t))) μ) (hl : ts.length ≤ 100) :
    dLc (iZpE (aCons (dOp DL.rIx (dVar 0) (dC (.int 2))) (aCons (dVar 1) aNil))) (gT 2 (gsCons (gN 4) (gsCons (gN 5) gsNil))) (dTest (dOp DL.rEq (dOp DL.rIx (dVar 4) (dC (.int j))) (dVar 2))) (dVar 5) [4, 5] [some (.dat (webD n ts)), some s, some (.dat (.int p)), v, none, none] μ Q
      = Q (.dat (.list ((((ts.zip xs).filter fun z => decide (f z.1 = p)).map (·.2)).map PyData.int))) μ := by
  obtain ⟨C, hC, ci⟩ := zipE_ci (ts := ts) hs (a := dOp DL.rIx (dVar 0) (dC (.int 2))) (b := dVar 1) (ρ := [some (.dat (webD n ts)), some s, some (.dat (.int p)), v, none, none]) (μ := μ) (fun R => by simp) (fun R => by simp)
  refine (lc_gen (β := Unit) zD (fun z => decide (f z.1 = p)) (fun z => .int z.2) ci (fun _ => hC _) (sz (by rw [List.length_zip]; omega)) (fun z hz acc R => by
    simp [wipeD, zD, hf])).trans ?_
  rw [List.map_map]
  rfl
theorem pu_more_away : Pure ["web", "flow", "place", "away", "tie", "much"] 3 ph_more_away ds_more_away := by
  intro ss μ Q' hl h
  obtain ⟨n, ts, s, xs, p, rfl, hs, ht, h⟩ := h
  have L1 := fun v Q => goesE (n := n) hs (p := p) (f := (·.1)) (j := 0) (v := v) (μ := μ) (Q := Q) (fun _ _ _ => ix_t0) ht
  have L2 := fun v Q => goesE (n := n) hs (p := p) (f := (·.2.1)) (j := 1) (v := v) (μ := μ) (Q := Q) (fun _ _ _ => ix_t1) ht
  simpa [ds_more_away, startD, L1, L2, awayI, goes, -List.map_map] using h
end WL
namespace K52
open PySem PySem.Spec PyProof.Rows L2 Evl DL
def ds_is_listed : DS := (dRet (dUn (fIsi2 .lst .tup) (dVar 0)))
def ds_are_integers : DS := (dRet (dCB fAll (aCons (dLc (iSeq (dVar 0)) (gN 1) dYes (dCall 1 WL.ph_is_integer (aCons (dVar 1) aNil)) [1]) aNil)))
def ds_more_away : DS := (dSeq (dAsg (dCB fSum (aCons (dLc (iZp (aCons (dOp rIx (dVar 0) (dC (.int 2))) (aCons (dVar 1) aNil))) (gT 2 (gsCons (gN 4) (gsCons (gN 5) gsNil))) (dTest (dOp rEq (dOp rIx (dVar 4) (dC (.int 0))) (dVar 2))) (dVar 5) [4, 5]) aNil)) 3)
    (dRet (dOp rSub (dVar 3) (dCB fSum (aCons (dLc (iZp (aCons (dOp rIx (dVar 0) (dC (.int 2))) (aCons (dVar 1) aNil))) (gT 2 (gsCons (gN 4) (gsCons (gN 5) gsNil))) (dTest (dOp rEq (dOp rIx (dVar 4) (dC (.int 1))) (dVar 2))) (dVar 5) [4, 5]) aNil)))))
def ds_is_surplus : DS := (dRet (dAndV (dCall 1 ph_is_listed (aCons (dVar 1) aNil)) (dAndV (dOp rEq (dCB fLen (aCons (dVar 1) aNil)) (dOp rIx (dVar 0) (dC (.int 1)))) (dAndV (dCall 1 ph_are_integers (aCons (dVar 1) aNil)) (dOp rEq (dCB fSumLT (aCons (dVar 1) aNil)) (dC (.int 0)))))))
def ds_check_surplus : DS := (dIfS (dNot (dTru (dCall 2 ph_is_surplus (aCons (dVar 0) (aCons (dVar 1) aNil))))) dNever dNext)
def ds_is_turning : DS := (dSeq (dDrop (dCall 1 WL.ph_check_web (aCons (dVar 0) aNil)))
    (dSeq (dIfS (dOr (dNot (dTru (dCall 2 WL.ph_is_tuple_of (aCons (dVar 1) (aCons (dCB fLen (aCons (dOp rIx (dVar 0) (dC (.int 2))) aNil)) aNil))))) (dNot (dTru (dCall 1 ph_are_integers (aCons (dVar 1) aNil))))) (dRet (dC (.bool false))) dNext)
    (dRet (dCB fAll (aCons (dLc (iZp (aCons (dOp rIx (dVar 0) (dC (.int 2))) (aCons (dVar 1) aNil))) (gT 2 (gsCons (gN 2) (gsCons (gN 3) gsNil))) dYes (dAndV (dOp wLe (dCB fAbs (aCons (dVar 3) aNil)) (dOp rIx (dVar 2) (dC (.int 2)))) (dOp rEq (dOp rMd (dOp rSub (dOp rIx (dVar 2) (dC (.int 2))) (dVar 3)) (dC (.int 2))) (dC (.int 0)))) [2, 3]) aNil)))))
def ds_surplus_by : DS := (dRet (dLc (iRg1 (aCons (dOp rIx (dVar 0) (dC (.int 1))) aNil)) (gN 2) dYes (dCall 3 ph_more_away (aCons (dVar 0) (aCons (dVar 1) (aCons (dVar 2) aNil)))) [2]))
def ds_is_turned : DS := (dSeq (dDrop (dCall 1 WL.ph_check_web (aCons (dVar 0) aNil)))
    (dSeq (dDrop (dCall 2 ph_check_surplus (aCons (dVar 0) (aCons (dVar 1) aNil))))
    (dRet (dAndV (dCall 2 ph_is_turning (aCons (dVar 0) (aCons (dVar 2) aNil))) (dOp rEq (dCall 2 ph_surplus_by (aCons (dVar 0) (aCons (dVar 2) aNil))) (dCB fList (aCons (dVar 1) aNil)))))))
def ds_law_pot : DS := (dSeq (dAsg (dOp rAdd (dOp rMul (dC (.int 1249)) (dVar 1)) (dC (.int 929))) 2)
    (dSeq (dIfS (dTest (dOp wLt (dVar 1) (dCB fLen (aCons (dVar 0) aNil)))) (dAsg (dCB fAbs (aCons (dOp rIx (dVar 0) (dVar 1)) aNil)) 2) dNext)
    (dRet (dLstC (aCons (dCB fMax2 (aCons (dC (.int 0)) (aCons (dOp rSub (dVar 2) (dOp rPw (dC (.int 10)) (dC (.int 18)))) aNil))) (aCons (dOp rAdd (dOp rMd (dCB fInt (aCons (dOp rAdd (dOp rMul (dOp rMd (dCB fInt (aCons (dVar 2) aNil)) (dC (.int 2147483549))) (dOp rAdd (dOp rMul (dC (.int 2)) (dVar 1)) (dC (.int 881)))) (dC (.int 1693))) aNil)) (dC (.int 2147483543))) (dC (.int 1))) aNil))))))
def ds_law_draw : DS := (dSeq (dIfS (dTest (dOp wGt (dOp rIx (dVar 0) (dC (.int 0))) (dC (.int 0)))) (dSeq (dAsgG (dCB fDm (aCons (dOp rIx (dVar 0) (dC (.int 0))) (aCons (dVar 1) aNil))) (gT 2 (gsCons (gS (dVar 0) (dC (.int 0))) (gsCons (gN 2) gsNil))))
    (dRet (dVar 2))) dNext)
    (dSeq (dAsgG (dOp rMd (dCB fInt (aCons (dOp rAdd (dOp rMul (dOp rIx (dVar 0) (dC (.int 1))) (dC (.int 48271))) (dC (.int 19211))) aNil)) (dC (.int 2147483587))) (gS (dVar 0) (dC (.int 1))))
    (dRet (dOp rMd (dCB fInt (aCons (dOp rDv (dOp rMd (dCB fInt (aCons (dOp rMul (dOp rIx (dVar 0) (dC (.int 1))) (dOp rIx (dVar 0) (dC (.int 1)))) aNil)) (dC (.int 2147483549))) (dC (.int 13))) aNil)) (dVar 1)))))
def ds_law_web : DS := (dSeq (dPar 4 5 (aCons (dOp rAdd (dVar 1) (dCall 2 WL.ph_law_draw (aCons (dVar 0) (aCons (dOp rAdd (dOp rSub (dVar 2) (dVar 1)) (dC (.int 1))) aNil)))) (aCons (dLstC aNil) aNil)))
    (dSeq (dFor (iRg2 (aCons (dC (.int 1)) (aCons (dVar 4) aNil))) (gN 6) (dDrop (dMtL mApp (dVar 5) (aCons (dTup (aCons (dCall 2 WL.ph_law_draw (aCons (dVar 0) (aCons (dVar 6) aNil))) (aCons (dVar 6) (aCons (dOp rAdd (dC (.int 1)) (dCall 2 WL.ph_law_draw (aCons (dVar 0) (aCons (dVar 3) aNil)))) aNil)))) aNil))))
    (dSeq (dFor (iRg1 (aCons (dCall 2 WL.ph_law_draw (aCons (dVar 0) (aCons (dC (.int 4)) aNil))) aNil)) (gN 7) (dSeq (dPar3 8 9 10 (aCons (dCall 2 WL.ph_law_draw (aCons (dVar 0) (aCons (dVar 4) aNil))) (aCons (dCall 2 WL.ph_law_draw (aCons (dVar 0) (aCons (dVar 4) aNil))) (aCons (dOp rAdd (dC (.int 1)) (dCall 2 WL.ph_law_draw (aCons (dVar 0) (aCons (dVar 3) aNil)))) aNil))))
    (dIfS (dAnd (dTest (dOp wLt (dVar 8) (dVar 9))) (dTest (dOp (wIn not) (dTup (aCons (dVar 8) (aCons (dVar 9) aNil))) (dLc (iSeq (dVar 5)) (gN 11) dYes (dSl (dVar 11) oNone (oSome (dC (.int 2)))) [11])))) (dDrop (dMtL mApp (dVar 5) (aCons (dTup (aCons (dVar 8) (aCons (dVar 9) (aCons (dVar 10) aNil)))) aNil))) dNext)))
    (dRet (dTup (aCons (dC (.str (PySem.Str.ofString "web"))) (aCons (dVar 4) (aCons (dCB fTuple (aCons (dCB fSorted (aCons (dVar 5) aNil)) aNil)) aNil))))))))
def ds_law_surplus : DS := (dSeq (dAsg (dOp rMulN (dLstC (aCons (dC (.int 0)) aNil)) (dOp rIx (dVar 0) (dC (.int 1)))) 2)
    (dSeq (dFor (iZp (aCons (dOp rIx (dVar 0) (dC (.int 2))) (aCons (dVar 1) aNil))) (gT 2 (gsCons (gT 3 (gsCons (gN 3) (gsCons (gN 4) (gsCons (gN 5) gsNil)))) (gsCons (gN 6) gsNil))) (dAsgG (dTup (aCons (dOp rAdd (dOp rIx (dVar 2) (dVar 3)) (dVar 6)) (aCons (dOp rSub (dOp rIx (dVar 2) (dVar 4)) (dVar 6)) aNil))) (gT 2 (gsCons (gS (dVar 2) (dVar 3)) (gsCons (gS (dVar 2) (dVar 4)) gsNil)))))
    (dRet (dVar 2))))
def ds_law_is_integer : DS := (dRet (dAndV (dUn (fIsi .int) (dVar 0)) (dNotV (dUn (fIsi .bool) (dVar 0)))))
def ds_law_is_turning : DS := (dSeq (dIfS (dOr (dNot (dTru (dUn (fIsi .tup) (dVar 1)))) (dOr (dTest (dOp rNe (dCB fLen (aCons (dVar 1) aNil)) (dCB fLen (aCons (dOp rIx (dVar 0) (dC (.int 2))) aNil)))) (dNot (dTru (dCB fAll (aCons (dLc (iSeq (dVar 1)) (gN 2) dYes (dCall 1 ph_law_is_integer (aCons (dVar 2) aNil)) [2]) aNil)))))) (dRet (dC (.bool false))) dNext)
    (dRet (dCB fAll (aCons (dLc (iZp (aCons (dVar 1) (aCons (dOp rIx (dVar 0) (dC (.int 2))) aNil))) (gT 2 (gsCons (gN 3) (gsCons (gN 4) gsNil))) dYes (dAndV (dOp wLe (dCB fAbs (aCons (dVar 3) aNil)) (dOp rIx (dVar 4) (dC (.int 2)))) (dOp rEq (dOp rMd (dOp rSub (dVar 3) (dOp rIx (dVar 4) (dC (.int 2)))) (dC (.int 2))) (dC (.int 0)))) [3, 4]) aNil))))
def ds_law_bent : DS := (dSeq (dPar 2 3 (aCons (dOp rMd (dCall 2 WL.ph_law_draw (aCons (dVar 0) (aCons (dC (.int 12)) aNil))) (dCB fLen (aCons (dVar 1) aNil))) (aCons (dCall 2 WL.ph_law_draw (aCons (dVar 0) (aCons (dC (.int 6)) aNil))) aNil)))
    (dSeq (dIfS (dTest (dOp rEq (dVar 3) (dC (.int 0)))) (dRet (dOp rAdd (dSl (dVar 1) oNone (oSome (dVar 2))) (dSl (dVar 1) (oSome (dOp rAdd (dVar 2) (dC (.int 1)))) oNone))) dNext)
    (dSeq (dIfS (dTest (dOp rEq (dVar 3) (dC (.int 1)))) (dRet (dOp rAdd (dVar 1) (dSl (dVar 1) (oSome (dVar 2)) (oSome (dOp rAdd (dVar 2) (dC (.int 1))))))) dNext)
    (dSeq (dIfS (dTest (dOp rEq (dVar 3) (dC (.int 2)))) (dRet (dCB fList (aCons (dVar 1) aNil))) dNext)
    (dSeq (dAsg (dCall 2 WL.ph_law_pick (aCons (dVar 0) (aCons (dLst (aCons (dC .none) (aCons (dC (.bool true)) (aCons (dC (.bool false)) (aCons (dC (.str (PySem.Str.ofString "0"))) (aCons (dLst aNil) (aCons (dOp rAdd (dOp rIx (dVar 1) (dVar 2)) (dC (.int 1))) (aCons (dOp rAdd (dOp rIx (dVar 1) (dVar 2)) (dC (.int 2))) (aCons (dOp rSub (dOp rIx (dVar 1) (dVar 2)) (dC (.int 2))) (aCons (dOp rSub (dC (.int 0)) (dOp rIx (dVar 1) (dVar 2))) (aCons (dC (.int 0)) (aCons (dC (.int 1)) (aCons (dOp rPw (dC (.int 10)) (dC (.int 9))) aNil))))))))))))) aNil))) 4)
    (dRet (dOp rAdd (dOp rAdd (dSl (dVar 1) oNone (oSome (dVar 2))) (dTup (aCons (dVar 4) aNil))) (dSl (dVar 1) (oSome (dOp rAdd (dVar 2) (dC (.int 1)))) oNone))))))))
def ds_law : DS := (dSeq (dAsg (dCall 2 WL.ph_law_pot (aCons (dVar 0) (aCons (dC (.int 0)) aNil))) 1)
    (dSeq (dPar 2 3 (aCons (dCall 4 ph_law_web (aCons (dVar 1) (aCons (dC (.int 2)) (aCons (dC (.int 4)) (aCons (dC (.int 4)) aNil))))) (aCons (dTup aNil) aNil)))
    (dSeq (dFor (iSeq (dOp rIx (dVar 2) (dC (.int 2)))) (gT 3 (gsCons (gN 4) (gsCons (gN 5) (gsCons (gN 6) gsNil)))) (dAsg (dOp rAdd (dVar 3) (dTup (aCons (dOp rSub (dVar 6) (dOp rMul (dC (.int 2)) (dCall 2 WL.ph_law_draw (aCons (dVar 1) (aCons (dOp rAdd (dVar 6) (dC (.int 1))) aNil))))) aNil))) 3))
    (dSeq (dAsg (dCall 2 ph_law_surplus (aCons (dVar 2) (aCons (dVar 3) aNil))) 7)
    (dSeq (dAsg (dLstC (aCons (dVar 3) (aCons (dC .none) (aCons (dC (.int 5)) (aCons (dC (.bool true)) (aCons (dC (.str (PySem.Str.ofString ""))) (aCons (dTup aNil) (aCons (dLst aNil) (aCons dDctD (aCons (dCB fTuple (aCons (dVar 7) aNil)) (aCons (dOp rMulA (dTup (aCons (dC (.int 0)) aNil)) (dCB fLen (aCons (dVar 3) aNil))) (aCons (dOp rMulA (dTup (aCons (dC .none) aNil)) (dCB fLen (aCons (dVar 3) aNil))) (aCons (dCB fTuple (aCons (dLc (iSeq (dVar 3)) (gN 4) dYes (dOp rSub (dC (.int 0)) (dVar 4)) [4]) aNil)) aNil))))))))))))) 8)
    (dSeq (dFor (iRg1 (aCons (dC (.int 10)) aNil)) (gN 9) (dDrop (dMtL mApp (dVar 8) (aCons (dCall 2 ph_law_bent (aCons (dVar 1) (aCons (dVar 3) aNil))) aNil))))
    (dSeq (dFor (iSeq (dVar 8)) (gN 10) (dSeq (dPar 11 12 (aCons (dCB fRepr (aCons (dVar 10) aNil)) (aCons (dCall 2 ph_law_is_turning (aCons (dVar 2) (aCons (dVar 10) aNil))) aNil)))
    (dSeq (dAsg (dAndV (dVar 12) (dOp rEq (dCall 2 ph_law_surplus (aCons (dVar 2) (aCons (dVar 10) aNil))) (dVar 7))) 13)
    (dSeq (dAsg (dLst (aCons (dCall 2 ph_is_turning (aCons (dVar 2) (aCons (dVar 10) aNil))) (aCons (dCall 3 ph_is_turned (aCons (dVar 2) (aCons (dVar 7) (aCons (dVar 10) aNil)))) (aCons (dCallK 0 [2, 1, 0] 3 ph_is_turned aNil (aCons (dVar 10) (aCons (dCB fTuple (aCons (dVar 7) aNil)) (aCons (dVar 2) aNil)))) aNil)))) 14)
    (dSeq (dIfS (dOr (dTest (dOp rNe (dCB fRepr (aCons (dVar 14) aNil)) (dCB fRepr (aCons (dLst (aCons (dVar 12) (aCons (dVar 13) (aCons (dVar 13) aNil)))) aNil)))) (dTest (dOp rNe (dCB fRepr (aCons (dVar 10) aNil)) (dVar 11)))) (dRet (dC (.bool false))) dNext)
    (dIfS (dTest (dOp rNe (dCall 2 ph_law_heard (aCons (dVar 2) (aCons (dVar 10) aNil))) (dIf (dTru (dVar 12)) (dCall 2 ph_law_surplus (aCons (dVar 2) (aCons (dVar 10) aNil))) (dVar 11)))) (dRet (dC (.bool false))) dNext))))))
    (dRet (dC (.bool true))))))))))
end K52
namespace K27
open PySem PySem.Spec PyProof.Rows L2 Evl DL
open WL
section
variable {μ : Mu} {Q : DQ} {n p q : Int} {ts : List T3} {d : PyData} {xs : List Int} {ds : List PyData}
theorem c_more_away : ph_more_away [.dat (webD n ts), .dat (rowI xs), .dat (.int p)] μ Q = (ts.length ≤ 100 ∧ Q (.dat (.int (awayI ts xs p))) μ) := propext ⟨fun ⟨_, _, _, _, e, h⟩ => by
  obtain ⟨e1, e2⟩ := dr_inj e
  obtain ⟨rfl, rfl⟩ := webD_inj e1
  obtain ⟨e3, e4⟩ := dr_inj e2
  cases rowI_inj e3
  cases e4
  exact h, fun h => ⟨_, _, _, _, rfl, h⟩⟩
end
theorem intsOf_all : ∀ {ds : List PyData}, (ds.all isW = true → ∃ xs, intsOf ds = some xs ∧ ds = xs.map PyData.int) ∧ (ds.all isW = false → intsOf ds = none)
  | [] => ⟨fun _ => ⟨[], rfl, rfl⟩, fun h => by cases h⟩
  | d :: ds => by
    have ih := @intsOf_all ds
    rw [List.all_cons]
    cases d with
    | int i =>
      refine ⟨fun h => ?_, fun h => ?_⟩
      · obtain ⟨xs, e1, e2⟩ := ih.1 (by simpa [isW] using h)
        exact ⟨i :: xs, by simp [intsOf, e1], by rw [e2, List.map_cons]⟩
      · have := ih.2 (by simpa [isW] using h)
        simp [intsOf, this]
    | _ => exact ⟨fun h => by simp [isW] at h, fun _ => rfl⟩
theorem asRow_row {xs : List Int} : asRow (rowI xs) = some xs := by
  have : ∀ xs : List Int, intsOf (xs.map PyData.int) = some xs := fun xs => by
    induction xs with
    | nil => rfl
    | cons a r ih => simp [intsOf, ih]
  exact this xs
end K27
namespace K27
open PySem PySem.Spec PyProof.Rows L2 Evl DL
open WL
section
variable {μ : Mu} {Q : DQ} {n p q : Int} {ts : List T3} {c : List Int} {k : Nat}
@[simp ↓] theorem ix_o0 : DL.rIx (.dat (ownD n ts)) (.dat (.int 0)) μ Q = Q (.dat (.int n)) μ := ix_0
@[simp ↓] theorem ix_o1 : DL.rIx (.dat (ownD n ts)) (.dat (.int 1)) μ Q = Q (.dat (.list (ts.map tieD))) μ := ix_1
end
end K27
namespace K27
open PySem PySem.Spec PyProof.Rows L2 Evl DL
open WL
section
variable {D : DEnds} {k : Nat} {μ : Mu} {n : Int} {s1 s2 : Option Sl}
theorem webA (hk : k < μ.length) (hn : 2 ≤ n ∧ n ≤ 8)
    (h : ∀ ps v5 ν, At k μ ν ps → Tab n 20 (n - 1).toNat (n - 1).toNat ps → D.nx [some (.cell k), s1, s2, some (.dat (.int n)), some (.cell μ.length), v5, none, none, none] ν) :
    ∀ (m i : Nat) (ps : List E3) (v5 : Option Sl) (ν : Mu), i + m = (n - 1).toNat → At k μ ν ps → Tab n 20 i i ps →
    forD (fun _ => True) (gN 5) (dDPutT (dVar 4) (aCons (dCall 2 WL.ph_law_draw (aCons (dVar 0) (aCons (dVar 5) aNil))) (aCons (dVar 5) aNil)) (dOp DL.rAdd (dC (.int 1)) (dCall 2 WL.ph_law_draw (aCons (dVar 0) (aCons (dC (.int 4)) aNil))))) D
      ((List.range' i m).map fun (j : Nat) => Sl.dat (.int (1 + (j : Int)))) [some (.cell k), s1, s2, some (.dat (.int n)), some (.cell μ.length), v5, none, none, none] ν
  | 0, i, ps, v5, ν, e, ha, ht => by
    have : i = (n - 1).toNat := by omega
    subst this
    exact ⟨trivial, h ps v5 ν ha ht⟩
  | m + 1, i, ps, v5, ν, e, ha, ht => by
    rw [List.range'_succ, List.map_cons]
    refine ⟨trivial, ?_⟩
    simp [ha.pot]
    refine fun x ν1 x0 x1 c1 => ⟨c1.1, by omega, fun y ν2 y0 y1 c2 => ?_⟩
    have h2 := (ha.ch hk c1).ch hk c2
    refine put_tab h2 (by have := ht.len; omega) ?_
    obtain ⟨t1, t2⟩ := ht.put (a := y) (b := 1 + (i : Int)) (r := 1 + x) (by omega) (by omega)
    refine webA hk hn h m (i + 1) _ _ _ (by omega) (h2.put hk) ⟨t1.nd, t1.rg, fun q q1 q2 => ?_, t1.len⟩
    by_cases hq : q ≤ (i : Int)
    · exact t1.all q q1 hq
    · have : q = 1 + (i : Int) := by omega
      subst this
      exact ⟨y, t2⟩
theorem webB {v5 : Option Sl} (hk : k < μ.length) (hn : 2 ≤ n ∧ n ≤ 8) {g : Nat}
    (h : ∀ ps v6 v7 v8 ν c, At k μ ν ps → Tab n 20 (n - 1).toNat c ps → c ≤ (n - 1).toNat + g → D.nx [some (.cell k), s1, s2, some (.dat (.int n)), some (.cell μ.length), v5, v6, v7, v8] ν) (hg : g ≤ 100) :
    ∀ (ts : List Sl) (c : Nat) (ps : List E3) (v6 v7 v8 : Option Sl) (ν : Mu), c + ts.length ≤ (n - 1).toNat + g → At k μ ν ps → Tab n 20 (n - 1).toNat c ps →
    forD (fun _ => True) (gN 6) (dSeq (dPar 7 8 (aCons (dCall 2 WL.ph_law_draw (aCons (dVar 0) (aCons (dVar 3) aNil))) (aCons (dCall 2 WL.ph_law_draw (aCons (dVar 0) (aCons (dVar 3) aNil))) aNil)))
    (dIfS (dTest (dOp DL.rNe (dVar 7) (dVar 8))) (dDPutT (dVar 4) (aCons (dCB fMin2 (aCons (dVar 7) (aCons (dVar 8) aNil))) (aCons (dCB fMax2 (aCons (dVar 7) (aCons (dVar 8) aNil))) aNil)) (dOp DL.rAdd (dC (.int 1)) (dCall 2 WL.ph_law_pick (aCons (dVar 0) (aCons (dLst (aCons (dC (.int 0)) (aCons (dC (.int 1)) (aCons (dC (.int 2)) (aCons (dC (.int 3)) (aCons (dC (.int 19)) aNil)))))) aNil))))) dNext)) D
      ts [some (.cell k), s1, s2, some (.dat (.int n)), some (.cell μ.length), v5, v6, v7, v8] ν
  | [], c, ps, v6, v7, v8, ν, e, ha, ht => ⟨trivial, h ps v6 v7 v8 ν c ha ht (by simpa using e)⟩
  | t :: ts, c, ps, v6, v7, v8, ν, e, ha, ht => by
    rw [List.length_cons] at e
    refine ⟨trivial, ?_⟩
    simp [ha.pot]
    refine ⟨by omega, fun one ν1 o0 o1 c1 => ⟨c1.1, by omega, fun two ν2 x0 x1 c2 => ?_⟩⟩
    have h1 := (ha.ch hk c1).ch hk c2
    by_cases ne : one = two
    · subst ne
      simp
      exact webB hk hn h hg ts c _ _ _ _ _ (by omega) h1 ht
    · simp [ne, c2.1, small_sz]
      intro x ν3 hx c3
      obtain ⟨z, rfl, z0, z1⟩ : ∃ z : Int, x = .int z ∧ 0 ≤ z ∧ z ≤ 19 := by
        rcases hx with rfl | rfl | rfl | rfl | rfl <;> exact ⟨_, rfl, by decide, by decide⟩
      have h3 := h1.ch hk c3
      rcases Int.lt_or_gt_of_ne ne with lt | lt
      · have g : ¬ two < one := by omega
        simp [o_min2, lt, g]
        refine put_tab h3 (by have := ht.len; omega) ?_
        obtain ⟨t1, t2⟩ := ht.put (a := one) (b := two) (r := 1 + z) (by omega) (by omega)
        exact webB hk hn h hg ts (c + 1) _ _ _ _ _ (by omega) (h3.put hk) t1
      · have g : ¬ one < two := by omega
        simp [o_min2, lt, g]
        refine put_tab h3 (by have := ht.len; omega) ?_
        obtain ⟨t1, t2⟩ := ht.put (a := two) (b := one) (r := 1 + z) (by omega) (by omega)
        exact webB hk hn h hg ts (c + 1) _ _ _ _ _ (by omega) (h3.put hk) t1
end
theorem pu_law_web : Pure ["pot", "most", "more", "many", "told", "place", "turn", "one", "other"] 3 ph_law_web ds_law_web := by
  intro ss μ Q' hl h
  obtain ⟨k, rfl, hp, h⟩ := h
  have hk := hp.lt
  simp [ds_law_web, startD, dAsgT, hp, -List.map_map]
  intro x ν1 x0 x1 c1
  have lν := c1.2.1
  rw [lν]
  have hn : 2 ≤ 2 + x ∧ 2 + x ≤ 8 := by omega
  have a0 : At k μ (ν1 ++ [.dctT []]) [] := by
    refine ⟨?_, by rw [List.length_append, lν]; rfl, ?_, fun j hj hk' => ?_⟩
    · obtain ⟨p0, p1, e, q⟩ := c1.1
      exact ⟨p0, p1, by rw [List.getElem?_append_left (by omega)]; exact e, q⟩
    · rw [List.getElem?_append_right (by omega), lν, Nat.sub_self]
      rfl
    · rw [List.getElem?_append_left (by omega)]
      exact c1.2.2 j hk'
  have t0 : Tab (2 + x) 20 0 0 [] := ⟨by simp, (fun e he => by cases he), (fun q h1 h2 => by omega), Nat.zero_le _⟩
  generalize hX : 2 + x = n at *
  simp [dFor, iRg2, -List.map_map]
  refine ⟨by omega, ?_⟩
  unfold rgI
  rw [List.range_eq_range']
  try rw [show n.toNat - 1 = (n - 1).toNat by omega]
  refine webA hk hn (fun ps v5 ν ha ht => ?_) (n - 1).toNat 0 [] none _ (by omega) a0 t0
  simp [dFor, iRg1, ha.pot, -List.map_map]
  refine fun g ν2 g0 g1 c2 => ⟨by omega, ?_⟩
  refine webB hk hn (g := g.toNat) (fun ps v6 v7 v8 ν c ha ht hc => ?_) (by omega) _ (n - 1).toNat ps none none none ν2 (by simp [rgI]) (ha.ch hk c2) ht
  have hlen : ps.length ≤ 14 := by have := ht.len; omega
  obtain ⟨w1, w2⟩ := tiesOf_ok hn (by omega) (by omega) ht
  have ek : keyTs (ps.map kt) = (ps.map (·.1)).map WL.pairD := by
    unfold keyTs
    rw [List.map_map, List.map_map]
    rfl
  have eS : ∀ (Q : DQ), fSortedDT [.cell μ.length] ν Q = Q (.dat (.list (((ps.map (·.1)).mergeSort leP).map WL.pairD))) ν := fun Q => by
    simp only [fSortedDT, ha.tab, ek, sortD_pairs]
    exact propext ⟨fun z => z.2, fun z => ⟨sort_pairs (by rw [List.length_map]; omega), z⟩⟩
  have L := fun Q => lc_call (g := gT 2 (gsCons (gN 7) (gsCons (gN 8) gsNil))) (t := dYes) (e := dTup (aCons (dVar 7) (aCons (dVar 8) (aCons (dOp rDIx (dVar 4) (dTup (aCons (dVar 7) (aCons (dVar 8) aNil)))) aNil)))) (vs := [7, 8]) (μ := ν) (Q := Q) (ρ := [some (.cell k), some (.dat (.int 4)), some (.dat (.int 3)), some (.dat (.int n)), some (.cell μ.length), v5, v6, v7, v8]) (d := dCB fSortedDT (aCons (dVar 4) aNil)) (xs := (ps.map (·.1)).mergeSort leP) WL.pairD (fun _ => true) (fun p => tieD (p.1, p.2, valP ps p)) (fun R => by
    simp [eS, -List.map_map]) (by rw [List.length_mergeSort, List.length_map]; omega) (fun p hp acc R => by
    have hm := valP_mem (List.mem_mergeSort.mp hp)
    have hv := val_kt ht.nd hm
    have hc' : (ν ++ [Cell.lst acc])[μ.length]? = some (.dctT (ps.map kt)) := by
      rw [List.getElem?_append_left (by rw [ha.len]; omega)]
      exact ha.tab
    have ix : ∀ Q : DQ, rDIx (.cell μ.length) (.dat (.tuple [.int p.1, .int p.2])) (ν ++ [Cell.lst acc]) Q = Q (.dat (.int (valP ps p))) (ν ++ [Cell.lst acc]) := fun Q => by
      simp only [rDIx, dictAt, hc']
      refine propext ⟨fun ⟨ds, ks, e1, e2, q⟩ => ?_, fun q => ⟨_, [.inl p.1, .inl p.2], rfl, rfl, ?_⟩⟩
      · cases e1
        cases e2
        simp only [hv] at q
        exact q
      · simp only [hv]
        exact q
    simp [wipeD, dYes, ix, small_sz, WL.pairD, tieD])
  have e2 : (((ps.map (·.1)).mergeSort leP).filter fun _ => true).map (fun p => tieD (p.1, p.2, valP ps p)) = (tiesOf ps).map tieD := by
    rw [List.filter_eq_self.mpr (fun _ _ => rfl)]
    unfold tiesOf
    rw [List.map_map]
    rfl
  rw [e2] at L
  have fin := h n (tiesOf ps) _ w1 (ha.end hk)
  simp [L, small_sz, -List.map_map]
  exact fin
end K27
namespace K27
open PySem PySem.Spec PyProof.Rows L2 Evl DL
open WL
theorem pl_at {β : Type} {n p : Int} (f : Int → β) (h : 0 ≤ p ∧ p < n) : ((placesL n).map f)[p.toNat]? = some (f p) := by
  unfold placesL
  rw [List.map_map, List.getElem?_map, List.getElem?_range (by omega)]
  show some (f ((p.toNat : Nat) : Int)) = _
  rw [Int.toNat_of_nonneg h.1]
theorem pl_set {β : Type} {n i : Int} (f : Int → β) (v : β) (h : 0 ≤ i ∧ i < n) : ((placesL n).map f).set i.toNat v = (placesL n).map fun p => if p = i then v else f p := by
  refine List.ext_getElem? fun j => ?_
  unfold placesL
  rw [List.map_map, List.map_map, List.getElem?_set, List.getElem?_map, List.getElem?_map, List.length_map, List.length_range]
  by_cases hj : j < n.toNat
  · rw [List.getElem?_range hj]
    by_cases e : i.toNat = j
    · rw [if_pos e, if_pos (by omega)]
      show some v = some (if ((j : Nat) : Int) = i then v else _)
      rw [if_pos (by omega)]
    · rw [if_neg e]
      show some (f (j : Int)) = some (if ((j : Nat) : Int) = i then v else f (j : Int))
      rw [if_neg (by omega)]
  · rw [List.getElem?_eq_none (l := List.range n.toNat) (by rw [List.length_range]; omega)]
    by_cases e : i.toNat = j
    · rw [if_pos e, if_neg (by omega)]; rfl
    · rw [if_neg e]; rfl
def awayZ (zs : List (T3 × Int)) (p : Int) : Int := ((zs.filter fun z => decide (z.1.1 = p)).map (·.2)).sum - ((zs.filter fun z => decide (z.1.2.1 = p)).map (·.2)).sum
def fitZ (z : T3 × Int) : Bool := !decide (z.1.2.2 < (if z.2 < 0 then -z.2 else z.2))
def leftZ (n : Int) (zs : List (T3 × Int)) : List PyData := ((placesL n).map (awayZ zs)).map PyData.int
theorem away_snoc (zs : List (T3 × Int)) (z : T3 × Int) (p : Int) : awayZ (zs ++ [z]) p = awayZ zs p + (if z.1.1 = p then z.2 else 0) - (if z.1.2.1 = p then z.2 else 0) := by
  unfold awayZ
  rw [List.filter_append, List.filter_append, List.map_append, List.map_append, List.sum_append, List.sum_append]
  have e : ∀ (b : Bool), (([z].filter fun _ => b).map (·.2)).sum = if b = true then z.2 else 0 := fun b => by cases b <;> simp
  have e1 : (([z].filter fun z => decide (z.1.1 = p)).map (·.2)).sum = if z.1.1 = p then z.2 else 0 := by
    by_cases c : z.1.1 = p <;> simp [c]
  have e2 : (([z].filter fun z => decide (z.1.2.1 = p)).map (·.2)).sum = if z.1.2.1 = p then z.2 else 0 := by
    by_cases c : z.1.2.1 = p <;> simp [c]
  rw [e1, e2]
  omega
theorem left_len {n : Int} {zs : List (T3 × Int)} : (leftZ n zs).length = n.toNat := by
  unfold leftZ placesL
  rw [List.length_map, List.length_map, List.length_map, List.length_range]
theorem left_at {n : Int} {zs : List (T3 × Int)} {p : Int} (h : 0 ≤ p ∧ p < n) : atI (leftZ n zs) p = some (.int (awayZ zs p)) := by
  have := atI_nat (xs := leftZ n zs) (j := p.toNat) (v := .int (awayZ zs p)) (by
    unfold leftZ
    rw [List.map_map]
    exact pl_at (fun p => PyData.int (awayZ zs p)) h)
  rw [Int.toNat_of_nonneg h.1] at this
  exact this
theorem left_step {n : Int} {zs : List (T3 × Int)} {z : T3 × Int} (h1 : 0 ≤ z.1.1 ∧ z.1.1 < n) (h2 : 0 ≤ z.1.2.1 ∧ z.1.2.1 < n) (ne : z.1.1 ≠ z.1.2.1) :
    ((leftZ n zs).set z.1.1.toNat (.int (awayZ zs z.1.1 + z.2))).set z.1.2.1.toNat (.int (awayZ zs z.1.2.1 - z.2)) = leftZ n (zs ++ [z]) := by
  unfold leftZ
  rw [List.map_map, List.map_map, pl_set _ _ h1, pl_set _ _ h2]
  refine List.map_congr_left fun p hp => ?_
  show (if p = z.1.2.1 then PyData.int (awayZ zs z.1.2.1 - z.2) else if p = z.1.1 then PyData.int (awayZ zs z.1.1 + z.2) else PyData.int (awayZ zs p)) = PyData.int (awayZ (zs ++ [z]) p)
  rw [away_snoc]
  by_cases c2 : z.1.2.1 = p
  · rw [if_pos c2.symm, if_neg (fun e => ne (e.trans c2.symm)), if_pos c2, c2]
    congr 1
    omega
  · rw [if_neg (fun e => c2 e.symm), if_neg c2]
    by_cases c1 : z.1.1 = p
    · rw [if_pos c1.symm, if_pos c1, c1]
      congr 1
      omega
    · rw [if_neg (fun e => c1 e.symm), if_neg c1]
      congr 1
      omega
theorem ixN_left {n : Int} {l : Nat} {i : Int} (hl : l = n.toNat) (h : 0 ≤ i ∧ i < n) : ixN l i = some i.toNat := by
  unfold ixN
  rw [if_pos h.1, if_pos (by omega)]
end K27
namespace K52
open PySem PySem.Spec PyProof.Rows L2 Evl DL
open WL
open K27 (asRow awayI awayZ goes asRow_row intsOf_all zD zip_ci leftZ left_at left_len left_step ixN_left)
theorem pu_more_away : Pure ["web", "flow", "place", "away", "tie", "much"] 3 ph_more_away ds_more_away := K27.pu_more_away
theorem pu_is_listed : Pure ["value"] 1 ph_is_listed ds_is_listed := by
  intro ss μ Q' hl h
  obtain ⟨s, xs, rfl, hs, h⟩ := h
  rcases hs with rfl | rfl <;> simpa [ds_is_listed, startD, isTy, rowI] using h
theorem pu_are_integers : Pure ["value", "number"] 1 ph_are_integers ds_are_integers := by
  intro ss μ Q' hl h
  obtain ⟨s, ds, rfl, hs, hd, h⟩ := h
  have key : ∀ s : Sl, Sq μ s ds → (dRet (dCB fAll (aCons (dLc (iSeq (dVar 0)) (gN 1) dYes (dCall 1 WL.ph_is_integer (aCons (dVar 1) aNil)) [1]) aNil))) ⟨fun _ μ' => finQ μ.length Q' (.dat .none) μ', finQ μ.length Q', fun _ _ => False, fun _ _ => False⟩ [some s, none] μ := fun s hs => by
    obtain ⟨C, c0, c1, ci⟩ := iSeq_ok (i := 0) (ρ := [some s, none]) (μ := μ) rfl hs
    have L := fun Q => lc_map (g := gN 1) (e := dCall 1 WL.ph_is_integer (aCons (dVar 1) aNil)) (vs := [1]) (Q := Q) (fun d => PyData.bool (isW d)) ci (fun _ => c1 _) (sz hd) (fun x hx acc R => by
      simp [wipeD])
    have e : (ds.map fun d => PyData.bool (isW d)) = (ds.map isW).map PyData.bool := by rw [List.map_map]; rfl
    rw [e] at L
    have e2 : (ds.map isW).all id = ds.all isW := by rw [List.all_map]; rfl
    simpa [startD, L, e2, -List.map_map, -List.all_map] using h
  rcases hs with rfl | rfl
  · exact key _ .dt
  · exact key _ .dl
section
variable {μ : Mu} {Q : DQ} {n p : Int} {ts : List T3} {d : PyData} {xs : List Int} {ds : List PyData} {k : Nat}
theorem c_are_integersT : ph_are_integers [.dat (.tuple ds)] μ Q = (ds.length ≤ 1000 ∧ Q (.dat (.bool (ds.all isW))) μ) := propext ⟨fun ⟨_, _, e, e2, h⟩ => by
  cases e
  rcases e2 with e2 | e2 <;> cases e2
  exact h, fun h => ⟨_, _, rfl, .inl rfl, h⟩⟩
theorem c_is_listed {s : Sl} (hs : Sq1 s xs) : ph_is_listed [s] μ Q = Q (.dat (.bool true)) μ := propext ⟨fun ⟨_, _, e, _, h⟩ => h, fun h => ⟨s, xs, rfl, hs, h⟩⟩
theorem c_more_away : ph_more_away [.dat (webD n ts), .dat (rowI xs), .dat (.int p)] μ Q = (ts.length ≤ 100 ∧ Q (.dat (.int (awayI ts xs p))) μ) := K27.c_more_away
end
end K52
namespace WL
open PySem PySem.Spec PyProof.Rows L2 Evl DL
theorem pu_are_integers : Pure ["value", "number"] 1 ph_are_integers ds_are_integers := K52.pu_are_integers
theorem c_are_integersW {ds : List PyData} {μ : Mu} {Q : DQ} : ph_are_integers [.dat (.tuple ds)] μ Q = (ds.length ≤ 1000 ∧ Q (.dat (.bool (ds.all isW))) μ) := K52.c_are_integersT
theorem isW_all : ∀ {ds : List PyData}, ds.all isW = true → ∃ xs : List Int, ds = xs.map PyData.int
  | [], _ => ⟨[], rfl⟩
  | d :: ds, h => by
    rw [List.all_cons, Bool.and_eq_true] at h
    obtain ⟨xs, rfl⟩ := isW_all h.2
    cases d with
    | int i => exact ⟨i :: xs, rfl⟩
    | _ => exact absurd h.1 (by simp [isW])
theorem asRow_ints {xs : List Int} : K27.asRow (.tuple (xs.map PyData.int)) = some xs := by
  show intsOf (xs.map PyData.int) = some xs
  exact ints_of_map xs
theorem asRow_not {ds : List PyData} (h : ds.all isW = false) : K27.asRow (.tuple ds) = none := by
  show intsOf ds = none
  cases e : intsOf ds with
  | none => rfl
  | some xs =>
    have := of_intsOf e
    subst this
    rw [List.all_map] at h
    have : (xs.all fun _ => true) = false := h
    simp at this
theorem WebOk.nd {n : Int} {ts : List T3} (h : WebOk n ts) : (ts.map two).Nodup := by
  refine List.pairwise_map.mpr (h.rows.up.imp fun {a b} l e => ?_)
  rw [e] at l
  unfold lexP at l
  omega
end WL
namespace WL
open PySem PySem.Spec PyProof.Rows L2 Evl DL
def zT (z : T3 × Int) : PyData := .tuple [tieD z.1, .int z.2]
end WL
namespace WL
open PySem PySem.Spec PyProof.Rows L2 Evl DL
def ds_length_of : DS := (dSeq (dDrop (dCall 1 ph_check_web (aCons (dVar 0) aNil)))
    (dSeq (dDrop (dCall 2 ph_check_lengths (aCons (dVar 0) (aCons (dVar 1) aNil))))
    (dRet (dCB fSum (aCons (dLc (iSeq (dCall 2 ph_ties_of_way (aCons (dVar 0) (aCons (dVar 2) aNil)))) (gN 3) dYes (dOp DL.rIx (dVar 1) (dVar 3)) [3]) aNil)))))
end WL
namespace WL
open PySem PySem.Spec PyProof.Rows L2 Evl DL
open PySem.W (dataLt)
def ds_is_cut_of_many : DS := (dSeq (dIfS (dOr (dNot (dTru (dUn (fIsi .tup) (dVar 1)))) (dOr (dTest (dOp DL.rEq (dCB fLen (aCons (dVar 1) aNil)) (dC (.int 0)))) (dOr (dNot (dTru (dCall 1 WL.ph_are_integers (aCons (dVar 1) aNil)))) (dNot (dTru (dCall 1 WL.ph_is_rising (aCons (dVar 1) aNil))))))) (dRet (dC (.bool false))) dNext)
    (dRet (dAndV (dOp wGe (dOp DL.rIx (dVar 1) (dC (.int 0))) (dC (.int 1))) (dOp wLt (dOp DL.rIx (dVar 1) (dUn rNeg (dC (.int 1)))) (dVar 0)))))
def ds_is_cut : DS := (dRet (dCall 2 ph_is_cut_of_many (aCons (dOp DL.rIx (dVar 0) (dC (.int 1))) (aCons (dVar 1) aNil))))
def ds_check_cut : DS := (dIfS (dNot (dTru (dCall 2 ph_is_cut (aCons (dVar 0) (aCons (dVar 1) aNil))))) dNever dNext)
def ds_lengths_of_cut : DS := (dSeq (dDrop (dCall 1 WL.ph_check_web (aCons (dVar 0) aNil)))
    (dSeq (dDrop (dCall 2 ph_check_cut (aCons (dVar 0) (aCons (dVar 1) aNil))))
    (dRet (dCall 2 WL.ph_crossing_lengths (aCons (dVar 0) (aCons (dVar 1) aNil))))))
theorem rising_ints : ∀ {xs : List Int}, risingB (xs.map PyData.int) = true ↔ xs.Pairwise (· < ·)
  | [] => ⟨fun _ => .nil, fun _ => rfl⟩
  | [_] => ⟨fun _ => List.pairwise_singleton .., fun _ => rfl⟩
  | a :: b :: r => by
    have e : risingB ((a :: b :: r).map PyData.int) = (dataLt (.int a) (.int b) && risingB ((b :: r).map PyData.int)) := rfl
    rw [e, PySem.W.dataLt_int, Bool.and_eq_true, decide_eq_true_iff, rising_ints (xs := b :: r)]
    constructor
    · rintro ⟨h1, h2⟩
      refine List.pairwise_cons.mpr ⟨fun x hx => ?_, h2⟩
      rcases List.mem_cons.mp hx with rfl | hx
      · exact h1
      · have := (List.pairwise_cons.mp h2).1 x hx
        omega
    · intro h
      exact ⟨(List.pairwise_cons.mp h).1 b (List.mem_cons_self ..), (List.pairwise_cons.mp h).2⟩
theorem cut_ends {many a l : Int} {xs ys r : List Int} (e1 : xs = a :: r) (e2 : xs = ys ++ [l]) (hp : xs.Pairwise (· < ·)) : Cut many xs ↔ 1 ≤ a ∧ l < many := by
  constructor
  · rintro ⟨_, h, _⟩
    exact ⟨(h a (by rw [e1]; exact List.mem_cons_self ..)).1, (h l (by rw [e2]; exact List.mem_append_right _ (List.mem_singleton.mpr rfl))).2⟩
  · rintro ⟨h1, h2⟩
    refine ⟨hp, fun p hx => ⟨?_, ?_⟩, by rw [e1]; exact List.cons_ne_nil _ _⟩
    · rw [e1] at hp hx
      rcases List.mem_cons.mp hx with rfl | hx
      · exact h1
      · have := (List.pairwise_cons.mp hp).1 p hx
        omega
    · rw [e2] at hp hx
      rcases List.mem_append.mp hx with hx | hx
      · have := (List.pairwise_append.mp hp).2.2 p hx l (List.mem_singleton.mpr rfl)
        omega
      · rw [List.mem_singleton.mp hx]
        exact h2
theorem pu_is_cut_of_many : Pure ["many", "value"] 2 ph_is_cut_of_many ds_is_cut_of_many := by
  intro ss μ Q' hl h
  obtain ⟨many, d, rfl, hsh, h⟩ := h
  by_cases ht : isTy .tup d = true
  case neg =>
    have ht' : isTy .tup d = false := Bool.eq_false_iff.mpr ht
    have e : cutB many d = false := by
      unfold cutB K27.asRow
      cases d <;> first | rfl | exact absurd rfl ht
    rw [e] at h
    simpa [ds_is_cut_of_many, startD, ht'] using h
  obtain ⟨ds, rfl⟩ : ∃ ds, d = .tuple ds := by cases d <;> first | exact ⟨_, rfl⟩ | cases ht
  have hd := hsh ds rfl
  have ln : ∀ (ν : Mu) (Q : DQ), fLen [.dat (.tuple ds)] ν Q = Q (.dat (.int ds.length)) ν := fun ν Q => rfl
  by_cases l0 : (ds.length : Int) = 0
  · have : ds = [] := List.length_eq_zero_iff.mp (by omega)
    subst this
    have e : cutB many (.tuple []) = false := by
      show decide (Cut many []) = false
      exact decide_eq_false fun z => z.2.2 rfl
    rw [e] at h
    simpa [ds_is_cut_of_many, startD, ht, ln] using h
  cases ha : ds.all isW with
  | false =>
    have e : cutB many (.tuple ds) = false := by
      unfold cutB
      rw [asRow_not ha]
    rw [e] at h
    simpa [ds_is_cut_of_many, startD, ht, ln, l0, c_are_integersW, hd, ha] using h
  | true =>
    obtain ⟨xs, rfl⟩ := isW_all ha
    rw [List.length_map] at hd l0
    have e : cutB many (.tuple (xs.map PyData.int)) = decide (Cut many xs) := by
      unfold cutB
      rw [asRow_ints]
    rw [e] at h
    have ln2 : ∀ (ν : Mu) (Q : DQ), fLen [.dat (.tuple (xs.map PyData.int))] ν Q = Q (.dat (.int xs.length)) ν := fun ν Q => by
      show Q (.dat (.int ((xs.map PyData.int).length : Nat))) ν = _
      rw [List.length_map]
    have ci := fun (ν : Mu) (Q : DQ) => c_are_integersW (ds := xs.map PyData.int) (μ := ν) (Q := Q)
    rw [ha] at ci
    simp [ds_is_cut_of_many, startD, ht, ln2, l0, ci, hd, -List.map_map]
    rw [if_neg (fun z => l0 (by rw [z]; rfl))]
    refine c_is_rising (.inr rfl) next_ints (by rw [List.length_map]; omega) ?_
    by_cases hp : xs.Pairwise (· < ·)
    · have rt : risingB (xs.map PyData.int) = true := rising_ints.mpr hp
      obtain ⟨a, r, e1⟩ : ∃ a r, xs = a :: r := by
        cases xs with
        | nil => simp at l0
        | cons a r => exact ⟨a, r, rfl⟩
      obtain ⟨ys, l, e2⟩ : ∃ ys l, xs = ys ++ [l] := ⟨xs.dropLast, xs.getLast (by rw [e1]; exact List.cons_ne_nil _ _), (List.dropLast_concat_getLast _).symm⟩
      have i0 : ∀ (ν : Mu) (Q : DQ), DL.rIx (.dat (.tuple (xs.map PyData.int))) (.dat (.int 0)) ν Q = Q (.dat (.int a)) ν := fun ν Q => by
        rw [e1]
        exact rix_t atI0
      have i1 : ∀ (ν : Mu) (Q : DQ), DL.rIx (.dat (.tuple (xs.map PyData.int))) (.dat (.int (-1))) ν Q = Q (.dat (.int l)) ν := fun ν Q => by
        rw [e2, List.map_append]
        exact rix_t atI_last
      have ce := cut_ends (many := many) e1 e2 hp
      simp [rt, i0, i1]
      by_cases q1 : 1 ≤ a
      · by_cases q2 : l < many
        · rw [decide_eq_true (ce.mpr ⟨q1, q2⟩)] at h
          simpa [q1, q2] using h
        · rw [decide_eq_false (fun z => q2 (ce.mp z).2)] at h
          simpa [q1, q2] using h
      · rw [decide_eq_false (fun z => q1 (ce.mp z).1)] at h
        simpa [q1] using h
    · have rt : risingB (xs.map PyData.int) = false := Bool.eq_false_iff.mpr fun z => hp (rising_ints.mp z)
      rw [decide_eq_false (fun z => hp z.1)] at h
      simpa [rt] using h
theorem pu_is_cut : Pure ["web", "value"] 2 ph_is_cut ds_is_cut := by
  intro ss μ Q' hl h
  obtain ⟨n, ts, d, rfl, hsh, h⟩ := h
  simp only [ds_is_cut, startD, e_dRet, e_dCall, e_dOp, e_aCons, e_aNil, e_dVar, e_dC, List.map_cons, List.map_nil, List.length_cons, List.length_nil, List.replicate, List.cons_append, List.nil_append, List.append_nil, List.getElem?_cons_succ, List.getElem?_cons_zero, ix_w1]
  refine ⟨trivial, n, d, rfl, hsh, ?_⟩
  simpa using h
theorem short_row {c : List Int} (h : c.length ≤ 100) : Short (rowI c) := fun ds e => by
  have : ds = c.map PyData.int := by simpa [rowI] using e.symm
  rw [this, List.length_map]
  omega
theorem cutB_row {n : Int} {c : List Int} (h : Cut n c) : cutB n (rowI c) = true := by
  unfold cutB
  have : K27.asRow (rowI c) = some c := asRow_ints
  rw [this]
  exact decide_eq_true h
theorem pu_check_cut : Pure ["web", "cut"] 2 ph_check_cut ds_check_cut := by
  intro ss μ Q' hl h
  obtain ⟨n, ts, c, rfl, ⟨hc, hlen⟩, h⟩ := h
  have a : ∀ Q : DQ, Q (.dat (.bool true)) μ → ph_is_cut [.dat (webD n ts), .dat (rowI c)] μ Q := fun Q q => ⟨n, ts, rowI c, rfl, short_row hlen, by rw [cutB_row hc]; exact q⟩
  simp only [ds_check_cut, startD, e_dIfS, e_dNot, e_dTru, e_dCall, e_aCons, e_aNil, e_dVar, List.map_cons, List.map_nil, List.length_cons, List.length_nil, List.replicate, List.cons_append, List.nil_append, List.append_nil, List.getElem?_cons_succ, List.getElem?_cons_zero]
  refine ⟨trivial, a _ ?_⟩
  simpa using h
end WL
namespace DL
open PySem PySem.Spec PyProof.Rows L2 Evl
def fSortedAC : DRA := arg1 fun d x μ Q => match d with
  | .list ds => (isV x = false ∧ SortOk ds) ∧ Q (.cell μ.length) (μ ++ [.lst (sortD ds)])
  | .tuple ds => (isV x = false ∧ SortOk ds) ∧ Q (.cell μ.length) (μ ++ [.lst (sortD ds)])
  | _ => False
section
variable {X : Cx} {e : Expr} {es : List Expr} {p pos : Pos} {k : Nat}
theorem pd_sortedAC (hr : RoomG k X.A) {a : DA} (ha : PDA X (e :: es) a) (hm : X.mg "sorted" = none) (hg : Gl X "sorted" := by rfl)
    (he : starEach (e :: es) X.env = (false, eval e X.env) :: starEach es X.env := by rfl) (hpl : (backTo pos (starEach es X.env)).any (·.1) = false := by rfl) : PD X (.Call (.Name "sorted" p) (e :: es) [] pos) (dCB fSortedAC a) := by
  refine pd_cb (cr_sortA hr.u128) (fun xs μ Q' h W H vs r hs Q q => ?_) (by decide +kernel) ha hm hg (by decide) (by decide) he hpl
  obtain ⟨x, d, rfl, e1, h⟩ := arg1_of h
  obtain ⟨v, rfl, hx⟩ := slAll1 hs
  cases d with
  | list ds =>
    obtain ⟨a, ys, rfl, hl, hi⟩ := rd_lst r hx e1
    obtain ⟨⟨hv, ok⟩, h⟩ := h
    unfold Its at hi
    rw [hv] at hi
    exact ⟨a, ys, ds, rfl, .inl hl, DvAll.mono hi r.gh, ok, q.newCell r (dp_sort hi) h⟩
  | tuple ds =>
    obtain ⟨a, ys, rfl, hl, hi⟩ := rd_tup r hx e1
    obtain ⟨⟨hv, ok⟩, h⟩ := h
    unfold Its at hi
    rw [hv] at hi
    exact ⟨a, ys, ds, rfl, .inr hl, DvAll.mono hi r.gh, ok, q.newCell r (dp_sort hi) h⟩
  | _ => exact False.elim h
end
section
variable {X : Cx} {x f q : Str} {st : Stmt} {C fI : Addr}
theorem raiserH {XE : XK} {s0 : Stmt} {d0 : DS} {c a e : Expr} {dt : DT} {da : DA} {dr : DE} {N : List Str} {fdI : FuncData} {p pos pos2 pos3 pos4 : Pos} {j : Nat} (tk : Takes X (fun cls d _ H => XE cls d H)) (T : ErrT X.K X.mg x f st q C fI) (F1 : FnOk X.prog X.w X.K X.mg X.base CX0 1 fI fdI N (spInit X.K f C)) (hrm : Room (j + 2) X.A) (hb : Binds X.K fdI N [])
    (h0 : PDS X s0 d0) (hc : PDT X c dt) (ha : PDA X [a] da) (he : PD X e dr) (hcalm : X.calm = true := by rfl) (hg : Gl X x := by rfl) (hdb : (x == ("__debug__" : Str)) = false := by decide) (hse : starEach (a :: []) X.env = (false, eval a X.env) :: starEach [] X.env := by rfl) (hpl : (backTo pos (starEach [] X.env)).any (·.1) = false := by rfl) :
    ∃ t, PSs X [s0, .If c [.Raise (some (.Call (.Name x p) [a] [] pos)) none pos2] [] pos3, .Return (some e) pos4] t ∧ ∀ (ρ : Rho) (μ : Mu) (Q' R' : DQ), d0 ⟨fun ρ μ => dt ρ μ (fun b μ1 => if b = true then da ρ μ1 fun ss μ2 => ∃ s, ss = [s] ∧ R' s μ2 else dr ρ μ1 Q'), fun _ _ => False, fun _ _ => False, fun _ _ => False⟩ ρ μ →
      ∀ W σ H, EnvOk X.K W σ ρ → Rep X.K W H μ → ∀ (nx : L2.St → Hp → Prop) (Q : VK), VOk X.K W Q' Q → (∀ v s W' H' μ' dx, Le W W' → Rep X.K W' H' μ' → SlOk X.K W' v s → H' dx = some (.xd [(f, v)]) → R' s μ' → XE (.ref C) (some dx) H') → t { nx := nx, rt := Q } σ H := by
  obtain ⟨t0, p0, l0⟩ := h0
  obtain ⟨tc, pc, lc⟩ := hc
  obtain ⟨ta, pa, la⟩ := ha
  obtain ⟨tr, pr, lr⟩ := he
  have P := pmk_oex (X := X) (p := p) (pos := pos) (dvs := []) (ds := []) T.oex T.iC T.tI F1 (hrm.mono (by omega)) hb .nil pass0 hg T.gC pa hdb hse hpl
  refine ⟨_, pss_cons p0 (pss_cons (ps_if pc (pss_one (ps_raise hcalm tk P)) pss_nil) (pss_one (ps_ret pr))), fun ρ μ Q' R' h W σ H hE r nx Q q qE => ?_⟩
  refine l0 _ ρ μ h W σ H hE r _ ⟨fun σ' ρ' W0 H0 μ0 le0 r0 hE0 h0 => ?_, fun _ _ _ _ _ _ _ _ z => z.elim, fun _ _ _ _ _ _ _ _ z => z.elim, fun _ _ _ _ _ _ _ _ z => z.elim⟩
  refine lc ρ' μ0 _ h0 W0 σ' H0 hE0 r0 _ fun b W1 H1 μ1 le1 r1 h1 => ?_
  cases b with
  | true =>
    refine la ρ' μ1 _ h1 W1 σ' H1 (hE0.mono le1) r1 _ fun vs ss W2 H2 μ2 le2 r2 hss h2 => ?_
    obtain ⟨s, rfl, h2⟩ := h2
    obtain ⟨v, rfl, hs⟩ := slAll1 hss
    exact mk_err fun dx H' ex hx => qE v s W2 H' μ2 dx ((le0.trans le1).trans le2) (r2.ex ex) hs hx h2
  | false => exact lr ρ' μ1 _ h1 W1 σ' H1 (hE0.mono le1) r1 _ (q.le (le0.trans le1))
end
end DL
namespace K24
open PySem PySem.Spec PyProof.Rows L2 Evl DL
open WL
section
variable {n : Int} {c s : List Int} {cs ds : List (List Int)} {i j : Nat}
def crossB (c s : List Int) : Bool := (c.any fun x => decide (x ∈ s)) && ((c.any fun x => !decide (x ∈ s)) && (s.any fun x => !decide (x ∈ c)))
def interL (c s : List Int) : List Int := c.filter fun x => decide (x ∈ s)
def unionL (c s : List Int) : List Int := sortI (c ++ s.filter fun x => !decide (x ∈ c))
theorem mem_inter {p : Int} : p ∈ interL c s ↔ p ∈ c ∧ p ∈ s := by unfold interL; rw [List.mem_filter, decide_eq_true_iff]
theorem mem_union {p : Int} : p ∈ unionL c s ↔ p ∈ c ∨ p ∈ s := by
  unfold unionL
  rw [(sortI_perm _).mem_iff, List.mem_append, List.mem_filter]
  by_cases h : p ∈ c <;> simp [h]
theorem union_nd (hc : c.Nodup) (hs : s.Nodup) : (unionL c s).Nodup := by
  unfold unionL
  rw [(sortI_perm _).nodup_iff]
  refine List.nodup_append.mpr ⟨hc, hs.sublist List.filter_sublist, fun x hx y hy e => ?_⟩
  have := (List.mem_filter.mp hy).2
  simp [← e, hx] at this
theorem lt_of_nd {l : List Int} (h : l.Pairwise (· ≤ ·)) (nd : l.Nodup) : l.Pairwise (· < ·) := h.imp₂ (fun a b h1 h2 => by omega) nd
theorem union_up (hc : c.Nodup) (hs : s.Nodup) : (unionL c s).Pairwise (· < ·) := lt_of_nd (sortI_pw _) (union_nd hc hs)
theorem up_eq {l m : List Int} (hl : l.Pairwise (· < ·)) (hm : m.Pairwise (· < ·)) (h : ∀ x, x ∈ l ↔ x ∈ m) : l = m :=
  sorted_uniq ((List.perm_ext_iff_of_nodup (lt_nodup hl) (lt_nodup hm)).mpr h) (hl.imp fun h => by omega) (hm.imp fun h => by omega)
theorem set_union (hc : c.Nodup) (hs : s.Nodup) {ms : List Int} (h : IsUp (c ++ s) ms) : ms = unionL c s :=
  up_eq h.1 (union_up hc hs) fun x => by rw [h.2, mem_union, List.mem_append]
theorem inter_len (hc : c.Nodup) (hs : s.Nodup) : (interL c s).length = (interL s c).length := by
  have : (interL c s).Perm (interL s c) := (List.perm_ext_iff_of_nodup (hc.sublist List.filter_sublist) (hs.sublist List.filter_sublist)).mpr fun x => by
    show x ∈ interL c s ↔ x ∈ interL s c
    rw [mem_inter, mem_inter, And.comm]
  exact this.length_eq
theorem inter_lt : (interL c s).length < c.length ↔ (c.any fun x => !decide (x ∈ s)) = true := by
  unfold interL
  rw [List.any_eq_true]
  have := List.length_filter_le (fun x => decide (x ∈ s)) c
  constructor
  · intro h
    refine Classical.byContradiction fun z => ?_
    have all : c.filter (fun x => decide (x ∈ s)) = c := List.filter_eq_self.mpr fun x hx => Classical.byContradiction fun y => z ⟨x, hx, by simpa using y⟩
    rw [all] at h
    omega
  · rintro ⟨x, hx, h⟩
    refine Nat.lt_of_le_of_ne this fun e => ?_
    have e2 := List.filter_eq_self.mp (List.Sublist.eq_of_length List.filter_sublist e) x hx
    simp at h e2
    exact h e2
theorem inter_ne : (!(interL c s).isEmpty) = c.any fun x => decide (x ∈ s) := by
  unfold interL
  rw [Bool.eq_iff_iff, List.any_eq_true]
  constructor
  · intro h
    cases e : c.filter (fun x => decide (x ∈ s)) with
    | nil => rw [e] at h; cases h
    | cons y r =>
      have : y ∈ c.filter (fun x => decide (x ∈ s)) := by rw [e]; exact List.mem_cons_self ..
      exact ⟨y, (List.mem_filter.mp this).1, (List.mem_filter.mp this).2⟩
  · rintro ⟨x, hx, h⟩
    have : x ∈ c.filter (fun x => decide (x ∈ s)) := List.mem_filter.mpr ⟨hx, h⟩
    cases e : c.filter (fun x => decide (x ∈ s)) with
    | nil => rw [e] at this; cases this
    | cons y r => rfl
theorem cross_law (hc : c.Nodup) (hs : s.Nodup) : crossB c s = (!(interL c s).isEmpty && (decide ((interL c s).length < c.length) && decide ((interL c s).length < s.length))) := by
  unfold crossB
  rw [inter_ne]
  congr 1
  congr 1
  · rw [Bool.eq_iff_iff, decide_eq_true_iff, inter_lt]
  · rw [Bool.eq_iff_iff, decide_eq_true_iff, inter_len hc hs, inter_lt]
theorem len_sum (hc : c.Nodup) (hs : s.Nodup) : (interL c s).length + (unionL c s).length = c.length + s.length := by
  have e : (unionL c s).length = c.length + (s.filter fun x => !decide (x ∈ c)).length := by
    unfold unionL
    rw [(sortI_perm _).length_eq, List.length_append]
  have f : (s.filter fun x => decide (x ∈ c)).length + (s.filter fun x => !decide (x ∈ c)).length = s.length := by
    have := List.length_eq_countP_add_countP (fun x => decide (x ∈ c)) (l := s)
    rw [List.countP_eq_length_filter, List.countP_eq_length_filter] at this
    rw [this]
    congr 2
    refine List.filter_congr fun x _ => by simp
  have g := inter_len hc hs
  have h : (interL s c).length = (s.filter fun x => decide (x ∈ c)).length := rfl
  omega
theorem cut_nd (h : Cut n c) : c.Nodup := lt_nodup h.1
theorem cut_len (h : Cut n c) (hn : n ≤ 8) : c.length ≤ 7 := by
  have := nodup_sub_len (cut_nd h) (m := (placesL n).erase 0) fun x hx => by
    have := h.2.1 x hx
    exact (List.mem_erase_of_ne (by omega)).mpr (mem_placesL.mpr (by omega))
  obtain ⟨x, hx⟩ := List.exists_mem_of_ne_nil _ h.2.2
  have hx2 := h.2.1 x hx
  have z : (0 : Int) ∈ placesL n := mem_placesL.mpr (by omega)
  rw [List.length_erase_of_mem z] at this
  have e : (placesL n).length = n.toNat := by unfold placesL; rw [List.length_map, List.length_range]
  omega
theorem cut_inter (h1 : Cut n c) (h2 : Cut n s) (h : crossB c s = true) : Cut n (interL c s) := by
  refine ⟨h1.1.sublist List.filter_sublist, fun p hp => h1.2.1 p (mem_inter.mp hp).1, fun e => ?_⟩
  unfold crossB at h
  rw [← inter_ne, e] at h
  cases h
theorem cut_union (h1 : Cut n c) (h2 : Cut n s) : Cut n (unionL c s) := by
  refine ⟨union_up (cut_nd h1) (cut_nd h2), fun p hp => ?_, fun e => ?_⟩
  · rcases mem_union.mp hp with h | h
    · exact h1.2.1 p h
    · exact h2.2.1 p h
  · obtain ⟨x, hx⟩ := List.exists_mem_of_ne_nil _ h1.2.2
    have : x ∈ unionL c s := mem_union.mpr (.inl hx)
    rw [e] at this
    cases this
theorem across_sub (t : T3) (z : Int) (hz : 0 ≤ z) : (if acrossB (interL c s) t then z else 0) + (if acrossB (unionL c s) t then z else 0) ≤ (if acrossB c t then z else 0) + (if acrossB s t then z else 0) := by
  unfold acrossB
  simp only [mem_inter, mem_union]
  by_cases a : t.1 ∈ c <;> by_cases b : t.2.1 ∈ c <;> by_cases d : t.1 ∈ s <;> by_cases e : t.2.1 ∈ s <;> simp [a, b, d, e] <;> omega
theorem room_sub (c s : List Int) : ∀ {ts : List T3}, (∀ t ∈ ts, 0 ≤ t.2.2) → roomL ts (interL c s) + roomL ts (unionL c s) ≤ roomL ts c + roomL ts s
  | [], _ => by simp [roomL]
  | t :: ts, h => by
    have ih := room_sub c s (ts := ts) fun u hu => h u (List.mem_cons_of_mem _ hu)
    have q := across_sub (c := c) (s := s) t t.2.2 (h t (List.mem_cons_self ..))
    have e : ∀ d : List Int, roomL (t :: ts) d = (if acrossB d t then t.2.2 else 0) + roomL ts d := fun d => by
      unfold roomL
      by_cases k : acrossB d t = true
      · rw [List.filter_cons_of_pos k, if_pos k, List.map_cons, List.sum_cons]
      · rw [List.filter_cons_of_neg k, if_neg k, Int.zero_add]
    rw [e, e, e, e]
    omega
def findJ (cs : List (List Int)) (c : List Int) (js : List Nat) : Option Nat := js.find? fun j => crossB c (cs.getD j [])
def findI (cs : List (List Int)) (is : List Nat) : Option (Nat × Nat) := is.findSome? fun i => (findJ cs (cs.getD i []) (List.range' (i + 1) (cs.length - (i + 1)))).map fun j => (i, j)
def firstX (cs : List (List Int)) : Option (Nat × Nat) := findI cs (List.range cs.length)
theorem first_some (h : firstX cs = some (i, j)) : i < j ∧ j < cs.length ∧ crossB (cs.getD i []) (cs.getD j []) = true := by
  obtain ⟨x, hx, e⟩ := List.exists_of_findSome?_eq_some h
  unfold findJ at e
  cases f : (List.range' (x + 1) (cs.length - (x + 1))).find? fun j => crossB (cs.getD x []) (cs.getD j []) with
  | none => rw [f] at e; cases e
  | some y =>
    rw [f] at e
    cases e
    have := List.mem_of_find?_eq_some f
    have g := List.find?_some f
    rw [List.mem_range'_1] at this
    exact ⟨by omega, by omega, g⟩
theorem first_none (h : firstX cs = none) : ∀ i j, i < j → j < cs.length → crossB (cs.getD i []) (cs.getD j []) = false := by
  intro i j h1 h2
  have := List.findSome?_eq_none_iff.mp h i (List.mem_range.mpr (by omega))
  unfold findJ at this
  cases f : (List.range' (i + 1) (cs.length - (i + 1))).find? fun j => crossB (cs.getD i []) (cs.getD j []) with
  | some y => rw [f] at this; cases this
  | none =>
    have := List.find?_eq_none.mp f j (by rw [List.mem_range'_1]; omega)
    exact Bool.eq_false_iff.mpr this
theorem cross_comm : crossB c s = crossB s c := by
  unfold crossB
  have e : (c.any fun x => decide (x ∈ s)) = (s.any fun x => decide (x ∈ c)) := by
    rw [Bool.eq_iff_iff, List.any_eq_true, List.any_eq_true]
    constructor <;> rintro ⟨x, h1, h2⟩ <;> exact ⟨x, of_decide_eq_true h2, decide_eq_true h1⟩
  rw [e, Bool.and_comm (c.any _)]
theorem cross_self : crossB c c = false := by
  have : (c.any fun x => !decide (x ∈ c)) = false := by
    rw [List.any_eq_false]
    intro x hx
    simp [hx]
  unfold crossB
  rw [this]
  simp
theorem first_none_mem (h : firstX cs = none) (hc : c ∈ cs) (hs : s ∈ cs) : crossB c s = false := by
  obtain ⟨i, hi, e1⟩ := List.mem_iff_getElem.mp hc
  obtain ⟨j, hj, e2⟩ := List.mem_iff_getElem.mp hs
  have g1 : cs.getD i [] = c := by rw [List.getD_eq_getElem?_getD, List.getElem?_eq_getElem hi, e1]; rfl
  have g2 : cs.getD j [] = s := by rw [List.getD_eq_getElem?_getD, List.getElem?_eq_getElem hj, e2]; rfl
  rcases Nat.lt_trichotomy i j with lt | eq | gt
  · have := first_none h i j lt hj
    rwa [g1, g2] at this
  · subst eq
    rw [← g1, ← g2]
    exact cross_self
  · have := first_none h j i gt hi
    rw [g1, g2] at this
    rw [cross_comm]
    exact this
theorem first_sets (hm : ∀ c, c ∈ ds ↔ c ∈ cs) (h : firstX cs ≠ none) : firstX ds ≠ none := by
  intro z
  cases e : firstX cs with
  | none => exact h e
  | some p =>
    obtain ⟨i, j⟩ := p
    obtain ⟨h1, h2, h3⟩ := first_some e
    have m : ∀ k, k < cs.length → cs.getD k [] ∈ cs := fun k hk => by rw [List.getD_eq_getElem?_getD, List.getElem?_eq_getElem hk]; exact List.getElem_mem hk
    have := first_none_mem z ((hm _).mpr (m i (by omega))) ((hm _).mpr (m j h2))
    rw [h3] at this
    cases this
end
end K24
namespace K24
open PySem PySem.Spec PyProof.Rows L2 Evl DL
open WL
open PySem.W (minD)
section
variable {n : Int} {c s : List Int} {cs ds : List (List Int)} {i j : Nat}
def dropTwo (cs : List (List Int)) (i j : Nat) : List (List Int) := cs.take i ++ (cs.take j).drop (i + 1) ++ cs.drop (j + 1)
theorem dropTwo_perm (h : i < j) (hj : j < cs.length) : (cs.getD i [] :: cs.getD j [] :: dropTwo cs i j).Perm cs := by
  have e1 : dropTwo cs i j = (cs.eraseIdx j).eraseIdx i := by
    unfold dropTwo
    rw [List.eraseIdx_eq_take_drop_succ, List.eraseIdx_eq_take_drop_succ, List.take_append_of_le_length (by rw [List.length_take]; omega), List.drop_append_of_le_length (by rw [List.length_take]; omega), List.take_take, Nat.min_eq_left (by omega), List.append_assoc]
  have g1 : (cs.eraseIdx j)[i]? = some (cs.getD i []) := by
    rw [List.getElem?_eraseIdx_of_lt h, List.getD_eq_getElem?_getD, List.getElem?_eq_getElem (by omega)]
    rfl
  have g2 : cs[j]? = some (cs.getD j []) := by
    rw [List.getD_eq_getElem?_getD, List.getElem?_eq_getElem hj]
    rfl
  have p1 := cons_erase g1
  have p2 := cons_erase g2
  rw [← e1] at p1
  exact ((List.Perm.swap _ _ _).trans (p1.cons _)).trans p2
theorem zip_keep (a b : Nat) : ∀ (l : List (List Int)) (k : Nat), (∀ m, k ≤ m → m ≠ a ∧ m ≠ b) → ((l.zipIdx k).filter fun x => !(decide (x.2 = a) || decide (x.2 = b))).map (·.1) = l
  | [], _, _ => rfl
  | x :: l, k, hk => by
    have := hk k (Nat.le_refl _)
    rw [List.zipIdx_cons, List.filter_cons_of_pos (by simp [this]), List.map_cons, zip_keep a b l (k + 1) fun m h1 => hk m (by omega)]
theorem zip_one (a : Nat) : ∀ (l : List (List Int)) (k j : Nat), a < k → j < l.length → ((l.zipIdx k).filter fun x => !(decide (x.2 = a) || decide (x.2 = k + j))).map (·.1) = l.take j ++ l.drop (j + 1)
  | [], _, _, _, h => by simp at h
  | x :: l, k, 0, ha, _ => by
    rw [List.zipIdx_cons, List.filter_cons_of_neg (by simp)]
    exact zip_keep _ _ l (k + 1) fun m h1 => by omega
  | x :: l, k, j + 1, ha, h => by
    have ih := zip_one a l (k + 1) j (by omega) (by simpa using h)
    rw [List.zipIdx_cons, List.filter_cons_of_pos (by simp; omega), List.map_cons, show k + (j + 1) = k + 1 + j by omega, ih]
    rfl
theorem zip_two : ∀ (l : List (List Int)) (k i j : Nat), i < j → j < l.length → ((l.zipIdx k).filter fun x => !(decide (x.2 = k + i) || decide (x.2 = k + j))).map (·.1) = dropTwo l i j
  | [], _, _, _, _, h => by simp at h
  | x :: l, k, _, 0, h, _ => by omega
  | x :: l, k, 0, j + 1, _, h => by
    rw [List.zipIdx_cons, List.filter_cons_of_neg (by simp), show k + (j + 1) = k + 1 + j by omega, Nat.add_zero, zip_one k l (k + 1) j (by omega) (by simpa using h)]
    unfold dropTwo
    simp
  | x :: l, k, i + 1, j + 1, h, hl => by
    have ih := zip_two l (k + 1) i j (by omega) (by simpa using hl)
    rw [List.zipIdx_cons, List.filter_cons_of_pos (by simp), List.map_cons, show k + (j + 1) = k + 1 + j by omega, show k + (i + 1) = k + 1 + i by omega, ih]
    unfold dropTwo
    simp
theorem drop_zip (h : i < j) (hj : j < cs.length) : (cs.zipIdx.filter fun x => !(decide (x.2 = i) || decide (x.2 = j))).map (·.1) = dropTwo cs i j := by
  have := zip_two cs 0 i j h hj
  simpa using this
def stepL (cs : List (List Int)) (i j : Nat) : List (List Int) := sortL (dropTwo cs i j ++ [interL (cs.getD i []) (cs.getD j []), unionL (cs.getD i []) (cs.getD j [])])
def goL : Nat → List (List Int) → List (List Int)
  | 0, cs => cs
  | k + 1, cs => match firstX cs with
    | none => cs
    | some p => goL k (stepL cs p.1 p.2)
theorem goL_none (k : Nat) (h : firstX cs = none) : goL k cs = cs := by
  cases k with
  | zero => rfl
  | succ k => rw [goL, h]
theorem goL_some (k : Nat) (h : firstX cs = some (i, j)) : goL (k + 1) cs = goL k (stepL cs i j) := by rw [goL, h]
structure CutsOk (n : Int) (cs : List (List Int)) : Prop where
  all : ∀ c ∈ cs, Cut n c
  few : cs.length ≤ 12
theorem getD_mem {k : Nat} (hk : k < cs.length) : cs.getD k [] ∈ cs := by rw [List.getD_eq_getElem?_getD, List.getElem?_eq_getElem hk]; exact List.getElem_mem hk
theorem step_ok (h : CutsOk n cs) (hf : firstX cs = some (i, j)) : CutsOk n (stepL cs i j) := by
  obtain ⟨h1, h2, h3⟩ := first_some hf
  have p := dropTwo_perm h1 h2
  have ci := h.all _ (getD_mem (k := i) (by omega))
  have cj := h.all _ (getD_mem h2)
  refine ⟨fun c hc => ?_, ?_⟩
  · unfold stepL at hc
    rw [(sortL_perm _).mem_iff, List.mem_append] at hc
    rcases hc with g | g
    · exact h.all c (p.mem_iff.mp (List.mem_cons_of_mem _ (List.mem_cons_of_mem _ g)))
    · simp only [List.mem_cons, List.not_mem_nil, or_false] at g
      rcases g with rfl | rfl
      · exact cut_inter ci cj h3
      · exact cut_union ci cj
  · have := p.length_eq
    have hf := h.few
    unfold stepL
    rw [(sortL_perm _).length_eq, List.length_append]
    simp only [List.length_cons, List.length_nil] at this ⊢
    omega
def potL (cs : List (List Int)) : Nat := (cs.map fun c => c.length * c.length).sum
theorem nsum_perm {l m : List Nat} (h : l.Perm m) : l.sum = m.sum := by
  induction h with
  | nil => rfl
  | cons x _ ih => rw [List.sum_cons, List.sum_cons, ih]
  | swap x y l => simp only [List.sum_cons]; omega
  | trans _ _ a b => rw [a, b]
theorem potL_perm {l m : List (List Int)} (h : l.Perm m) : potL l = potL m := by
  unfold potL
  exact nsum_perm (h.map _)
theorem potL_le (hn : n ≤ 8) (h : CutsOk n cs) : potL cs ≤ 588 := by
  have key : ∀ l : List (List Int), (∀ c ∈ l, Cut n c) → potL l ≤ 49 * l.length := by
    intro l
    induction l with
    | nil => intro _; exact Nat.le_refl _
    | cons c l ih =>
      intro hl
      have a := ih fun d hd => hl d (List.mem_cons_of_mem _ hd)
      have b := cut_len (hl c (List.mem_cons_self ..)) hn
      have e : potL (c :: l) = c.length * c.length + potL l := rfl
      have m := Nat.mul_le_mul b b
      rw [e, List.length_cons]
      omega
  have := key cs h.all
  have := h.few
  omega
theorem sq_grow : ∀ i < 8, ∀ a < 8, ∀ b < 8, 0 < a → 0 < b → (i + a) * (i + a) + (i + b) * (i + b) < i * i + (i + a + b) * (i + a + b) := by decide
theorem step_grows (hn : n ≤ 8) (h : CutsOk n cs) (hf : firstX cs = some (i, j)) : potL cs < potL (stepL cs i j) := by
  obtain ⟨h1, h2, h3⟩ := first_some hf
  have p := dropTwo_perm h1 h2
  have ci := h.all _ (getD_mem (k := i) (by omega))
  have cj := h.all _ (getD_mem h2)
  have li := cut_len ci hn
  have lj := cut_len cj hn
  rw [← potL_perm p]
  unfold stepL
  rw [potL_perm (sortL_perm _)]
  have e1 : ∀ l m : List (List Int), potL (l ++ m) = potL l + potL m := fun l m => by unfold potL; rw [List.map_append, List.sum_append]
  have e2 : ∀ (c : List Int) l, potL (c :: l) = c.length * c.length + potL l := fun c l => rfl
  have e3 : potL [] = 0 := rfl
  rw [e1, e2, e2, e2, e2, e3]
  have s := len_sum (cut_nd ci) (cut_nd cj)
  rw [cross_law (cut_nd ci) (cut_nd cj)] at h3
  simp only [Bool.and_eq_true, decide_eq_true_iff] at h3
  obtain ⟨_, l1, l2⟩ := h3
  generalize (interL (cs.getD i []) (cs.getD j [])).length = x at *
  generalize (unionL (cs.getD i []) (cs.getD j [])).length = y at *
  generalize (cs.getD i []).length = u at *
  generalize (cs.getD j []).length = v at *
  have g := sq_grow x (by omega) (u - x) (by omega) (v - x) (by omega) (by omega) (by omega)
  have w1 : x + (u - x) = u := by omega
  have w2 : x + (v - x) = v := by omega
  have w3 : u + (v - x) = y := by omega
  rw [w1, w2, w3] at g
  omega
@[irreducible] def fuelL : Nat := 600
def lamL (cs : List (List Int)) : List (List Int) := goL fuelL (sortL cs)
theorem fuel_big : 588 < fuelL := by unfold fuelL; decide
theorem sort_ok (h : CutsOk n cs) : CutsOk n (sortL cs) := ⟨fun c hc => h.all c ((sortL_perm _).mem_iff.mp hc), by rw [(sortL_perm _).length_eq]; exact h.few⟩
def cntL (p : Int) (cs : List (List Int)) : Nat := (cs.filter fun c => decide (p ∈ c)).length
theorem cnt_perm {p : Int} {l m : List (List Int)} (h : l.Perm m) : cntL p l = cntL p m := (h.filter _).length_eq
theorem cnt_two (p : Int) (c s : List Int) (l : List (List Int)) : cntL p (interL c s :: unionL c s :: l) = cntL p (c :: s :: l) := by
  unfold cntL
  by_cases a : p ∈ c <;> by_cases b : p ∈ s <;> simp [List.filter_cons, mem_inter, mem_union, a, b]
theorem cnt_step (p : Int) (hf : firstX cs = some (i, j)) : cntL p (stepL cs i j) = cntL p cs := by
  obtain ⟨h1, h2, h3⟩ := first_some hf
  unfold stepL
  rw [cnt_perm (sortL_perm _), cnt_perm List.perm_append_comm]
  show cntL p (interL (cs.getD i []) (cs.getD j []) :: unionL (cs.getD i []) (cs.getD j []) :: dropTwo cs i j) = _
  rw [cnt_two, cnt_perm (dropTwo_perm h1 h2)]
theorem goL_spec (hn : n ≤ 8) : ∀ (k : Nat) (cs : List (List Int)), CutsOk n cs → 588 - potL cs < k → CutsOk n (goL k cs) ∧ firstX (goL k cs) = none ∧ (goL k cs).length = cs.length ∧ (∀ p, cntL p (goL k cs) = cntL p cs)
  | 0, _, _, h => absurd h (Nat.not_lt_zero _)
  | k + 1, cs, h, hk => by
    cases e : firstX cs with
    | none => rw [goL_none _ e]; exact ⟨h, e, rfl, fun _ => rfl⟩
    | some q =>
      obtain ⟨i, j⟩ := q
      rw [goL_some _ e]
      have g1 := step_ok h e
      have g2 := step_grows hn h e
      have g3 := potL_le hn g1
      obtain ⟨a, b, c, d⟩ := goL_spec hn k _ g1 (by omega)
      refine ⟨a, b, ?_, fun p => by rw [d, cnt_step p e]⟩
      rw [c]
      obtain ⟨h1, h2, h3⟩ := first_some e
      have := (dropTwo_perm h1 h2).length_eq
      unfold stepL
      rw [(sortL_perm _).length_eq, List.length_append]
      simp only [List.length_cons, List.length_nil] at this ⊢
      omega
theorem lam_spec (hn : n ≤ 8) (h : CutsOk n cs) : CutsOk n (lamL cs) ∧ firstX (lamL cs) = none ∧ (lamL cs).length = cs.length ∧ (∀ p, cntL p (lamL cs) = cntL p cs) := by
  obtain ⟨a, b, c, d⟩ := goL_spec hn fuelL (sortL cs) (sort_ok h) (by have := fuel_big; omega)
  exact ⟨a, b, by rw [← (sortL_perm cs).length_eq]; exact c, fun p => by rw [← cnt_perm (sortL_perm cs)]; exact d p⟩
def widerB (d c : List Int) : Bool := (d.any fun x => !decide (x ∈ c)) && !(c.any fun x => !decide (x ∈ d))
theorem wider_law (hc : Cut n c) (hs : Cut n s) : widerB s c = (!decide (s = c) && c.all fun x => decide (x ∈ s)) := by
  unfold widerB
  have e : (!(c.any fun x => !decide (x ∈ s))) = c.all fun x => decide (x ∈ s) := by
    rw [List.not_any_eq_all_not]
    congr 1
    funext x
    simp
  rw [e]
  cases f : c.all fun x => decide (x ∈ s) with
  | false => simp
  | true =>
    rw [List.all_eq_true] at f
    rw [Bool.and_true, Bool.and_true, Bool.eq_iff_iff, List.any_eq_true]
    constructor
    · rintro ⟨x, hx, h⟩
      simp
      intro z
      subst z
      simp [hx] at h
    · intro h
      refine Classical.byContradiction fun z => ?_
      have : s = c := up_eq hs.1 hc.1 fun x => ⟨fun hx => Classical.byContradiction fun y => z ⟨x, hx, by simpa using y⟩, fun hx => of_decide_eq_true (f x hx)⟩
      simp [this] at h
def widP (cs : List (List Int)) (c : List Int) : List (Int × Int) := (cs.zipIdx.filter fun x => widerB x.1 c).map fun x => ((x.1.length : Nat), (x.2 : Nat))
def secD : PyData → PyData
  | .tuple [_, d] => d
  | _ => .none
def holdD (cs : List (List Int)) (c : List Int) : PyData := match (widP cs c).map WL.pairD with
  | [] => .none
  | d :: ds => secD (minD d ds)
end
end K24
namespace DL
open PySem PySem.Spec PyProof.Rows L2 Evl
def dTryR (iE n : Nat) (φ : DFX) (a : DA) (b : DE) : DS := fun D ρ μ => iE < ρ.length ∧ a ρ μ fun ss μ1 => ss.length = n ∧ φ ss μ1 (fun s μ2 => D.nx ρ μ2)
  (fun s μ2 => ∃ d, rd μ2 s = some d ∧ okR d ∧ b (ρ.set iE none) μ2 fun z μ3 => DL.rEq (.dat (.str d.shown)) z μ3 D.rt)
section
variable {X : Cx} {k : Nat} {y x f q : Str} {e : Expr} {es : List Expr} {p pos : Pos} {ps : List Str} {C fI : Addr}
theorem pd_tryR {φ : DFX} {da : DA} {ta : TA} {db : DE} {iE n k : Nat} {en : Str} {stg : Stmt} {sti : Stmt} {eb : Expr} {np hpos tpos apos epos rp rpos pos1 pos2 cpos : Pos} (o : OwnX X.prog X.w X.K X.mg X.base y stg ps k n f C φ) (T : ErrT X.K X.mg x f sti q C fI) (hr : RoomG k X.A)
    (hb : ∀ (kV doc pm : Value) (an : Option Addr) (cdv ct : Value) (us : List Value), us.length = ps.length → bindArgs (PySem.W.fnOf y y (defArgs stg) (defBody stg) (defScope stg) .none kV doc pm an cdv ct) ⟨us, []⟩ = pure (ps.zip us))
    (hta : ∀ (pn : List (Addr × Obj)) (xe : Value → Shared → Prop), PA (X.tr pn xe) (e :: es) ta) (lta : LA X.K ta da) (hN : X.N.Nodup) (hrep : X.mg "repr" = none)
    (hdb : ∀ (a : Addr) (pn : List (Addr × Obj)), PD (X.suite a pn) eb db) (hbm : behindInMarks .Eq eb = false)
    (hiE : X.N[iE]? = some en := by rfl) (hs : X.stack = X.env :: X.outer := by rfl) (hf : X.env.frame = some X.env.locals := by rfl) (hlE : X.env.kindOf en = some .local := by rfl) (hvE : Vis X.env.scope en := by exact Or.inl rfl)
    (hdE : (en == ("__debug__" : Str)) = false := by decide) (hcE : (en == ("__classdict__" : Str)) = false := by decide) (hgx : Gl X x := by rfl) (hdx : (x == ("__debug__" : Str)) = false := by decide) (hgy : Gl X y := by rfl) (hdy : (y == ("__debug__" : Str)) = false := by decide) (hgr : Gl X "repr" := by rfl)
    (he1 : starEach (e :: es) X.env = (false, eval e X.env) :: starEach es X.env := by rfl) (hp1 : (backTo pos (starEach es X.env)).any (·.1) = false := by rfl)
    (hs1 : swapsWith (.Call (.Name y p) (e :: es) [] pos) none pos1.line X.env = pure false := by rfl)
    (hbE : attributeBase (.Name en epos) f X.env (eval (.Name en epos) X.env) = eval (.Name en epos) X.env := by rfl)
    (he2 : starEach [.Attribute (.Name en epos) f apos] X.env = (false, eval (.Attribute (.Name en epos) f apos) X.env) :: starEach [] X.env := by rfl) (hp2 : (backTo rpos (starEach [] X.env)).any (·.1) = false := by rfl) :
    PDS X (.Try [.Expr (.Call (.Name y p) (e :: es) [] pos) pos1] [.ExceptHandler (some (.Name x np)) (some en) [.Return (some (.Compare (.Call (.Name "repr" rp) [.Attribute (.Name en epos) f apos] [] rpos) [.Eq] [eb] cpos)) pos2] hpos] [] [] tpos) (dTryR iE n φ da db) := by
  obtain ⟨g, fd, F, G, hm⟩ := o
  refine ⟨_, ps_try_as (i := iE) (tb := fun W => tDrop (tCallS (SpX X.K n f C φ) (WE W) ta)) (ts := fun a cls d => tRet (tOp (fun x y H Q => L2.rEq x y H Q ∨ rEqD X.K x y H Q) (tCB (rReprV X.K) (tCons (tXf a cls d C f (tVar iE)) tNil)) (teOf X.K db))) (Wout := fun _ _ _ _ => False) hs hf hN hiE hlE ⟨hgx, hdx, Or.inl T.gC⟩ takes0
      (fun W pn xe tk _ => pss_one (ps_expr (pe_callSG G hr hgy hm F.kp (F.binds hb) (fun σ => passAt tk σ) (hta pn xe) hdy he1 hp1) hs1))
      (fun a oe cls d pn hz hff => pss_one (ps_ret (pe_cmpR (op_eqV (X := X.suite a ((a, oe) :: pn)) hr.u64) (pe_callB (cr_repr (X := X.suite a ((a, oe) :: pn)) hr.u128 hr.g) hgr hrep (by decide +kernel) (pa_cons (pe_xf T.xfc T.noF hz hff (pe_var hiE hvE hdE hcE) hbE) pa_nil he2) (by decide) (by decide) he2 hp2) (hdb a ((a, oe) :: pn)).of hbm))), fun D' ρ μ h W σ H hE r D hd => ?_⟩
  obtain ⟨hil, h⟩ := h
  refine lta ρ μ _ h W σ H hE r _ fun vs ss W1 H1 μ1 le1 r1 hss h1 => ?_
  obtain ⟨hn, h1⟩ := h1
  have hE1 := hE.mono le1
  refine ⟨W1, ss, μ1, _, _, by rw [hss.length]; exact hn, hss, r1, h1, fun v s W2 H2 μ2 le2 r2 hs2 h2 => ?_, fun v s W2 H2 μ2 dx le2 r2 hs2 hx h2 => ?_⟩
  · exact hd.nx _ _ W2 H2 μ2 (le1.trans le2) r2 (hE1.mono le2) h2
  · obtain ⟨d, hrd, hok, h2⟩ := h2
    refine ⟨true, T.te, fun _ a0 _ => ?_, fun z => Bool.noConfusion z⟩
    have hil' : iE < σ.length := by rw [hE.len]; exact hil
    refine ⟨.ref a0, List.getElem?_set_self hil', rfl, rfl, dx, _, v, rfl, hx, by simp [List.lookup], ?_⟩
    refine ⟨v, d, rfl, rd_dp r2 hs2 hrd, hok, ?_⟩
    refine ⟨W2, ρ.set iE Option.none, μ2, _, (hE1.mono le2).none iE _, r2, h2, fun z s3 W3 H3 μ3 le3 r3 hz h3 => ?_⟩
    exact lr_eq (.dat (.str d.shown)) s3 μ3 _ h3 W3 H3 _ _ r3 (show SlOk X.K W3 (.str d.shown) (.dat (.str d.shown)) from Dv.str _) hz _ (hd.rt.le ((le1.trans le2).trans le3))
end
end DL
namespace DL
open PySem PySem.Spec PyProof.Rows L2 Evl
section
variable {P : Program} {w : World} {A : Around} {E : Value → Shared → Prop} {s : Shared}
theorem listSet {l : Addr} {items : Array Value} (ns : List Int) {Q : Value → Shared → Prop} (nohand : A.handled = none) (isl : s.heap.IsList l items) (allI : IntsAre items.toList ns) (few : ns.length + 1 < scanBound)
    (fin : ∀ (h' : Heap) (tk c : Nat), SetR w h' s.heap.objs.size (fun j => decide (j ∈ ns)) c → c ≤ ns.length → (∀ b o, s.heap.get? b = some o → h'.get? b = some o) → Q (.ref s.heap.objs.size) { s with heap := h', toks := tk }) :
    wpAny (model P w) A (call (.type "set") [.ref l]) Q E s := by
  have size : items.size = ns.length := by have := IntsAre.length allI; rwa [Array.length_toList] at this
  have ls : l < s.heap.objs.size := let ⟨_, e, _⟩ := isl; Heap.lt_size e
  have z1 : ((s.heap.push (Obj.mk (.type "set") none (Data.set #[] 0 (.fresh 0 0 (!w.params.followText "set-order"))) #[]))).objs.size = s.heap.objs.size + 1 := Heap.size_push ..
  have at0 : ((s.heap.push (Obj.mk (.type "set") none (Data.set #[] 0 (.fresh 0 0 (!w.params.followText "set-order"))) #[]))).get? s.heap.objs.size = some (Obj.mk (.type "set") none (Data.set #[] 0 (.fresh 0 0 (!w.params.followText "set-order"))) #[]) := Heap.get?_push_size _ rfl
  obtain ⟨k1, k2, k3⟩ := F.called_set.mro; have k4 := F.called_set.made; have k5 := F.called_set.sub
  refine wpAny_call (codeAny_of_tree ?_); show wpAny _ _ (callAny (.type "set") _) _ _ _
  refine wpAny_pure ⟨Code.quiet_builtin _ (by decide +kernel), codeAny_builtin F.entry_type_call (by
    rw [Around.under_plain (weight_type_call_type "set" [.ref l] []) rfl]
    have k6 := F.called_set.notType; have k7 := F.called_set.canCreate; have k8 := F.typeCall_set_1 (.ref l)
    repeat any_goals (first | wp_step | assumption)
    refine codeAny_mono (code_set_led1 (.ref l) (E := E) (Q₁ := fun v t => v = .ref s.heap.objs.size ∧ t = { s with heap := (s.heap.push (Obj.mk (.type "set") none (Data.set #[] 0 (.fresh 0 0 (!w.params.followText "set-order"))) #[])) }) ⟨rfl, rfl⟩) fun r t hr => ?_
    rcases r with ⟨v⟩ | fl
    · exact hr
    cases fl with
    | ret v =>
      obtain ⟨rfl, rfl⟩ := hr
      have ty0 : Shared.TypeIs { s with heap := (s.heap.push (Obj.mk (.type "set") none (Data.set #[] 0 (.fresh 0 0 (!w.params.followText "set-order"))) #[])) } (.ref s.heap.objs.size) "set" := ⟨_, at0, rfl⟩
      have k9 := F.called_set.init.lookup; have k10 := F.called_set.init.bind (.ref s.heap.objs.size)
      repeat any_goals (first | wp_step | assumption)
      refine codeAny_mono (codeAny_call_builtin (R := wants (fun v t => v = .none ∧ ∃ h' tk c, t = { s with heap := h', toks := tk } ∧ (SetR w h' s.heap.objs.size (fun j => decide (j ∈ ns)) c ∧ c ≤ ns.length) ∧ ∀ b o, s.heap.get? b = some o → h'.get? b = some o) E)
        F.called_set.init.plain F.entry_set_init (check_set_init_1 ty0 ?_)) fun r2 t2 hr2 => ?_
      · obtain ⟨⟨lc, ld, lx, lslots⟩, e0, e1, n, e2⟩ := isl
        cases e1; cases e2
        have at1 : ((s.heap.push (Obj.mk (.type "set") none (Data.set #[] 0 (.fresh 0 0 (!w.params.followText "set-order"))) #[]))).get? l = some { cls := .type "list", dict := ld, data := .seq items n, slots := lslots } := Heap.get?_push_of_some _ e0
        have k11 := F.sub_list_set; have k12 := F.sub_list_frozenset
        have k13 : (Value.type "list" == Value.type "dict") = false := by decide
        have isl1 : ((s.heap.push (Obj.mk (.type "set") none (Data.set #[] 0 (.fresh 0 0 (!w.params.followText "set-order"))) #[]))).IsList l items := ⟨_, at1, rfl, n, rfl⟩
        have ne1 : l ≠ ((s.heap.push (Obj.mk (.type "set") none (Data.set #[] 0 (.fresh 0 0 (!w.params.followText "set-order"))) #[]))).objs.size := by rw [z1]; exact Nat.ne_of_lt (Nat.lt_succ_of_lt ls)
        unfold Builtin.«set.__init__» noKeywords Builtin.Frozenset.updateFrom
        generalize gg : pyIter = it
        wp_walk
        subst gg
        refine wpAny_pyIter_list isl1 (wpAny_bind (wpAny_runValue ?_))
        have each : ∀ (i : Nat) (v : Value), items[i]? = some v → ∃ k t, ns[i]? = some k ∧ v = .int k t := fun i v hv => by
          have lt : i < ns.length := size ▸ (Array.getElem?_eq_some_iff.mp hv).1
          obtain ⟨t, e⟩ := IntsAre.int_at allI i v (by rwa [Array.getElem?_toList])
          exact ⟨ns[i], t, List.getElem?_eq_getElem lt, by rw [e, List.getD_eq_getElem?_getD, List.getElem?_eq_getElem lt] <;> rfl⟩
        refine set_update_ints ((Walks.list (by simp [nohand]) _ l ne1 items).toS) s.heap.objs.size (by
          rw [z1]; simp only [List.mem_cons, List.not_mem_nil, or_false, not_or]; exact ⟨Nat.ne_of_lt (Nat.lt_succ_self _), Nat.ne_of_gt ls⟩) ns size few each (items.size - 0) 0 _ (by omega) (Nat.zero_le _)
          ⟨⟨_, Heap.get?_push_size _ rfl, rfl, rfl⟩, isl1.push _⟩ ⟨0, Nat.le_refl 0, setR_new_at (Heap.get?_push_of_some _ at0)⟩ fun t c mv hc hS => ?_
        obtain ⟨h', g2, d2, tk, os2⟩ := t
        obtain ⟨q1, q2, q3⟩ : g2 = s.gens ∧ d2 = s.drawn ∧ os2 = s.os := ⟨mv.gens, mv.drawn, mv.os⟩
        subst q1 q2 q3
        show wpAny _ _ _ _ _ _
        refine wpAny_pure ?_; show wpAny _ _ (ret Value.none) _ _ _
        refine wpAny_pure ⟨rfl, h', tk, c, rfl, ⟨hS, size ▸ hc⟩, fun b o e => ?_⟩
        have lb := Heap.lt_size e
        exact mv.heap b o (by rw [z1]; simp only [List.mem_cons, List.not_mem_nil, or_false, not_or]; exact ⟨Nat.ne_of_lt lb, Nat.ne_of_lt (Nat.lt_succ_of_lt lb)⟩) (Heap.get?_push_of_some _ (Heap.get?_push_of_some _ e))
      · rcases r2 with ⟨v⟩ | fl2
        · exact hr2
        cases fl2 with
        | ret v =>
          obtain ⟨rfl, h', tk, c, rfl, ⟨hS, hc⟩, keep⟩ := hr2
          repeat any_goals (first | wp_step | assumption)
          exact fin _ _ _ hS hc keep
        | _ => exact hr2.elim
    | _ => exact hr.elim)⟩
end
section
variable {X : Cx}
def rUpSet2 (K : PySem.W.Frag) : V → Hp → VK → Prop := fun x H1 Q => ∃ (l : Addr) (ns : List Int), x = .ref l ∧ (SqL K H1 l (ns.map V.int) ∨ SqT K H1 l (ns.map V.int)) ∧ ns.length < 63 ∧ ∀ (ms : List Int) (p : Addr), IsUp ns ms → H1 p = none → Q (.ref p) (upd H1 p (.lst (ms.map V.int)))
theorem pe_upSet2 {a : Expr} {ta : TE} {p p2 q pos : Pos} (hc : X.calm = true) (hg : Gl X "sorted") (hm : X.mg "sorted" = none) (hg2 : Gl X "set") (hm2 : X.mg "set" = none) (ha : PE X a ta)
    (na : starEach [a] X.env = (false, eval a X.env) :: starEach [] X.env := by rfl) : PE X (.Call (.Name "sorted" p) [.Call (.Name "set" p2) [a] [] q] [] pos) (fun σ H Q => ta σ H fun x H1 => rUpSet2 X.K x H1 Q) := by
  refine ⟨fun pins s σ H Q I h => ?_⟩
  refine Call_ (ld_blt I hg hm (by decide +kernel : bootBuiltins "sorted" = some (.builtin "sorted")) ?_)
  refine PyProof.Rows.callWith_builtin1 (PyProof.Rows.args_cons ?_ rfl) rfl rfl
  refine Call_ (ld_blt I hg2 hm2 PyProof.Rows.boot_set ?_)
  refine PyProof.Rows.callWith_type1 (PyProof.Rows.args_cons (thn (ha.run pins s σ H _ I h) fun v s1 ⟨x, H1, I1, r1, q1⟩ => PyProof.Rows.args_nil ?_) na) na rfl
  obtain ⟨l, ns, rfl, hq, hl, q1⟩ := q1
  cases r1
  rcases hq with hq | hq
  · obtain ⟨its, r, pl, hz⟩ := I1.list hq
    refine listSet ns (I1.ok.hd hc) pl.isList (by simpa using ints_of_vals r) (by unfold scanBound; omega) fun h' tk c R1 hcn k => ?_
    refine PyProof.Rows.args_nil ?_
    have I : Inv X pins σ H1 { s1 with heap := h', toks := tk } := I1.kept fun b o e => k b o e
    obtain ⟨s2, e2⟩ : ∃ s2 : Shared, s2 = { s1 with heap := h', toks := tk } := ⟨_, rfl⟩
    have R2 : SetR X.w s2.heap s1.heap.objs.size (fun j => decide (j ∈ ns)) c := by rw [e2]; exact R1
    rw [← e2] at I ⊢
    refine sorted_set R2 (I.ok.hd hc) (by omega) fun s' p out c2 ms k2 g o hp hg' hi hs hmm hlen => ?_
    have hl2 : (ms.map V.int).length ≤ sizeLine := by rw [List.length_map, hlen, sizeLine_eq]; omega
    have hn : H1 p = none := I.hok.fresh hp
    have J0 : Inv X pins σ (upd H1 p (.lst (ms.map V.int))) { s2 with heap := s'.heap, gens := s'.gens, drawn := s'.drawn, toks := s'.toks } :=
      I.call (ch := []) (Un.laid k2 hp hn) (I.hok.laid k2 hp ⟨hl2, out.toList, c2, vals_of_ints hi, hg'⟩) (by rw [g]; exact I.bare) (fun _ z => nomatch z)
    have J : Inv X pins σ (upd H1 p (.lst (ms.map V.int))) s' := by
      cases s' with
      | mk a b c d e =>
        cases o
        exact J0
    exact ⟨.ref p, _, J, rfl, q1 ms p ⟨hs, fun z => by rw [hmm z, decide_eq_true_iff]⟩ hn⟩
  · obtain ⟨its, r, pl, hz⟩ := I1.tuple hq
    refine call_set_tupI ns (I1.ok.hd hc) pl (by simpa using ints_of_vals r) (by unfold scanBound; omega) fun h' tk c R1 hcn k => ?_
    refine PyProof.Rows.args_nil ?_
    have I : Inv X pins σ H1 { s1 with heap := h', toks := tk } := I1.kept fun b o e => k b o e
    obtain ⟨s2, e2⟩ : ∃ s2 : Shared, s2 = { s1 with heap := h', toks := tk } := ⟨_, rfl⟩
    have R2 : SetR X.w s2.heap s1.heap.objs.size (fun j => decide (j ∈ ns)) c := by rw [e2]; exact R1
    rw [← e2] at I ⊢
    refine sorted_set R2 (I.ok.hd hc) (by omega) fun s' p out c2 ms k2 g o hp hg' hi hs hmm hlen => ?_
    have hl2 : (ms.map V.int).length ≤ sizeLine := by rw [List.length_map, hlen, sizeLine_eq]; omega
    have hn : H1 p = none := I.hok.fresh hp
    have J0 : Inv X pins σ (upd H1 p (.lst (ms.map V.int))) { s2 with heap := s'.heap, gens := s'.gens, drawn := s'.drawn, toks := s'.toks } :=
      I.call (ch := []) (Un.laid k2 hp hn) (I.hok.laid k2 hp ⟨hl2, out.toList, c2, vals_of_ints hi, hg'⟩) (by rw [g]; exact I.bare) (fun _ z => nomatch z)
    have J : Inv X pins σ (upd H1 p (.lst (ms.map V.int))) s' := by
      cases s' with
      | mk a b c d e =>
        cases o
        exact J0
    exact ⟨.ref p, _, J, rfl, q1 ms p ⟨hs, fun z => by rw [hmm z, decide_eq_true_iff]⟩ hn⟩
def fUpSet2 : DR1 := fun x μ Q => match rd μ x with
  | some (.tuple ds) => match intsOf ds with
    | some ns => ns.length < 63 ∧ ∀ ms : List Int, IsUp ns ms → Q (.dat (.list (ms.map PyData.int))) μ
    | none => False
  | some (.list ds) => match intsOf ds with
    | some ns => ns.length < 63 ∧ ∀ ms : List Int, IsUp ns ms → Q (.dat (.list (ms.map PyData.int))) μ
    | none => False
  | _ => False
theorem lr_upSet2 {K : PySem.W.Frag} : LR1 K (rUpSet2 K) fUpSet2 := fun x μ Q' h W H vx r hx Q q => by
  unfold fUpSet2 at h
  split at h
  · rename_i ds e1
    split at h
    · rename_i ns qq
      cases of_intsOf qq
      obtain ⟨a, ys, rfl, hl, hi⟩ := rd_tup r hx e1
      cases DvAll.of_ints ns hi
      exact ⟨a, ns, rfl, .inr hl, h.1, fun ms p hm hp => q.newL (b := false) r (DvAll.ints _) (h.2 ms hm) p hp⟩
    · exact h.elim
  · rename_i ds e1
    split at h
    · rename_i ns qq
      cases of_intsOf qq
      obtain ⟨a, ys, rfl, hl, hi⟩ := rd_lst r hx e1
      cases DvAll.of_ints ns hi
      exact ⟨a, ns, rfl, .inl hl, h.1, fun ms p hm hp => q.newL (b := false) r (DvAll.ints _) (h.2 ms hm) p hp⟩
    · exact h.elim
  · exact h.elim
theorem pd_upSet2 {a : Expr} {d : DE} {p p2 q pos : Pos} (hc : X.calm = true) (ha : PD X a d) (hm : X.mg "sorted" = none) (hm2 : X.mg "set" = none) (hg : Gl X "sorted" := by rfl) (hg2 : Gl X "set" := by rfl)
    (na : starEach [a] X.env = (false, eval a X.env) :: starEach [] X.env := by rfl) : PD X (.Call (.Name "sorted" p) [.Call (.Name "set" p2) [a] [] q] [] pos) (dUn fUpSet2 d) := by
  obtain ⟨t, p1, l1⟩ := ha
  exact ⟨_, pe_upSet2 hc hg hm hg2 hm2 p1 na, le_un lr_upSet2 l1⟩
theorem o_upSet2 {ns : List Int} {μ : Mu} {Q : DQ} : fUpSet2 (.dat (.tuple (ns.map PyData.int))) μ Q = (ns.length < 63 ∧ ∀ ms : List Int, IsUp ns ms → Q (.dat (.list (ms.map PyData.int))) μ) := by simp [fUpSet2, ints_of_map]
end
end DL
namespace K24
open PySem PySem.Spec PyProof.Rows L2 Evl DL
open WL
def ph_is_listed : DF := fun ss μ Q => ∃ s ds, ss = [s] ∧ Sq μ s ds ∧ Q (.dat (.bool true)) μ
def Small2 (c s : List Int) : Prop := c.length ≤ 100 ∧ s.length ≤ 100
def ph_has_more : DF := fun ss μ Q => ∃ c s, ss = [.dat (rowI c), .dat (rowI s)] ∧ Small2 c s ∧ Q (.dat (.bool (c.any fun x => !decide (x ∈ s)))) μ
def ph_do_cross : DF := fun ss μ Q => ∃ c s, ss = [.dat (rowI c), .dat (rowI s)] ∧ Small2 c s ∧ Q (.dat (.bool (crossB c s))) μ
def twoD (c s : List Int) : PyData := .tuple [rowI c, rowI s]
def ph_become : DF := fun ss μ Q => ∃ c s, ss = [.dat (rowI c), .dat (rowI s)] ∧ Small2 c s ∧ Q (.dat (twoD (interL c s) (unionL c s))) μ
def ph_check_two_cuts : DF := fun ss μ Q => ∃ n ts c s, ss = [.dat (webD n ts), .dat (rowI c), .dat (rowI s)] ∧ (WebOk n ts ∧ Cut n c ∧ Cut n s ∧ Small2 c s) ∧ Q (.dat .none) μ
def ph_check_cuts : DF := fun ss μ Q => ∃ n ts s cs, ss = [.dat (webD n ts), s] ∧ (WebOk n ts ∧ CutsOk n cs) ∧ Sq μ s (cs.map rowI) ∧ Q (.dat .none) μ
def uncD (c s : List Int) : PyData := if crossB c s then twoD (interL c s) (unionL c s) else twoD c s
def ph_cuts_cross : DF := fun ss μ Q => ∃ n ts c s, ss = [.dat (webD n ts), .dat (rowI c), .dat (rowI s)] ∧ (WebOk n ts ∧ Cut n c ∧ Cut n s ∧ Small2 c s) ∧ Q (.dat (.bool (crossB c s))) μ
def ph_uncrossed : DF := fun ss μ Q => ∃ n ts c s, ss = [.dat (webD n ts), .dat (rowI c), .dat (rowI s)] ∧ (WebOk n ts ∧ Cut n c ∧ Cut n s ∧ Small2 c s) ∧ Q (.dat (uncD c s)) μ
def optD : Option (Nat × Nat) → PyData
  | none => .none
  | some p => .tuple [.int (p.1 : Nat), .int (p.2 : Nat)]
def FewL (cs : List (List Int)) : Prop := cs.length ≤ 100 ∧ ∀ c ∈ cs, c.length ≤ 100
def ph_first_crossing : DF := fun ss μ Q => ∃ s cs, ss = [s] ∧ FewL cs ∧ Sq μ s (cs.map rowI) ∧ Q (.dat (optD (firstX cs))) μ
def ph_is_laminar : DF := fun ss μ Q => ∃ n ts s cs, ss = [.dat (webD n ts), s] ∧ (WebOk n ts ∧ CutsOk n cs) ∧ Sq μ s (cs.map rowI) ∧ Q (.dat (.bool (firstX cs).isNone)) μ
def ph_made_laminar : DF := fun ss μ Q => ∃ n ts s cs, ss = [.dat (webD n ts), s] ∧ (WebOk n ts ∧ CutsOk n cs) ∧ Sq μ s (cs.map rowI) ∧ TwoQ Q ((lamL cs).map rowI) μ
def ph_holder : DF := fun ss μ Q => ∃ s cs, ∃ i : Nat, ss = [s, .dat (.int (i : Nat))] ∧ (FewL cs ∧ i < cs.length) ∧ Sq μ s (cs.map rowI) ∧ Q (.dat (holdD cs (cs.getD i []))) μ
def Calm (cs : List (List Int)) : Prop := risingB (cs.map rowI) = true ∧ firstX cs = none
instance (cs : List (List Int)) : Decidable (Calm cs) := inferInstanceAs (Decidable (_ ∧ _))
def ph_holders : DF := fun ss μ Q => ∃ n ts s cs, ss = [.dat (webD n ts), s] ∧ (WebOk n ts ∧ CutsOk n cs ∧ Calm cs) ∧ (s = .dat (.list (cs.map rowI)) ∨ s = .dat (.tuple (cs.map rowI))) ∧ Q (.dat (.list (cs.map (holdD cs)))) μ
def phX_holders : DFX := fun ss μ Q R => ∃ n ts cs, ss = [.dat (webD n ts), .dat (.list (cs.map rowI))] ∧ (WebOk n ts ∧ CutsOk n cs) ∧ ¬ Calm cs ∧ R (.dat (.list (cs.map rowI))) μ
def ph_law_pick : DF := fun ss μ Q => ∃ k s ds, ss = [.cell k, s] ∧ Pot μ k ∧ (∀ μ', Ch k μ μ' → rd μ' s = some (.list ds) ∧ isV s = false) ∧ (0 < ds.length ∧ ds.length ≤ 1000) ∧ ∀ x μ', x ∈ ds → Ch k μ μ' → Q (.dat x) μ'
def Two2 (c s : List Int) : Prop := Small2 c s ∧ c.Nodup ∧ s.Nodup
def ph_law_do_cross : DF := fun ss μ Q => ∃ c s, ss = [.dat (rowI c), .dat (rowI s)] ∧ Two2 c s ∧ Q (.dat (.bool (crossB c s))) μ
def ph_law_uncrossed : DF := fun ss μ Q => ∃ c s, ss = [.dat (rowI c), .dat (rowI s)] ∧ (Two2 c s ∧ c.length + s.length < 60) ∧ Q (.dat (uncD c s)) μ
def NdL (cs : List (List Int)) : Prop := FewL cs ∧ ∀ c ∈ cs, c.Nodup
def ph_law_first : DF := fun ss μ Q => ∃ s cs, ss = [s] ∧ NdL cs ∧ Sq μ s (cs.map rowI) ∧ Q (.dat (optD (firstX cs))) μ
def ph_law_laminar : DF := fun ss μ Q => ∃ n s cs, ss = [s] ∧ (n ≤ 8 ∧ CutsOk n cs) ∧ (isV s = false ∧ rd μ s = some (.list (cs.map rowI))) ∧ Q (.dat (.list ((lamL cs).map rowI))) μ
def ph_law_holder : DF := fun ss μ Q => ∃ n cs c, ss = [.dat (.list (cs.map rowI)), .dat (rowI c)] ∧ (n ≤ 8 ∧ CutsOk n cs ∧ Cut n c) ∧ Q (.dat (holdD cs c)) μ
def ph_law_two_right : DF := fun ss μ Q => ∃ n ts c s, ss = [.dat (webD n ts), .dat (rowI c), .dat (rowI s)] ∧ (WebOk n ts ∧ Cut n c ∧ Cut n s) ∧ Q (.dat (.bool true)) μ
def ph_law_is_refused : DF := fun ss μ Q => ∃ n ts cs, ss = [.dat (webD n ts), .dat (.list (cs.map rowI))] ∧ (WebOk n ts ∧ CutsOk n cs ∧ ¬ Calm cs) ∧ Q (.dat (.bool true)) μ
def ph_law_right : DF := fun ss μ Q => ∃ k, ss = [.cell k] ∧ Pot μ k ∧ ∀ μ', Ch k μ μ' → Q (.dat (.bool true)) μ'
def ph_law : DF := lawF
end K24
namespace K24
open PySem PySem.Spec PyProof.Rows L2 Evl DL
def ds_is_listed : DS := (dRet (dUn (fIsi2 .lst .tup) (dVar 0)))
def ds_has_more : DS := (dRet (dCB fAny (aCons (dLc (iSeq (dVar 0)) (gN 2) dYes (dOp (wIn not) (dVar 2) (dVar 1)) [2]) aNil)))
def ds_do_cross : DS := (dSeq (dAsg (dLc (iSeq (dVar 0)) (gN 3) (dTest (dOp (wIn id) (dVar 3) (dVar 1))) (dVar 3) [3]) 2)
    (dRet (dAndV (dOp rNe (dVar 2) (dLst aNil)) (dAndV (dCall 2 ph_has_more (aCons (dVar 0) (aCons (dVar 1) aNil))) (dCall 2 ph_has_more (aCons (dVar 1) (aCons (dVar 0) aNil)))))))
def ds_become : DS := (dSeq (dAsg (dLc (iSeq (dVar 0)) (gN 4) (dTest (dOp (wIn id) (dVar 4) (dVar 1))) (dVar 4) [4]) 2)
    (dSeq (dAsg (dOp rAdd (dCB fList (aCons (dVar 0) aNil)) (dLc (iSeq (dVar 1)) (gN 4) (dTest (dOp (wIn not) (dVar 4) (dVar 0))) (dVar 4) [4])) 3)
    (dRet (dTup (aCons (dCB fTuple (aCons (dVar 2) aNil)) (aCons (dCB fTuple (aCons (dCB fSorted (aCons (dVar 3) aNil)) aNil)) aNil))))))
def ds_check_two_cuts : DS := (dSeq (dDrop (dCall 1 WL.ph_check_web (aCons (dVar 0) aNil)))
    (dSeq (dDrop (dCall 2 WL.ph_check_cut (aCons (dVar 0) (aCons (dVar 1) aNil))))
    (dDrop (dCall 2 WL.ph_check_cut (aCons (dVar 0) (aCons (dVar 2) aNil))))))
def ds_check_cuts : DS := (dSeq (dDrop (dCall 1 WL.ph_check_web (aCons (dVar 0) aNil)))
    (dIfS (dOr (dNot (dTru (dCall 1 ph_is_listed (aCons (dVar 1) aNil)))) (dOr (dTest (dOp wGt (dCB fLen (aCons (dVar 1) aNil)) (dC (.int 12)))) (dNot (dTru (dCB fAll (aCons (dLc (iSeq (dVar 1)) (gN 2) dYes (dCall 2 WL.ph_is_cut (aCons (dVar 0) (aCons (dVar 2) aNil))) [2]) aNil)))))) dNever dNext))
def ds_cuts_cross : DS := (dSeq (dDrop (dCall 3 ph_check_two_cuts (aCons (dVar 0) (aCons (dVar 1) (aCons (dVar 2) aNil)))))
    (dRet (dCall 2 ph_do_cross (aCons (dVar 1) (aCons (dVar 2) aNil)))))
def ds_uncrossed : DS := (dSeq (dDrop (dCall 3 ph_check_two_cuts (aCons (dVar 0) (aCons (dVar 1) (aCons (dVar 2) aNil)))))
    (dRet (dIf (dTru (dCall 2 ph_do_cross (aCons (dVar 1) (aCons (dVar 2) aNil)))) (dCall 2 ph_become (aCons (dVar 1) (aCons (dVar 2) aNil))) (dTup (aCons (dVar 1) (aCons (dVar 2) aNil))))))
def ds_first_crossing : DS := (dSeq (dFor (iEn (aCons (dVar 0) aNil)) (gT 2 (gsCons (gN 1) (gsCons (gN 2) gsNil))) (dFor (iRg2 (aCons (dOp rAdd (dVar 1) (dC (.int 1))) (aCons (dCB fLen (aCons (dVar 0) aNil)) aNil))) (gN 3) (dIfS (dTru (dCall 2 ph_do_cross (aCons (dVar 2) (aCons (dOp rIx (dVar 0) (dVar 3)) aNil)))) (dRet (dTup (aCons (dVar 1) (aCons (dVar 3) aNil)))) dNext)))
    (dRet (dC .none)))
def ds_is_laminar : DS := (dSeq (dDrop (dCall 2 ph_check_cuts (aCons (dVar 0) (aCons (dVar 1) aNil))))
    (dRet (dOp (rIs false) (dCall 1 ph_first_crossing (aCons (dVar 1) aNil)) (dC .none))))
def ds_made_laminar : DS := (dSeq (dDrop (dCall 2 ph_check_cuts (aCons (dVar 0) (aCons (dVar 1) aNil))))
    (dSeq (dAsg (dCB fSortedAC (aCons (dVar 1) aNil)) 2)
    (dSeq (dAsg (dCall 1 ph_first_crossing (aCons (dVar 2) aNil)) 3)
    (dSeq (dWhile (dTest (dOp (rIs true) (dVar 3) (dC .none))) (dSeq (dAsgG (dVar 3) (gT 2 (gsCons (gN 4) (gsCons (gN 5) gsNil))))
    (dSeq (dAsg (dOp rAdd (dOp rAdd (dSl (dVar 2) oNone (oSome (dVar 4))) (dSl (dVar 2) (oSome (dOp rAdd (dVar 4) (dC (.int 1)))) (oSome (dVar 5)))) (dSl (dVar 2) (oSome (dOp rAdd (dVar 5) (dC (.int 1)))) oNone)) 6)
    (dSeq (dAsg (dCB fSortedAC (aCons (dOp rAdd (dVar 6) (dCB fList (aCons (dCall 2 ph_become (aCons (dOp rIx (dVar 2) (dVar 4)) (aCons (dOp rIx (dVar 2) (dVar 5)) aNil))) aNil))) aNil)) 2)
    (dAsg (dCall 1 ph_first_crossing (aCons (dVar 2) aNil)) 3)))))
    (dRet (dVar 2))))))
def ds_holder : DS := (dSeq (dAsg (dOp rIx (dVar 0) (dVar 1)) 2)
    (dSeq (dAsg (dLc (iEn (aCons (dVar 0) aNil)) (gT 2 (gsCons (gN 4) (gsCons (gN 5) gsNil))) (dAnd (dTru (dCall 2 ph_has_more (aCons (dVar 5) (aCons (dVar 2) aNil)))) (dNot (dTru (dCall 2 ph_has_more (aCons (dVar 2) (aCons (dVar 5) aNil)))))) (dTup (aCons (dCB fLen (aCons (dVar 5) aNil)) (aCons (dVar 4) aNil))) [4, 5]) 3)
    (dRet (dIf (dTru (dVar 3)) (dOp rIx (dCB fMin1 (aCons (dVar 3) aNil)) (dC (.int 1))) (dC .none)))))
def ds_holders : DS := (dSeq (dDrop (dCall 2 ph_check_cuts (aCons (dVar 0) (aCons (dVar 1) aNil))))
    (dSeq (dIfS (dOr (dNot (dTru (dCall 1 WL.ph_is_rising (aCons (dVar 1) aNil)))) (dTest (dOp (rIs true) (dCall 1 ph_first_crossing (aCons (dVar 1) aNil)) (dC .none)))) dNever dNext)
    (dRet (dLc (iRg1 (aCons (dCB fLen (aCons (dVar 1) aNil)) aNil)) (gN 2) dYes (dCall 2 ph_holder (aCons (dVar 1) (aCons (dVar 2) aNil))) [2]))))
def ds_law_pot : DS := (dSeq (dAsg (dIf (dTest (dOp wLt (dVar 1) (dCB fLen (aCons (dVar 0) aNil)))) (dCB fAbs (aCons (dOp rIx (dVar 0) (dVar 1)) aNil)) (dOp rAdd (dOp rMul (dC (.int 1171)) (dVar 1)) (dC (.int 677)))) 2)
    (dSeq (dAsg (dOp rAdd (dOp rMd (dCB fInt (aCons (dOp rAdd (dOp rAdd (dOp rMul (dOp rMd (dCB fInt (aCons (dVar 2) aNil)) (dC (.int 2147483549))) (dC (.int 48271))) (dOp rMul (dC (.int 9623)) (dVar 1))) (dC (.int 107))) aNil)) (dC (.int 2147483563))) (dC (.int 1))) 3)
    (dRet (dLstC (aCons (dCB fMax2 (aCons (dC (.int 0)) (aCons (dOp rSub (dVar 2) (dOp rPw (dC (.int 10)) (dC (.int 18)))) aNil))) (aCons (dVar 3) aNil))))))
def ds_law_draw : DS := (dSeq (dIfS (dTest (dOp wGt (dOp rIx (dVar 0) (dC (.int 0))) (dC (.int 0)))) (dSeq (dAsgG (dCB fDm (aCons (dOp rIx (dVar 0) (dC (.int 0))) (aCons (dVar 1) aNil))) (gT 2 (gsCons (gS (dVar 0) (dC (.int 0))) (gsCons (gN 2) gsNil))))
    (dRet (dVar 2))) dNext)
    (dSeq (dAsgG (dOp rMd (dCB fInt (aCons (dOp rAdd (dOp rMul (dOp rIx (dVar 0) (dC (.int 1))) (dC (.int 40014))) (dC (.int 9623))) aNil)) (dC (.int 2147483563))) (gS (dVar 0) (dC (.int 1))))
    (dRet (dOp rMd (dCB fInt (aCons (dOp rDv (dOp rMd (dCB fInt (aCons (dOp rMul (dOp rIx (dVar 0) (dC (.int 1))) (dOp rIx (dVar 0) (dC (.int 1)))) aNil)) (dC (.int 2147483629))) (dC (.int 19))) aNil)) (dVar 1)))))
def ds_law_pick : DS := (dRet (dOp rIx (dVar 1) (dCall 2 WL.ph_law_draw (aCons (dVar 0) (aCons (dCB fLen (aCons (dVar 1) aNil)) aNil)))))
def ds_law_do_cross : DS := (dSeq (dAsg (dLc (iSeq (dVar 0)) (gN 3) (dTest (dOp (wIn id) (dVar 3) (dVar 1))) (dVar 3) [3]) 2)
    (dRet (dAndV (dOp rNe (dVar 2) (dLst aNil)) (dAndV (dOp wLt (dCB fLen (aCons (dVar 2) aNil)) (dCB fLen (aCons (dVar 0) aNil))) (dOp wLt (dCB fLen (aCons (dVar 2) aNil)) (dCB fLen (aCons (dVar 1) aNil)))))))
def ds_law_uncrossed : DS := (dSeq (dIfS (dNot (dTru (dCall 2 ph_law_do_cross (aCons (dVar 0) (aCons (dVar 1) aNil))))) (dRet (dTup (aCons (dVar 0) (aCons (dVar 1) aNil)))) dNext)
    (dSeq (dAsg (dCB fTuple (aCons (dLc (iSeq (dVar 0)) (gN 3) (dTest (dOp (wIn id) (dVar 3) (dVar 1))) (dVar 3) [3]) aNil)) 2)
    (dRet (dTup (aCons (dVar 2) (aCons (dCB fTuple (aCons (dUn fUpSet2 (dOp rAdd (dVar 0) (dVar 1))) aNil)) aNil))))))
def ds_law_first : DS := (dSeq (dFor (iRg1 (aCons (dCB fLen (aCons (dVar 0) aNil)) aNil)) (gN 1) (dFor (iRg2 (aCons (dOp rAdd (dVar 1) (dC (.int 1))) (aCons (dCB fLen (aCons (dVar 0) aNil)) aNil))) (gN 2) (dIfS (dTru (dCall 2 ph_law_do_cross (aCons (dOp rIx (dVar 0) (dVar 1)) (aCons (dOp rIx (dVar 0) (dVar 2)) aNil)))) (dRet (dTup (aCons (dVar 1) (aCons (dVar 2) aNil)))) dNext)))
    (dRet (dC .none)))
def ds_law_laminar : DS := (dSeq (dAsg (dCB fSorted (aCons (dVar 0) aNil)) 1)
    (dSeq (dAsg (dCall 1 ph_law_first (aCons (dVar 1) aNil)) 2)
    (dSeq (dWhile (dTest (dOp (rIs true) (dVar 2) (dC .none))) (dSeq (dAsgG (dVar 2) (gT 2 (gsCons (gN 3) (gsCons (gN 4) gsNil))))
    (dSeq (dAsg (dCall 2 ph_law_uncrossed (aCons (dOp rIx (dVar 1) (dVar 3)) (aCons (dOp rIx (dVar 1) (dVar 4)) aNil))) 5)
    (dSeq (dAsg (dOp rAdd (dLc (iEn (aCons (dVar 1) aNil)) (gT 2 (gsCons (gN 6) (gsCons (gN 7) gsNil))) (dTest (dOp (wIn not) (dVar 6) (dVar 2))) (dVar 7) [6, 7]) (dCB fList (aCons (dVar 5) aNil))) 1)
    (dSeq (dAsg (dCB fSorted (aCons (dVar 1) aNil)) 1)
    (dAsg (dCall 1 ph_law_first (aCons (dVar 1) aNil)) 2))))))
    (dRet (dVar 1)))))
def ds_law_holder : DS := (dSeq (dAsg (dLc (iEn (aCons (dVar 0) aNil)) (gT 2 (gsCons (gN 3) (gsCons (gN 4) gsNil))) (dAnd (dTest (dOp rNe (dVar 4) (dVar 1))) (dTru (dCB fAll (aCons (dLc (iSeq (dVar 1)) (gN 5) dYes (dOp (wIn id) (dVar 5) (dVar 4)) [5]) aNil)))) (dTup (aCons (dCB fLen (aCons (dVar 4) aNil)) (aCons (dVar 3) aNil))) [3, 4]) 2)
    (dRet (dIf (dTest (dOp rNe (dVar 2) (dLst aNil))) (dOp rIx (dCB fMin1 (aCons (dVar 2) aNil)) (dC (.int 1))) (dC .none))))
def ds_law_two_right : DS := (dSeq (dPar 3 4 (aCons (dCall 2 ph_law_do_cross (aCons (dVar 1) (aCons (dVar 2) aNil))) (aCons (dCall 2 ph_law_uncrossed (aCons (dVar 1) (aCons (dVar 2) aNil))) aNil)))
    (dSeq (dAsg (dLst (aCons (dCall 3 ph_cuts_cross (aCons (dVar 0) (aCons (dVar 1) (aCons (dVar 2) aNil)))) (aCons (dCallK 0 [2, 1, 0] 3 ph_cuts_cross aNil (aCons (dVar 2) (aCons (dVar 1) (aCons (dVar 0) aNil)))) aNil))) 5)
    (dSeq (dIfS (dTest (dOp rNe (dCB fRepr (aCons (dVar 5) aNil)) (dCB fRepr (aCons (dLst (aCons (dVar 3) (aCons (dVar 3) aNil))) aNil)))) (dRet (dC (.bool false))) dNext)
    (dSeq (dIfS (dOr (dTest (dOp rNe (dCall 3 ph_uncrossed (aCons (dVar 0) (aCons (dVar 1) (aCons (dVar 2) aNil)))) (dVar 4))) (dTest (dOp rNe (dCallK 0 [2, 1, 0] 3 ph_uncrossed aNil (aCons (dVar 2) (aCons (dVar 1) (aCons (dVar 0) aNil)))) (dVar 4)))) (dRet (dC (.bool false))) dNext)
    (dSeq (dAsg (dLc (iSeq (dOp rAdd (dTup (aCons (dVar 1) (aCons (dVar 2) aNil))) (dVar 4))) (gN 7) dYes (dCall 2 WL.ph_law_over (aCons (dOp rIx (dVar 0) (dC (.int 2))) (aCons (dVar 7) aNil))) [7]) 6)
    (dRet (dOp wLe (dOp rAdd (dOp rIx (dVar 6) (dC (.int 2))) (dOp rIx (dVar 6) (dC (.int 3)))) (dOp rAdd (dOp rIx (dVar 6) (dC (.int 0))) (dOp rIx (dVar 6) (dC (.int 1)))))))))))
def ds_law_right : DS := (dSeq (dAsg (dOp rAdd (dC (.int 3)) (dCall 2 WL.ph_law_draw (aCons (dVar 0) (aCons (dC (.int 4)) aNil)))) 1)
    (dSeq (dAsg (dCall 4 WL.ph_law_web (aCons (dVar 0) (aCons (dVar 1) (aCons (dC (.int 4)) (aCons (dC (.int 5)) aNil))))) 2)
    (dSeq (dPar 3 4 (aCons (dCall 1 WL.ph_law_cuts (aCons (dVar 1) aNil)) (aCons (dLstC aNil) aNil)))
    (dSeq (dFor (iRg1 (aCons (dOp rAdd (dC (.int 1)) (dCall 2 WL.ph_law_draw (aCons (dVar 0) (aCons (dC (.int 7)) aNil)))) aNil)) (gN 5) (dDrop (dMtL mApp (dVar 4) (aCons (dCall 2 ph_law_pick (aCons (dVar 0) (aCons (dVar 3) aNil))) aNil))))
    (dSeq (dFor (iRg1 (aCons (dC (.int 4)) aNil)) (gN 5) (dIfS (dNot (dTru (dCall 3 ph_law_two_right (aCons (dVar 2) (aCons (dCall 2 ph_law_pick (aCons (dVar 0) (aCons (dVar 3) aNil))) (aCons (dCall 2 ph_law_pick (aCons (dVar 0) (aCons (dVar 4) aNil))) aNil)))))) (dRet (dC (.bool false))) dNext))
    (dSeq (dPar 6 7 (aCons (dCB fRepr (aCons (dVar 4) aNil)) (aCons (dCall 1 ph_law_laminar (aCons (dVar 4) aNil)) aNil)))
    (dSeq (dAsg (dLstC (aCons (dCall 2 ph_is_laminar (aCons (dVar 2) (aCons (dVar 4) aNil))) (aCons (dCallK 0 [1, 0] 2 ph_is_laminar aNil (aCons (dCB fTuple (aCons (dVar 4) aNil)) (aCons (dVar 2) aNil))) (aCons (dCall 2 ph_is_laminar (aCons (dVar 2) (aCons (dVar 7) aNil))) aNil)))) 8)
    (dSeq (dIfS (dTest (dOp rNe (dCB fRepr (aCons (dVar 8) aNil)) (dCB fRepr (aCons (dOp rAdd (dOp rMulC (dLstC (aCons (dOp (rIs false) (dCall 1 ph_law_first (aCons (dVar 4) aNil)) (dC .none)) aNil)) (dC (.int 2))) (dLst (aCons (dC (.bool true)) aNil))) aNil)))) (dRet (dC (.bool false))) dNext)
    (dSeq (dAsg (dCall 2 ph_made_laminar (aCons (dVar 2) (aCons (dVar 4) aNil))) 8)
    (dSeq (dIfS (dOr (dTest (dOp rNe (dVar 8) (dVar 7))) (dOr (dTest (dOp rNe (dCallK 0 [1, 0] 2 ph_made_laminar aNil (aCons (dCB fTuple (aCons (dVar 4) aNil)) (aCons (dVar 2) aNil))) (dVar 7))) (dTest (dOp rNe (dCB fRepr (aCons (dVar 4) aNil)) (dVar 6))))) (dRet (dC (.bool false))) dNext)
    (dSeq (dFor (iRg1 (aCons (dVar 1) aNil)) (gN 9) (dIfS (dTest (dOp rNe (dCB fLen (aCons (dLc (iSeq (dVar 8)) (gN 12) (dTest (dOp (wIn id) (dVar 9) (dVar 12))) (dC (.int 1)) [12]) aNil)) (dCB fLen (aCons (dLc (iSeq (dVar 4)) (gN 12) (dTest (dOp (wIn id) (dVar 9) (dVar 12))) (dC (.int 1)) [12]) aNil)))) (dRet (dC (.bool false))) dNext))
    (dSeq (dDrop (dMtL mApp (dVar 8) (aCons (dC .none) aNil)))
    (dSeq (dIfS (dOr (dTest (dOp rNe (dCB fRepr (aCons (dVar 4) aNil)) (dVar 6))) (dTest (dOp rNe (dCall 2 ph_made_laminar (aCons (dVar 2) (aCons (dVar 4) aNil))) (dVar 7)))) (dRet (dC (.bool false))) dNext)
    (dSeq (dIfS (dTest (dOp rNe (dLst (aCons (dCall 2 ph_is_laminar (aCons (dVar 2) (aCons (dLst aNil) aNil))) (aCons (dCall 2 ph_made_laminar (aCons (dVar 2) (aCons (dTup aNil) aNil))) (aCons (dCall 2 ph_holders (aCons (dVar 2) (aCons (dLst aNil) aNil))) aNil)))) (dLst (aCons (dC (.bool true)) (aCons (dLst aNil) (aCons (dLst aNil) aNil)))))) (dRet (dC (.bool false))) dNext)
    (dSeq (dAsg (dUn WL.fUpSetR (dVar 7)) 10)
    (dSeq (dAsg (dLc (iSeq (dVar 10)) (gN 12) dYes (dCall 2 ph_law_holder (aCons (dVar 10) (aCons (dVar 12) aNil))) [12]) 11)
    (dSeq (dIfS (dOr (dTest (dOp rNe (dCall 2 ph_holders (aCons (dVar 2) (aCons (dVar 10) aNil))) (dVar 11))) (dTest (dOp rNe (dCallK 0 [1, 0] 2 ph_holders aNil (aCons (dCB fTuple (aCons (dVar 10) aNil)) (aCons (dVar 2) aNil))) (dVar 11)))) (dRet (dC (.bool false))) dNext)
    (dSeq (dIfS (dAnd (dTest (dOp wGt (dCB fLen (aCons (dVar 10) aNil)) (dC (.int 1)))) (dNot (dTru (dCall 2 ph_law_is_refused (aCons (dVar 2) (aCons (dUn rRevL (dVar 10)) aNil)))))) (dRet (dC (.bool false))) dNext)
    (dRet (dOrV (dOp (rIs false) (dCall 1 ph_law_first (aCons (dVar 4) aNil)) (dC .none)) (dCall 2 ph_law_is_refused (aCons (dVar 2) (aCons (dUn WL.fUpSetR (dVar 4)) aNil)))))))))))))))))))))))
def ds_law : DS := (dRet (dCall 1 ph_law_right (aCons (dCall 2 WL.ph_law_pot (aCons (dVar 0) (aCons (dC (.int 0)) aNil))) aNil)))
end K24
namespace K24
open PySem PySem.Spec PyProof.Rows L2 Evl DL
def topS (i : Nat) : Stmt := PySem.Challenge.pw_wishways_k24_whole_uncrossing.main.body.getD i (.Pass ⟨0, 0, 0, 0⟩)
abbrev s_is_integer : Stmt := topS 6
theorem sc_is_integer : FnScope ["value"] ["value"] (defScope s_is_integer) := ⟨rfl, rfl, rfl, by decide +kernel, rfl, by decide +kernel, by decide +kernel⟩
abbrev s_is_within : Stmt := topS 7
theorem sc_is_within : FnScope ["value", "least", "most"] ["value", "least", "most"] (defScope s_is_within) := ⟨rfl, rfl, rfl, by decide +kernel, rfl, by decide +kernel, by decide +kernel⟩
abbrev s_is_listed : Stmt := topS 8
theorem sc_is_listed : FnScope ["value"] ["value"] (defScope s_is_listed) := ⟨rfl, rfl, rfl, by decide +kernel, rfl, by decide +kernel, by decide +kernel⟩
abbrev s_is_tuple_of : Stmt := topS 9
theorem sc_is_tuple_of : FnScope ["value", "many"] ["value", "many"] (defScope s_is_tuple_of) := ⟨rfl, rfl, rfl, by decide +kernel, rfl, by decide +kernel, by decide +kernel⟩
abbrev s_is_headed : Stmt := topS 10
theorem sc_is_headed : FnScope ["value", "word", "many"] ["value", "word", "many"] (defScope s_is_headed) := ⟨rfl, rfl, rfl, by decide +kernel, rfl, by decide +kernel, by decide +kernel⟩
abbrev s_are_integers : Stmt := topS 11
theorem sc_are_integers : FnScope ["value", "number"] ["value"] (defScope s_are_integers) := ⟨rfl, rfl, rfl, by decide +kernel, rfl, by decide +kernel, by decide +kernel⟩
abbrev s_is_rising : Stmt := topS 12
theorem sc_is_rising : FnScope ["row", "low", "high"] ["row"] (defScope s_is_rising) := ⟨rfl, rfl, rfl, by decide +kernel, rfl, by decide +kernel, by decide +kernel⟩
abbrev s_is_cut_of_many : Stmt := topS 14
theorem sc_is_cut_of_many : FnScope ["many", "value"] ["many", "value"] (defScope s_is_cut_of_many) := ⟨rfl, rfl, rfl, by decide +kernel, rfl, by decide +kernel, by decide +kernel⟩
abbrev s_is_cut : Stmt := topS 15
theorem sc_is_cut : FnScope ["web", "value"] ["web", "value"] (defScope s_is_cut) := ⟨rfl, rfl, rfl, by decide +kernel, rfl, by decide +kernel, by decide +kernel⟩
abbrev s_check_cut : Stmt := topS 16
theorem sc_check_cut : FnScope ["web", "cut"] ["web", "cut"] (defScope s_check_cut) := ⟨rfl, rfl, rfl, by decide +kernel, rfl, by decide +kernel, by decide +kernel⟩
abbrev s_far_end : Stmt := topS 18
theorem sc_far_end : FnScope ["link", "place"] ["link", "place"] (defScope s_far_end) := ⟨rfl, rfl, rfl, by decide +kernel, rfl, by decide +kernel, by decide +kernel⟩
abbrev s_come_to : Stmt := topS 19
theorem sc_come_to : FnScope ["start", "links", "found", "ahead", "place", "link", "far"] ["start", "links"] (defScope s_come_to) := ⟨rfl, rfl, rfl, by decide +kernel, rfl, by decide +kernel, by decide +kernel⟩
abbrev s_are_joined : Stmt := topS 20
theorem sc_are_joined : FnScope ["places", "links", "inner", "link"] ["places", "links"] (defScope s_are_joined) := ⟨rfl, rfl, rfl, by decide +kernel, rfl, by decide +kernel, by decide +kernel⟩
abbrev s_is_pair : Stmt := topS 25
theorem sc_is_pair : FnScope ["value", "many"] ["value", "many"] (defScope s_is_pair) := ⟨rfl, rfl, rfl, by decide +kernel, rfl, by decide +kernel, by decide +kernel⟩
abbrev s_are_rows : Stmt := topS 26
theorem sc_are_rows : FnScope ["value", "most", "many", "row"] ["value", "most", "many"] (defScope s_are_rows) := ⟨rfl, rfl, rfl, by decide +kernel, rfl, by decide +kernel, by decide +kernel⟩
abbrev s_is_web : Stmt := topS 27
theorem sc_is_web : FnScope ["value", "many", "ties"] ["value"] (defScope s_is_web) := ⟨rfl, rfl, rfl, by decide +kernel, rfl, by decide +kernel, by decide +kernel⟩
abbrev s_check_web : Stmt := topS 28
theorem sc_check_web : FnScope ["web"] ["web"] (defScope s_check_web) := ⟨rfl, rfl, rfl, by decide +kernel, rfl, by decide +kernel, by decide +kernel⟩
abbrev s_has_more : Stmt := topS 31
theorem sc_has_more : FnScope ["cut", "second", "place"] ["cut", "second"] (defScope s_has_more) := ⟨rfl, rfl, rfl, by decide +kernel, rfl, by decide +kernel, by decide +kernel⟩
abbrev s_do_cross : Stmt := topS 32
theorem sc_do_cross : FnScope ["cut", "second", "common", "place"] ["cut", "second"] (defScope s_do_cross) := ⟨rfl, rfl, rfl, by decide +kernel, rfl, by decide +kernel, by decide +kernel⟩
abbrev s_become : Stmt := topS 33
theorem sc_become : FnScope ["cut", "second", "common", "together", "place"] ["cut", "second"] (defScope s_become) := ⟨rfl, rfl, rfl, by decide +kernel, rfl, by decide +kernel, by decide +kernel⟩
abbrev s_check_two_cuts : Stmt := topS 34
theorem sc_check_two_cuts : FnScope ["web", "cut", "second"] ["web", "cut", "second"] (defScope s_check_two_cuts) := ⟨rfl, rfl, rfl, by decide +kernel, rfl, by decide +kernel, by decide +kernel⟩
abbrev s_check_cuts : Stmt := topS 35
theorem sc_check_cuts : FnScope ["web", "cuts", "cut"] ["web", "cuts"] (defScope s_check_cuts) := ⟨rfl, rfl, rfl, by decide +kernel, rfl, by decide +kernel, by decide +kernel⟩
abbrev s_cuts_cross : Stmt := topS 36
theorem sc_cuts_cross : FnScope ["web", "cut", "second"] ["web", "cut", "second"] (defScope s_cuts_cross) := ⟨rfl, rfl, rfl, by decide +kernel, rfl, by decide +kernel, by decide +kernel⟩
abbrev s_uncrossed : Stmt := topS 37
theorem sc_uncrossed : FnScope ["web", "cut", "second"] ["web", "cut", "second"] (defScope s_uncrossed) := ⟨rfl, rfl, rfl, by decide +kernel, rfl, by decide +kernel, by decide +kernel⟩
abbrev s_first_crossing : Stmt := topS 38
theorem sc_first_crossing : FnScope ["cuts", "low", "cut", "high"] ["cuts"] (defScope s_first_crossing) := ⟨rfl, rfl, rfl, by decide +kernel, rfl, by decide +kernel, by decide +kernel⟩
abbrev s_is_laminar : Stmt := topS 39
theorem sc_is_laminar : FnScope ["web", "cuts"] ["web", "cuts"] (defScope s_is_laminar) := ⟨rfl, rfl, rfl, by decide +kernel, rfl, by decide +kernel, by decide +kernel⟩
abbrev s_made_laminar : Stmt := topS 40
theorem sc_made_laminar : FnScope ["web", "cuts", "made", "pair", "low", "high", "others"] ["web", "cuts"] (defScope s_made_laminar) := ⟨rfl, rfl, rfl, by decide +kernel, rfl, by decide +kernel, by decide +kernel⟩
abbrev s_holder : Stmt := topS 41
theorem sc_holder : FnScope ["cuts", "at", "cut", "wider", "place", "second"] ["cuts", "at"] (defScope s_holder) := ⟨rfl, rfl, rfl, by decide +kernel, rfl, by decide +kernel, by decide +kernel⟩
abbrev s_holders : Stmt := topS 42
theorem sc_holders : FnScope ["web", "cuts", "at"] ["web", "cuts"] (defScope s_holders) := ⟨rfl, rfl, rfl, by decide +kernel, rfl, by decide +kernel, by decide +kernel⟩
abbrev s_law_pot : Stmt := topS 44
theorem sc_law_pot : FnScope ["script", "k", "cell", "low"] ["script", "k"] (defScope s_law_pot) := ⟨rfl, rfl, rfl, by decide +kernel, rfl, by decide +kernel, by decide +kernel⟩
abbrev s_law_draw : Stmt := topS 45
theorem sc_law_draw : FnScope ["pot", "size", "digit"] ["pot", "size"] (defScope s_law_draw) := ⟨rfl, rfl, rfl, by decide +kernel, rfl, by decide +kernel, by decide +kernel⟩
abbrev s_law_pick : Stmt := topS 46
theorem sc_law_pick : FnScope ["pot", "some"] ["pot", "some"] (defScope s_law_pick) := ⟨rfl, rfl, rfl, by decide +kernel, rfl, by decide +kernel, by decide +kernel⟩
abbrev s_law_web : Stmt := topS 47
theorem sc_law_web : FnScope ["pot", "many", "further", "room", "ties", "place", "turn", "one", "tie"] ["pot", "many", "further", "room"] (defScope s_law_web) := ⟨rfl, rfl, rfl, by decide +kernel, rfl, by decide +kernel, by decide +kernel⟩
abbrev s_law_cuts : Stmt := topS 48
theorem sc_law_cuts : FnScope ["many", "found", "place", "cut"] ["many"] (defScope s_law_cuts) := ⟨rfl, rfl, rfl, by decide +kernel, rfl, by decide +kernel, by decide +kernel⟩
abbrev s_law_over : Stmt := topS 49
theorem sc_law_over : FnScope ["rows", "cut", "row"] ["rows", "cut"] (defScope s_law_over) := ⟨rfl, rfl, rfl, by decide +kernel, rfl, by decide +kernel, by decide +kernel⟩
abbrev s_law_do_cross : Stmt := topS 50
theorem sc_law_do_cross : FnScope ["cut", "second", "common", "place"] ["cut", "second"] (defScope s_law_do_cross) := ⟨rfl, rfl, rfl, by decide +kernel, rfl, by decide +kernel, by decide +kernel⟩
abbrev s_law_uncrossed : Stmt := topS 51
theorem sc_law_uncrossed : FnScope ["cut", "second", "common", "place"] ["cut", "second"] (defScope s_law_uncrossed) := ⟨rfl, rfl, rfl, by decide +kernel, rfl, by decide +kernel, by decide +kernel⟩
abbrev s_law_first : Stmt := topS 52
theorem sc_law_first : FnScope ["cuts", "one", "other"] ["cuts"] (defScope s_law_first) := ⟨rfl, rfl, rfl, by decide +kernel, rfl, by decide +kernel, by decide +kernel⟩
abbrev s_law_laminar : Stmt := topS 53
theorem sc_law_laminar : FnScope ["cuts", "found", "both", "one", "other", "late", "at", "cut"] ["cuts"] (defScope s_law_laminar) := ⟨rfl, rfl, rfl, by decide +kernel, rfl, by decide +kernel, by decide +kernel⟩
abbrev s_law_holder : Stmt := topS 54
theorem sc_law_holder : FnScope ["cuts", "cut", "some", "at", "late", "place"] ["cuts", "cut"] (defScope s_law_holder) := ⟨rfl, rfl, rfl, by decide +kernel, rfl, by decide +kernel, by decide +kernel⟩
abbrev s_law_two_right : Stmt := topS 55
theorem sc_law_two_right : FnScope ["web", "cut", "second", "due", "late", "told", "rooms", "one"] ["web", "cut", "second"] (defScope s_law_two_right) := ⟨rfl, rfl, rfl, by decide +kernel, rfl, by decide +kernel, by decide +kernel⟩
abbrev s_law_is_refused : Stmt := topS 56
theorem sc_law_is_refused : FnScope ["web", "cuts", "e"] ["web", "cuts"] (defScope s_law_is_refused) := ⟨rfl, rfl, rfl, by decide +kernel, rfl, by decide +kernel, by decide +kernel⟩
abbrev s_law_right : Stmt := topS 57
theorem sc_law_right : FnScope ["pot", "many", "web", "cuts", "some", "turn", "shown", "due", "told", "place", "unlike", "rows", "cut"] ["pot"] (defScope s_law_right) := ⟨rfl, rfl, rfl, by decide +kernel, rfl, by decide +kernel, by decide +kernel⟩
abbrev s_law : Stmt := topS 58
theorem sc_law : FnScope ["script"] ["script"] (defScope s_law) := ⟨rfl, rfl, rfl, by decide +kernel, rfl, by decide +kernel, by decide +kernel⟩
end K24
namespace K24
open PySem PySem.Spec PyProof.Rows L2 Evl DL
section
variable {P : Program} {w : World} {K : PySem.W.Frag} {mg : Str → Option Value} {base : Heap}
theorem ow_is_integer (hm : ∃ f fd, Fun K "is_integer" "is_integer" s_is_integer f fd ∧ mg "is_integer" = some (.ref f)) (z_bool : mg "bool" = none) (z_int : mg "int" = none) (z_isinstance : mg "isinstance" = none)  (hp : Pure ["value"] 1 WL.ph_is_integer WL.ds_is_integer) : Own P w K mg base "is_integer" s_is_integer ["value"] 1 1 WL.ph_is_integer := by
  obtain ⟨f, fd, F, hf⟩ := hm
  exact ⟨f, fd, F, okD F sc_is_integer rfl (fun cdv A outer s H E hr => (pds_one (pd_ret (pd_and (pd_isi .int (pd_var 0) z_isinstance z_int (by decide +kernel)) (pd_one (pd_not (pd_isi .bool (pd_var 0) z_isinstance z_bool (by decide +kernel)))))))) hp, hf⟩
theorem ow_is_within (hm : ∃ f fd, Fun K "is_within" "is_within" s_is_within f fd ∧ mg "is_within" = some (.ref f))  (o_is_integer : Own P w K mg base "is_integer" s_is_integer ["value"] 1 1 WL.ph_is_integer) (hp : Pure ["value", "least", "most"] 3 WL.ph_is_within WL.ds_is_within) : Own P w K mg base "is_within" s_is_within ["value", "least", "most"] 2 3 WL.ph_is_within := by
  obtain ⟨f, fd, F, hf⟩ := hm
  exact ⟨f, fd, F, okD F sc_is_within rfl (fun cdv A outer s H E hr => (pds_one (pd_ret (pd_and (pd_call o_is_integer (hr.mono (by decide)) (fun _ _ _ _ _ _ us hl => match us, hl with | [_], _ => rfl) (pda_cons (pd_var 0) pda_nil)) (pd_one (pd_chain (op_leW hr.u128) (op_leW hr.u128) lr_ordW lr_ordW (pd_var 1) (pd_var 0) (pd_var 2))))))) hp, hf⟩
theorem ow_is_listed (hm : ∃ f fd, Fun K "is_listed" "is_listed" s_is_listed f fd ∧ mg "is_listed" = some (.ref f)) (z_isinstance : mg "isinstance" = none) (z_list : mg "list" = none) (z_tuple : mg "tuple" = none)  (hp : Pure ["value"] 1 ph_is_listed ds_is_listed) : Own P w K mg base "is_listed" s_is_listed ["value"] 1 1 ph_is_listed := by
  obtain ⟨f, fd, F, hf⟩ := hm
  exact ⟨f, fd, F, okD F sc_is_listed rfl (fun cdv A outer s H E hr => (pds_one (pd_ret (pd_isi2 .lst .tup (pd_var 0) z_isinstance z_list z_tuple (by decide +kernel) (by decide +kernel))))) hp, hf⟩
theorem ow_is_tuple_of (hm : ∃ f fd, Fun K "is_tuple_of" "is_tuple_of" s_is_tuple_of f fd ∧ mg "is_tuple_of" = some (.ref f)) (z_isinstance : mg "isinstance" = none) (z_len : mg "len" = none) (z_tuple : mg "tuple" = none)  (hp : Pure ["value", "many"] 2 WL.ph_is_tuple_of WL.ds_is_tuple_of) : Own P w K mg base "is_tuple_of" s_is_tuple_of ["value", "many"] 1 2 WL.ph_is_tuple_of := by
  obtain ⟨f, fd, F, hf⟩ := hm
  exact ⟨f, fd, F, okD F sc_is_tuple_of rfl (fun cdv A outer s H E hr => (pds_one (pd_ret (pd_and (pd_isi .tup (pd_var 0) z_isinstance z_tuple (by decide +kernel)) (pd_one (pd_cmp (op_eqV hr.u64) lr_eq (pd_len  (pda_cons (pd_var 0) pda_nil) z_len) (pd_var 1) (nomark _))))))) hp, hf⟩
theorem ow_is_headed (hm : ∃ f fd, Fun K "is_headed" "is_headed" s_is_headed f fd ∧ mg "is_headed" = some (.ref f)) (z_isinstance : mg "isinstance" = none) (z_str : mg "str" = none) (o_is_tuple_of : Own P w K mg base "is_tuple_of" s_is_tuple_of ["value", "many"] 1 2 WL.ph_is_tuple_of) (hp : Pure ["value", "word", "many"] 3 WL.ph_is_headed WL.ds_is_headed) : Own P w K mg base "is_headed" s_is_headed ["value", "word", "many"] 2 3 WL.ph_is_headed := by
  obtain ⟨f, fd, F, hf⟩ := hm
  exact ⟨f, fd, F, okD F sc_is_headed rfl (fun cdv A outer s H E hr => (pds_one (pd_ret (pd_and (pd_call o_is_tuple_of (hr.mono (by decide)) (fun _ _ _ _ _ _ us hl => match us, hl with | [_, _], _ => rfl) (pda_cons (pd_var 0) (pda_cons (pd_var 2) pda_nil))) (pd_and (pd_isi .str (pd_ix (pd_var 0) pd_int) z_isinstance z_str (by decide +kernel)) (pd_one (pd_cmp (op_eqV hr.u64) lr_eq (pd_ix (pd_var 0) pd_int) (pd_var 1) (nomark _)))))))) hp, hf⟩
theorem ow_are_integers (hm : ∃ f fd, Fun K "are_integers" "are_integers" s_are_integers f fd ∧ mg "are_integers" = some (.ref f)) (z_all : mg "all" = none) (o_is_integer : Own P w K mg base "is_integer" s_is_integer ["value"] 1 1 WL.ph_is_integer) (hp : Pure ["value", "number"] 1 WL.ph_are_integers WL.ds_are_integers) : Own P w K mg base "are_integers" s_are_integers ["value"] 2 1 WL.ph_are_integers := by
  obtain ⟨f, fd, F, hf⟩ := hm
  exact ⟨f, fd, F, okD F sc_are_integers rfl (fun cdv A outer s H E hr => (pds_one (pd_ret (pd_all rfl (pda_cons (pd_lcQ fin_frz [("number", 1)] rfl sc_are_integers.nd (pdi_seq (pd_var 0)) (blkOk_by (N := ["value", "number"]) (by show blkC _ (defScope s_are_integers) _ _ = true; decide +kernel)) (ctg_name 1 (by decide) (fun _ _ _ _ _ => pg_name (i := 1) sc_are_integers.nd rfl (Or.inl rfl))) ctst_nil (fun _ _ _ _ _ => (pd_call o_is_integer (hr.mono (by decide)) (fun _ _ _ _ _ _ us hl => match us, hl with | [_], _ => rfl) (pda_cons (pd_var 1) pda_nil)))) pda_nil) z_all)))) hp, hf⟩
theorem ow_is_rising (hm : ∃ f fd, Fun K "is_rising" "is_rising" s_is_rising f fd ∧ mg "is_rising" = some (.ref f)) (z_all : mg "all" = none) (z_zip : mg "zip" = none)  (hp : Pure ["row", "low", "high"] 1 WL.ph_is_rising WL.ds_is_rising) : Own P w K mg base "is_rising" s_is_rising ["row"] 1 1 WL.ph_is_rising := by
  obtain ⟨f, fd, F, hf⟩ := hm
  exact ⟨f, fd, F, okD F sc_is_rising rfl (fun cdv A outer s H E hr => (pds_one (pd_ret (pd_all rfl (pda_cons (pd_lcQ fin_frz [("low", 1), ("high", 2)] rfl sc_is_rising.nd (pdi_zip (pda_cons (pd_var 0) (pda_cons (pd_sl (pd_var 0) (pdo_some pd_int) pdo_none) pda_nil)) z_zip) (blkOk_by (N := ["row", "low", "high"]) (by show blkC _ (defScope s_is_rising) _ _ = true; decide +kernel)) (ctg_tup rfl (ctgs_cons (ctg_name 1 (by decide) (fun _ _ _ _ _ => pg_name (i := 1) sc_is_rising.nd rfl (Or.inl rfl))) (ctgs_cons (ctg_name 2 (by decide) (fun _ _ _ _ _ => pg_name (i := 2) sc_is_rising.nd rfl (Or.inl rfl))) ctgs_nil))) ctst_nil (fun _ _ _ _ _ => (pd_cmp (op_ltW hr.u128) lr_ordW (pd_var 1) (pd_var 2) (nomark _)))) pda_nil) z_all)))) hp, hf⟩
theorem ow_is_cut_of_many (hm : ∃ f fd, Fun K "is_cut_of_many" "is_cut_of_many" s_is_cut_of_many f fd ∧ mg "is_cut_of_many" = some (.ref f)) (z_isinstance : mg "isinstance" = none) (z_len : mg "len" = none) (z_tuple : mg "tuple" = none) (o_are_integers : Own P w K mg base "are_integers" s_are_integers ["value"] 2 1 WL.ph_are_integers) (o_is_rising : Own P w K mg base "is_rising" s_is_rising ["row"] 1 1 WL.ph_is_rising) (hp : Pure ["many", "value"] 2 WL.ph_is_cut_of_many WL.ds_is_cut_of_many) : Own P w K mg base "is_cut_of_many" s_is_cut_of_many ["many", "value"] 3 2 WL.ph_is_cut_of_many := by
  obtain ⟨f, fd, F, hf⟩ := hm
  exact ⟨f, fd, F, okD F sc_is_cut_of_many rfl (fun cdv A outer s H E hr => (pds_cons (pd_if (PDW.pdt (pdw_or (pdt_not (pdt_tru (pd_isi .tup (pd_var 1) z_isinstance z_tuple (by decide +kernel)))) (pdw_or (pdt_cmp (op_eqV hr.u64) lr_eq (pd_len  (pda_cons (pd_var 1) pda_nil) z_len) pd_int (nomark _)) (pdw_or (pdt_not (pdt_tru (pd_call o_are_integers (hr.mono (by decide)) (fun _ _ _ _ _ _ us hl => match us, hl with | [_], _ => rfl) (pda_cons (pd_var 1) pda_nil)))) (pdw_or1 (pdt_not (pdt_tru (pd_call o_is_rising (hr.mono (by decide)) (fun _ _ _ _ _ _ us hl => match us, hl with | [_], _ => rfl) (pda_cons (pd_var 1) pda_nil))))))))) (pds_one (pd_ret pd_bl)) pds_nil)
    (pds_one (pd_ret (pd_and (pd_cmp (op_geW hr.u128) lr_ordW (pd_ix (pd_var 1) pd_int) pd_int (nomark _)) (pd_one (pd_cmp (op_ltW hr.u128) lr_ordW (pd_ix (pd_var 1) (pd_neg pd_int)) (pd_var 0) (nomark _)))))))) hp, hf⟩
theorem ow_is_cut (hm : ∃ f fd, Fun K "is_cut" "is_cut" s_is_cut f fd ∧ mg "is_cut" = some (.ref f))  (o_is_cut_of_many : Own P w K mg base "is_cut_of_many" s_is_cut_of_many ["many", "value"] 3 2 WL.ph_is_cut_of_many) (hp : Pure ["web", "value"] 2 WL.ph_is_cut WL.ds_is_cut) : Own P w K mg base "is_cut" s_is_cut ["web", "value"] 4 2 WL.ph_is_cut := by
  obtain ⟨f, fd, F, hf⟩ := hm
  exact ⟨f, fd, F, okD F sc_is_cut rfl (fun cdv A outer s H E hr => (pds_one (pd_ret (pd_call o_is_cut_of_many (hr.mono (by decide)) (fun _ _ _ _ _ _ us hl => match us, hl with | [_, _], _ => rfl) (pda_cons (pd_ix (pd_var 0) pd_int) (pda_cons (pd_var 1) pda_nil)))))) hp, hf⟩
theorem ow_check_cut (hm : ∃ f fd, Fun K "check_cut" "check_cut" s_check_cut f fd ∧ mg "check_cut" = some (.ref f))  (o_is_cut : Own P w K mg base "is_cut" s_is_cut ["web", "value"] 4 2 WL.ph_is_cut) (hp : Pure ["web", "cut"] 2 WL.ph_check_cut WL.ds_check_cut) : Own P w K mg base "check_cut" s_check_cut ["web", "cut"] 5 2 WL.ph_check_cut := by
  obtain ⟨f, fd, F, hf⟩ := hm
  exact ⟨f, fd, F, okD F sc_check_cut rfl (fun cdv A outer s H E hr => (pds_one (pd_if (pdt_not (pdt_tru (pd_call o_is_cut (hr.mono (by decide)) (fun _ _ _ _ _ _ us hl => match us, hl with | [_, _], _ => rfl) (pda_cons (pd_var 0) (pda_cons (pd_var 1) pda_nil))))) (pds_one pd_never) pds_nil))) hp, hf⟩
theorem ow_far_end (hm : ∃ f fd, Fun K "far_end" "far_end" s_far_end f fd ∧ mg "far_end" = some (.ref f))   (hp : Pure ["link", "place"] 2 WL.ph_far_end WL.ds_far_end) : Own P w K mg base "far_end" s_far_end ["link", "place"] 1 2 WL.ph_far_end := by
  obtain ⟨f, fd, F, hf⟩ := hm
  exact ⟨f, fd, F, okD F sc_far_end rfl (fun cdv A outer s H E hr => (pds_cons (pd_if (pdt_cmp (op_eqV hr.u64) lr_eq (pd_ix (pd_var 0) pd_int) (pd_var 1) (nomark _)) (pds_one (pd_ret (pd_ix (pd_var 0) pd_int))) pds_nil)
    (pds_one (pd_ret (pd_ifExp (pdt_cmp (op_eqV hr.u64) lr_eq (pd_ix (pd_var 0) pd_int) (pd_var 1) (nomark _)) (pd_ix (pd_var 0) pd_int) pd_non))))) hp, hf⟩
theorem ow_come_to (hm : ∃ f fd, Fun K "come_to" "come_to" s_come_to f fd ∧ mg "come_to" = some (.ref f)) (z_sorted : mg "sorted" = none) (o_far_end : Own P w K mg base "far_end" s_far_end ["link", "place"] 1 2 WL.ph_far_end) (hp : Pure ["start", "links", "found", "ahead", "place", "link", "far"] 2 WL.ph_come_to WL.ds_come_to) : Own P w K mg base "come_to" s_come_to ["start", "links"] 2 2 WL.ph_come_to := by
  obtain ⟨f, fd, F, hf⟩ := hm
  exact ⟨f, fd, F, okD F sc_come_to rfl (fun cdv A outer s H E hr => (pds_cons (pd_set (i := 2) sc_come_to.nd (pd_dct1 (pd_var 0) pd_bl))
    (pds_cons (pd_set (i := 3) sc_come_to.nd (pd_lstC (pda_cons (pd_var 0) pda_nil)))
    (pds_cons (pd_while PassesOwn.never (pdt_tru (pd_var 3)) (pds_cons (pd_set (i := 4) sc_come_to.nd (pd_pop (pd_var 3)))
    (pds_one (pd_for PassesOwn.never rfl (pdi_seq (pd_var 1)) (pdg_name (i := 5) sc_come_to.nd) (pds_cons (pd_set (i := 6) sc_come_to.nd (pd_call o_far_end (hr.mono (by decide)) (fun _ _ _ _ _ _ us hl => match us, hl with | [_, _], _ => rfl) (pda_cons (pd_var 5) (pda_cons (pd_var 4) pda_nil))))
    (pds_one (pd_if (PDW.pdt (pdw_and (pdt_cmp op_isnotV lr_isnot (pd_var 6) pd_non (nomark _)) (pdw_and1 (pdt_cmp (op_notInAll hr.u128) lr_in (pd_var 6) (pd_var 2) rfl)))) (pds_cons (pd_dput hr (pd_var 2) (pd_var 6) pd_bl)
    (pds_one (pd_expr (pd_append (pd_var 3) (pd_var 6))))) pds_nil)))))))
    (pds_one (pd_ret (pd_sortedDI rfl (pda_cons (pd_var 2) pda_nil) z_sorted))))))) hp, hf⟩
theorem ow_are_joined (hm : ∃ f fd, Fun K "are_joined" "are_joined" s_are_joined f fd ∧ mg "are_joined" = some (.ref f)) (z_len : mg "len" = none) (o_come_to : Own P w K mg base "come_to" s_come_to ["start", "links"] 2 2 WL.ph_come_to) (hp : Pure ["places", "links", "inner", "link"] 2 WL.ph_are_joined WL.ds_are_joined) : Own P w K mg base "are_joined" s_are_joined ["places", "links"] 3 2 WL.ph_are_joined := by
  obtain ⟨f, fd, F, hf⟩ := hm
  exact ⟨f, fd, F, okD F sc_are_joined rfl (fun cdv A outer s H E hr => (pds_cons (pd_setLcQ (j := 2) fin_frz [("link", 3)] rfl sc_are_joined.nd (pdi_seq (pd_var 1)) (blkOk_by (N := ["places", "links", "inner", "link"]) (by show blkC _ (defScope s_are_joined) _ _ = true; decide +kernel)) (ctg_name 3 (by decide) (fun _ _ _ _ _ => pg_name (i := 3) sc_are_joined.nd rfl (Or.inl rfl))) (ctst_one (fun _ _ _ _ _ => (PDW.pdt (pdw_and (pdt_cmp (op_inAll hr.u128) lr_in (pd_ix (pd_var 3) pd_int) (pd_var 0) rfl) (pdw_and1 (pdt_cmp (op_inAll hr.u128) lr_in (pd_ix (pd_var 3) pd_int) (pd_var 0) rfl)))))) (fun _ _ _ _ _ => (pd_var 3)) (sw_true rfl rfl rfl (by decide +kernel)))
    (pds_one (pd_ret (pd_cmp (op_eqV hr.u64) lr_eq (pd_len  (pda_cons (pd_call o_come_to (hr.mono (by decide)) (fun _ _ _ _ _ _ us hl => match us, hl with | [_, _], _ => rfl) (pda_cons (pd_ix (pd_var 0) pd_int) (pda_cons (pd_var 2) pda_nil))) pda_nil) z_len) (pd_len  (pda_cons (pd_var 0) pda_nil) z_len) (nomark _)))))) hp, hf⟩
theorem ow_is_pair (hm : ∃ f fd, Fun K "is_pair" "is_pair" s_is_pair f fd ∧ mg "is_pair" = some (.ref f))  (o_is_within : Own P w K mg base "is_within" s_is_within ["value", "least", "most"] 2 3 WL.ph_is_within) (hp : Pure ["value", "many"] 2 WL.ph_is_pair WL.ds_is_pair) : Own P w K mg base "is_pair" s_is_pair ["value", "many"] 3 2 WL.ph_is_pair := by
  obtain ⟨f, fd, F, hf⟩ := hm
  exact ⟨f, fd, F, okD F sc_is_pair rfl (fun cdv A outer s H E hr => (pds_one (pd_ret (pd_and (pd_call o_is_within (hr.mono (by decide)) (fun _ _ _ _ _ _ us hl => match us, hl with | [_, _, _], _ => rfl) (pda_cons (pd_ix (pd_var 0) pd_int) (pda_cons pd_int (pda_cons (pd_sub (pd_var 1) pd_int) pda_nil)))) (pd_and (pd_call o_is_within (hr.mono (by decide)) (fun _ _ _ _ _ _ us hl => match us, hl with | [_, _, _], _ => rfl) (pda_cons (pd_ix (pd_var 0) pd_int) (pda_cons pd_int (pda_cons (pd_sub (pd_var 1) pd_int) pda_nil)))) (pd_one (pd_cmp (op_ltW hr.u128) lr_ordW (pd_ix (pd_var 0) pd_int) (pd_ix (pd_var 0) pd_int) (nomark _)))))))) hp, hf⟩
theorem ow_are_rows (hm : ∃ f fd, Fun K "are_rows" "are_rows" s_are_rows f fd ∧ mg "are_rows" = some (.ref f)) (z_MOST_ROOM : ∃ t, mg "MOST_ROOM" = some (.int 20 t)) (z_isinstance : mg "isinstance" = none) (z_len : mg "len" = none) (z_tuple : mg "tuple" = none) (o_is_within : Own P w K mg base "is_within" s_is_within ["value", "least", "most"] 2 3 WL.ph_is_within) (o_is_tuple_of : Own P w K mg base "is_tuple_of" s_is_tuple_of ["value", "many"] 1 2 WL.ph_is_tuple_of) (o_is_rising : Own P w K mg base "is_rising" s_is_rising ["row"] 1 1 WL.ph_is_rising) (o_is_pair : Own P w K mg base "is_pair" s_is_pair ["value", "many"] 3 2 WL.ph_is_pair) (hp : Pure ["value", "most", "many", "row"] 3 WL.ph_are_rows WL.ds_are_rows) : Own P w K mg base "are_rows" s_are_rows ["value", "most", "many"] 4 3 WL.ph_are_rows := by
  obtain ⟨f, fd, F, hf⟩ := hm
  exact ⟨f, fd, F, okD F sc_are_rows rfl (fun cdv A outer s H E hr => (pds_cons (pd_if (PDW.pdt (pdw_or (pdt_not (pdt_tru (pd_isi .tup (pd_var 0) z_isinstance z_tuple (by decide +kernel)))) (pdw_or1 (pdt_not (pdt_chain (op_leW hr.u128) (op_leW hr.u128) lr_ordW lr_ordW pd_int (pd_len  (pda_cons (pd_var 0) pda_nil) z_len) (pd_var 1)))))) (pds_one (pd_ret pd_bl)) pds_nil)
    (pds_cons (pd_for PassesOwn.never rfl (pdi_seq (pd_var 0)) (pdg_name (i := 3) sc_are_rows.nd) (pds_one (pd_if (PDW.pdt (pdw_or (pdt_not (pdt_tru (pd_call o_is_tuple_of (hr.mono (by decide)) (fun _ _ _ _ _ _ us hl => match us, hl with | [_, _], _ => rfl) (pda_cons (pd_var 3) (pda_cons pd_int pda_nil))))) (pdw_or (pdt_not (pdt_tru (pd_call o_is_pair (hr.mono (by decide)) (fun _ _ _ _ _ _ us hl => match us, hl with | [_, _], _ => rfl) (pda_cons (pd_var 3) (pda_cons (pd_var 2) pda_nil))))) (pdw_or1 (pdt_not (pdt_tru (pd_call o_is_within (hr.mono (by decide)) (fun _ _ _ _ _ _ us hl => match us, hl with | [_, _, _], _ => rfl) (pda_cons (pd_ix (pd_var 3) pd_int) (pda_cons pd_int (pda_cons (pd_gint z_MOST_ROOM) pda_nil)))))))))) (pds_one (pd_ret pd_bl)) pds_nil)))
    (pds_one (pd_ret (pd_call o_is_rising (hr.mono (by decide)) (fun _ _ _ _ _ _ us hl => match us, hl with | [_], _ => rfl) (pda_cons (pd_lcQ fin_frz [("row", 3)] rfl sc_are_rows.nd (pdi_seq (pd_var 0)) (blkOk_by (N := ["value", "most", "many", "row"]) (by show blkC _ (defScope s_are_rows) _ _ = true; decide +kernel)) (ctg_name 3 (by decide) (fun _ _ _ _ _ => pg_name (i := 3) sc_are_rows.nd rfl (Or.inl rfl))) ctst_nil (fun _ _ _ _ _ => (pd_sl (pd_var 3) pdo_none (pdo_some pd_int)))) pda_nil))))))) hp, hf⟩
theorem ow_is_web (hm : ∃ f fd, Fun K "is_web" "is_web" s_is_web f fd ∧ mg "is_web" = some (.ref f)) (z_MOST_PLACES : ∃ t, mg "MOST_PLACES" = some (.int 8 t)) (z_MOST_TIES : ∃ t, mg "MOST_TIES" = some (.int 14 t)) (z_list : mg "list" = none) (z_range : mg "range" = none) (o_is_within : Own P w K mg base "is_within" s_is_within ["value", "least", "most"] 2 3 WL.ph_is_within) (o_is_headed : Own P w K mg base "is_headed" s_is_headed ["value", "word", "many"] 2 3 WL.ph_is_headed) (o_are_joined : Own P w K mg base "are_joined" s_are_joined ["places", "links"] 3 2 WL.ph_are_joined) (o_are_rows : Own P w K mg base "are_rows" s_are_rows ["value", "most", "many"] 4 3 WL.ph_are_rows) (hp : Pure ["value", "many", "ties"] 1 WL.ph_is_web WL.ds_is_web) : Own P w K mg base "is_web" s_is_web ["value"] 5 1 WL.ph_is_web := by
  obtain ⟨f, fd, F, hf⟩ := hm
  exact ⟨f, fd, F, okD F sc_is_web rfl (fun cdv A outer s H E hr => (pds_cons (pd_if (PDW.pdt (pdw_or (pdt_not (pdt_tru (pd_call o_is_headed (hr.mono (by decide)) (fun _ _ _ _ _ _ us hl => match us, hl with | [_, _, _], _ => rfl) (pda_cons (pd_var 0) (pda_cons pd_str (pda_cons pd_int pda_nil)))))) (pdw_or1 (pdt_not (pdt_tru (pd_call o_is_within (hr.mono (by decide)) (fun _ _ _ _ _ _ us hl => match us, hl with | [_, _, _], _ => rfl) (pda_cons (pd_ix (pd_var 0) pd_int) (pda_cons pd_int (pda_cons (pd_gint z_MOST_PLACES) pda_nil))))))))) (pds_one (pd_ret pd_bl)) pds_nil)
    (pds_cons (pd_par (i := 1) (j := 2) rfl sc_is_web.nd (pda_cons (pd_ix (pd_var 0) pd_int) (pda_cons (pd_ix (pd_var 0) pd_int) pda_nil)))
    (pds_one (pd_ret (pd_and (pd_call o_are_rows (hr.mono (by decide)) (fun _ _ _ _ _ _ us hl => match us, hl with | [_, _, _], _ => rfl) (pda_cons (pd_var 2) (pda_cons (pd_gint z_MOST_TIES) (pda_cons (pd_var 1) pda_nil)))) (pd_one (pd_call o_are_joined (hr.mono (by decide)) (fun _ _ _ _ _ _ us hl => match us, hl with | [_, _], _ => rfl) (pda_cons (pd_listRg1 false rfl (pd_var 1) z_list z_range) (pda_cons (pd_var 2) pda_nil)))))))))) hp, hf⟩
theorem ow_check_web (hm : ∃ f fd, Fun K "check_web" "check_web" s_check_web f fd ∧ mg "check_web" = some (.ref f))  (o_is_web : Own P w K mg base "is_web" s_is_web ["value"] 5 1 WL.ph_is_web) (hp : Pure ["web"] 1 WL.ph_check_web WL.ds_check_web) : Own P w K mg base "check_web" s_check_web ["web"] 6 1 WL.ph_check_web := by
  obtain ⟨f, fd, F, hf⟩ := hm
  exact ⟨f, fd, F, okD F sc_check_web rfl (fun cdv A outer s H E hr => (pds_one (pd_if (pdt_not (pdt_tru (pd_call o_is_web (hr.mono (by decide)) (fun _ _ _ _ _ _ us hl => match us, hl with | [_], _ => rfl) (pda_cons (pd_var 0) pda_nil)))) (pds_one pd_never) pds_nil))) hp, hf⟩
theorem ow_has_more (hm : ∃ f fd, Fun K "has_more" "has_more" s_has_more f fd ∧ mg "has_more" = some (.ref f)) (z_any : mg "any" = none)  (hp : Pure ["cut", "second", "place"] 2 ph_has_more ds_has_more) : Own P w K mg base "has_more" s_has_more ["cut", "second"] 1 2 ph_has_more := by
  obtain ⟨f, fd, F, hf⟩ := hm
  exact ⟨f, fd, F, okD F sc_has_more rfl (fun cdv A outer s H E hr => (pds_one (pd_ret (pd_any rfl (pda_cons (pd_lcQ fin_frz [("place", 2)] rfl sc_has_more.nd (pdi_seq (pd_var 0)) (blkOk_by (N := ["cut", "second", "place"]) (by show blkC _ (defScope s_has_more) _ _ = true; decide +kernel)) (ctg_name 2 (by decide) (fun _ _ _ _ _ => pg_name (i := 2) sc_has_more.nd rfl (Or.inl rfl))) ctst_nil (fun _ _ _ _ _ => (pd_cmp (op_notInAll hr.u128) lr_in (pd_var 2) (pd_var 1) rfl))) pda_nil) z_any)))) hp, hf⟩
theorem ow_do_cross (hm : ∃ f fd, Fun K "do_cross" "do_cross" s_do_cross f fd ∧ mg "do_cross" = some (.ref f))  (o_has_more : Own P w K mg base "has_more" s_has_more ["cut", "second"] 1 2 ph_has_more) (hp : Pure ["cut", "second", "common", "place"] 2 ph_do_cross ds_do_cross) : Own P w K mg base "do_cross" s_do_cross ["cut", "second"] 2 2 ph_do_cross := by
  obtain ⟨f, fd, F, hf⟩ := hm
  exact ⟨f, fd, F, okD F sc_do_cross rfl (fun cdv A outer s H E hr => (pds_cons (pd_setLcQ (j := 2) fin_frz [("place", 3)] rfl sc_do_cross.nd (pdi_seq (pd_var 0)) (blkOk_by (N := ["cut", "second", "common", "place"]) (by show blkC _ (defScope s_do_cross) _ _ = true; decide +kernel)) (ctg_name 3 (by decide) (fun _ _ _ _ _ => pg_name (i := 3) sc_do_cross.nd rfl (Or.inl rfl))) (ctst_one (fun _ _ _ _ _ => (pdt_cmp (op_inAll hr.u128) lr_in (pd_var 3) (pd_var 1) rfl))) (fun _ _ _ _ _ => (pd_var 3)) (sw_true rfl rfl rfl (by decide +kernel)))
    (pds_one (pd_ret (pd_and (pd_cmp (op_neV hr.u64) lr_ne (pd_var 2) (pd_lst pda_nil) (nomark _)) (pd_and (pd_call o_has_more (hr.mono (by decide)) (fun _ _ _ _ _ _ us hl => match us, hl with | [_, _], _ => rfl) (pda_cons (pd_var 0) (pda_cons (pd_var 1) pda_nil))) (pd_one (pd_call o_has_more (hr.mono (by decide)) (fun _ _ _ _ _ _ us hl => match us, hl with | [_, _], _ => rfl) (pda_cons (pd_var 1) (pda_cons (pd_var 0) pda_nil)))))))))) hp, hf⟩
theorem ow_become (hm : ∃ f fd, Fun K "become" "become" s_become f fd ∧ mg "become" = some (.ref f)) (z_list : mg "list" = none) (z_sorted : mg "sorted" = none) (z_tuple : mg "tuple" = none)  (hp : Pure ["cut", "second", "common", "together", "place"] 2 ph_become ds_become) : Own P w K mg base "become" s_become ["cut", "second"] 1 2 ph_become := by
  obtain ⟨f, fd, F, hf⟩ := hm
  exact ⟨f, fd, F, okD F sc_become rfl (fun cdv A outer s H E hr => (pds_cons (pd_setLcQ (j := 2) fin_frz [("place", 4)] rfl sc_become.nd (pdi_seq (pd_var 0)) (blkOk_by (N := ["cut", "second", "common", "together", "place"]) (by show blkC _ (defScope s_become) _ _ = true; decide +kernel)) (ctg_name 4 (by decide) (fun _ _ _ _ _ => pg_name (i := 4) sc_become.nd rfl (Or.inl rfl))) (ctst_one (fun _ _ _ _ _ => (pdt_cmp (op_inAll hr.u128) lr_in (pd_var 4) (pd_var 1) rfl))) (fun _ _ _ _ _ => (pd_var 4)) (sw_true rfl rfl rfl (by decide +kernel)))
    (pds_cons (pd_set (i := 3) sc_become.nd (pd_add (pd_list  (pda_cons (pd_var 0) pda_nil) z_list) (pd_lcQ fin_frz [("place", 4)] rfl sc_become.nd (pdi_seq (pd_var 1)) (blkOk_by (N := ["cut", "second", "common", "together", "place"]) (by show blkC _ (defScope s_become) _ _ = true; decide +kernel)) (ctg_name 4 (by decide) (fun _ _ _ _ _ => pg_name (i := 4) sc_become.nd rfl (Or.inl rfl))) (ctst_one (fun _ _ _ _ _ => (pdt_cmp (op_notInAll hr.u128) lr_in (pd_var 4) (pd_var 0) rfl))) (fun _ _ _ _ _ => (pd_var 4)))))
    (pds_one (pd_ret (pd_tup (pda_cons (pd_tuple  (pda_cons (pd_var 2) pda_nil) z_tuple) (pda_cons (pd_tuple  (pda_cons (pd_sorted hr (pda_cons (pd_var 3) pda_nil) z_sorted) pda_nil) z_tuple) pda_nil)))))))) hp, hf⟩
theorem ow_check_two_cuts (hm : ∃ f fd, Fun K "check_two_cuts" "check_two_cuts" s_check_two_cuts f fd ∧ mg "check_two_cuts" = some (.ref f))  (o_check_cut : Own P w K mg base "check_cut" s_check_cut ["web", "cut"] 5 2 WL.ph_check_cut) (o_check_web : Own P w K mg base "check_web" s_check_web ["web"] 6 1 WL.ph_check_web) (hp : Pure ["web", "cut", "second"] 3 ph_check_two_cuts ds_check_two_cuts) : Own P w K mg base "check_two_cuts" s_check_two_cuts ["web", "cut", "second"] 7 3 ph_check_two_cuts := by
  obtain ⟨f, fd, F, hf⟩ := hm
  exact ⟨f, fd, F, okD F sc_check_two_cuts rfl (fun cdv A outer s H E hr => (pds_cons (pd_expr (pd_call o_check_web (hr.mono (by decide)) (fun _ _ _ _ _ _ us hl => match us, hl with | [_], _ => rfl) (pda_cons (pd_var 0) pda_nil)))
    (pds_cons (pd_expr (pd_call o_check_cut (hr.mono (by decide)) (fun _ _ _ _ _ _ us hl => match us, hl with | [_, _], _ => rfl) (pda_cons (pd_var 0) (pda_cons (pd_var 1) pda_nil))))
    (pds_one (pd_expr (pd_call o_check_cut (hr.mono (by decide)) (fun _ _ _ _ _ _ us hl => match us, hl with | [_, _], _ => rfl) (pda_cons (pd_var 0) (pda_cons (pd_var 2) pda_nil)))))))) hp, hf⟩
theorem ow_check_cuts (hm : ∃ f fd, Fun K "check_cuts" "check_cuts" s_check_cuts f fd ∧ mg "check_cuts" = some (.ref f)) (z_MOST_CUTS : ∃ t, mg "MOST_CUTS" = some (.int 12 t)) (z_all : mg "all" = none) (z_len : mg "len" = none) (o_is_listed : Own P w K mg base "is_listed" s_is_listed ["value"] 1 1 ph_is_listed) (o_is_cut : Own P w K mg base "is_cut" s_is_cut ["web", "value"] 4 2 WL.ph_is_cut) (o_check_web : Own P w K mg base "check_web" s_check_web ["web"] 6 1 WL.ph_check_web) (hp : Pure ["web", "cuts", "cut"] 2 ph_check_cuts ds_check_cuts) : Own P w K mg base "check_cuts" s_check_cuts ["web", "cuts"] 7 2 ph_check_cuts := by
  obtain ⟨f, fd, F, hf⟩ := hm
  exact ⟨f, fd, F, okD F sc_check_cuts rfl (fun cdv A outer s H E hr => (pds_cons (pd_expr (pd_call o_check_web (hr.mono (by decide)) (fun _ _ _ _ _ _ us hl => match us, hl with | [_], _ => rfl) (pda_cons (pd_var 0) pda_nil)))
    (pds_one (pd_if (PDW.pdt (pdw_or (pdt_not (pdt_tru (pd_call o_is_listed (hr.mono (by decide)) (fun _ _ _ _ _ _ us hl => match us, hl with | [_], _ => rfl) (pda_cons (pd_var 1) pda_nil)))) (pdw_or (pdt_cmp (op_gtW hr.u128) lr_ordW (pd_len  (pda_cons (pd_var 1) pda_nil) z_len) (pd_gint z_MOST_CUTS) (nomark _)) (pdw_or1 (pdt_not (pdt_tru (pd_all rfl (pda_cons (pd_lcQ fin_frz [("cut", 2)] rfl sc_check_cuts.nd (pdi_seq (pd_var 1)) (blkOk_by (N := ["web", "cuts", "cut"]) (by show blkC _ (defScope s_check_cuts) _ _ = true; decide +kernel)) (ctg_name 2 (by decide) (fun _ _ _ _ _ => pg_name (i := 2) sc_check_cuts.nd rfl (Or.inl rfl))) ctst_nil (fun _ _ _ _ _ => (pd_call o_is_cut (hr.mono (by decide)) (fun _ _ _ _ _ _ us hl => match us, hl with | [_, _], _ => rfl) (pda_cons (pd_var 0) (pda_cons (pd_var 2) pda_nil))))) pda_nil) z_all))))))) (pds_one pd_never) pds_nil)))) hp, hf⟩
theorem ow_cuts_cross (hm : ∃ f fd, Fun K "cuts_cross" "cuts_cross" s_cuts_cross f fd ∧ mg "cuts_cross" = some (.ref f))  (o_do_cross : Own P w K mg base "do_cross" s_do_cross ["cut", "second"] 2 2 ph_do_cross) (o_check_two_cuts : Own P w K mg base "check_two_cuts" s_check_two_cuts ["web", "cut", "second"] 7 3 ph_check_two_cuts) (hp : Pure ["web", "cut", "second"] 3 ph_cuts_cross ds_cuts_cross) : Own P w K mg base "cuts_cross" s_cuts_cross ["web", "cut", "second"] 8 3 ph_cuts_cross := by
  obtain ⟨f, fd, F, hf⟩ := hm
  exact ⟨f, fd, F, okD F sc_cuts_cross rfl (fun cdv A outer s H E hr => (pds_cons (pd_expr (pd_call o_check_two_cuts (hr.mono (by decide)) (fun _ _ _ _ _ _ us hl => match us, hl with | [_, _, _], _ => rfl) (pda_cons (pd_var 0) (pda_cons (pd_var 1) (pda_cons (pd_var 2) pda_nil)))))
    (pds_one (pd_ret (pd_call o_do_cross (hr.mono (by decide)) (fun _ _ _ _ _ _ us hl => match us, hl with | [_, _], _ => rfl) (pda_cons (pd_var 1) (pda_cons (pd_var 2) pda_nil))))))) hp, hf⟩
theorem ow_uncrossed (hm : ∃ f fd, Fun K "uncrossed" "uncrossed" s_uncrossed f fd ∧ mg "uncrossed" = some (.ref f))  (o_do_cross : Own P w K mg base "do_cross" s_do_cross ["cut", "second"] 2 2 ph_do_cross) (o_become : Own P w K mg base "become" s_become ["cut", "second"] 1 2 ph_become) (o_check_two_cuts : Own P w K mg base "check_two_cuts" s_check_two_cuts ["web", "cut", "second"] 7 3 ph_check_two_cuts) (hp : Pure ["web", "cut", "second"] 3 ph_uncrossed ds_uncrossed) : Own P w K mg base "uncrossed" s_uncrossed ["web", "cut", "second"] 8 3 ph_uncrossed := by
  obtain ⟨f, fd, F, hf⟩ := hm
  exact ⟨f, fd, F, okD F sc_uncrossed rfl (fun cdv A outer s H E hr => (pds_cons (pd_expr (pd_call o_check_two_cuts (hr.mono (by decide)) (fun _ _ _ _ _ _ us hl => match us, hl with | [_, _, _], _ => rfl) (pda_cons (pd_var 0) (pda_cons (pd_var 1) (pda_cons (pd_var 2) pda_nil)))))
    (pds_one (pd_ret (pd_ifExp (pdt_tru (pd_call o_do_cross (hr.mono (by decide)) (fun _ _ _ _ _ _ us hl => match us, hl with | [_, _], _ => rfl) (pda_cons (pd_var 1) (pda_cons (pd_var 2) pda_nil)))) (pd_call o_become (hr.mono (by decide)) (fun _ _ _ _ _ _ us hl => match us, hl with | [_, _], _ => rfl) (pda_cons (pd_var 1) (pda_cons (pd_var 2) pda_nil))) (pd_tup (pda_cons (pd_var 1) (pda_cons (pd_var 2) pda_nil)))))))) hp, hf⟩
theorem ow_first_crossing (hm : ∃ f fd, Fun K "first_crossing" "first_crossing" s_first_crossing f fd ∧ mg "first_crossing" = some (.ref f)) (z_enumerate : mg "enumerate" = none) (z_len : mg "len" = none) (z_range : mg "range" = none) (o_do_cross : Own P w K mg base "do_cross" s_do_cross ["cut", "second"] 2 2 ph_do_cross) (hp : Pure ["cuts", "low", "cut", "high"] 1 ph_first_crossing ds_first_crossing) : Own P w K mg base "first_crossing" s_first_crossing ["cuts"] 3 1 ph_first_crossing := by
  obtain ⟨f, fd, F, hf⟩ := hm
  exact ⟨f, fd, F, okD F sc_first_crossing rfl (fun cdv A outer s H E hr => (pds_cons (pd_for PassesOwn.never rfl (pdi_enum (pda_cons (pd_var 0) pda_nil) z_enumerate) (pdg_tup rfl (pdgs_cons (pdg_name (i := 1) sc_first_crossing.nd) (pdgs_cons (pdg_name (i := 2) sc_first_crossing.nd) pdgs_nil))) (pds_one (pd_for PassesOwn.never rfl (pdi_range2 (pda_cons (pd_add (pd_var 1) pd_int) (pda_cons (pd_len  (pda_cons (pd_var 0) pda_nil) z_len) pda_nil)) z_range) (pdg_name (i := 3) sc_first_crossing.nd) (pds_one (pd_if (pdt_tru (pd_call o_do_cross (hr.mono (by decide)) (fun _ _ _ _ _ _ us hl => match us, hl with | [_, _], _ => rfl) (pda_cons (pd_var 2) (pda_cons (pd_ix (pd_var 0) (pd_var 3)) pda_nil)))) (pds_one (pd_ret (pd_tup (pda_cons (pd_var 1) (pda_cons (pd_var 3) pda_nil))))) pds_nil)))))
    (pds_one (pd_ret pd_non)))) hp, hf⟩
theorem ow_is_laminar (hm : ∃ f fd, Fun K "is_laminar" "is_laminar" s_is_laminar f fd ∧ mg "is_laminar" = some (.ref f))  (o_check_cuts : Own P w K mg base "check_cuts" s_check_cuts ["web", "cuts"] 7 2 ph_check_cuts) (o_first_crossing : Own P w K mg base "first_crossing" s_first_crossing ["cuts"] 3 1 ph_first_crossing) (hp : Pure ["web", "cuts"] 2 ph_is_laminar ds_is_laminar) : Own P w K mg base "is_laminar" s_is_laminar ["web", "cuts"] 8 2 ph_is_laminar := by
  obtain ⟨f, fd, F, hf⟩ := hm
  exact ⟨f, fd, F, okD F sc_is_laminar rfl (fun cdv A outer s H E hr => (pds_cons (pd_expr (pd_call o_check_cuts (hr.mono (by decide)) (fun _ _ _ _ _ _ us hl => match us, hl with | [_, _], _ => rfl) (pda_cons (pd_var 0) (pda_cons (pd_var 1) pda_nil))))
    (pds_one (pd_ret (pd_cmp op_isV lr_is (pd_call o_first_crossing (hr.mono (by decide)) (fun _ _ _ _ _ _ us hl => match us, hl with | [_], _ => rfl) (pda_cons (pd_var 1) pda_nil)) pd_non (nomark _)))))) hp, hf⟩
theorem ow_made_laminar (hm : ∃ f fd, Fun K "made_laminar" "made_laminar" s_made_laminar f fd ∧ mg "made_laminar" = some (.ref f)) (z_list : mg "list" = none) (z_sorted : mg "sorted" = none) (o_become : Own P w K mg base "become" s_become ["cut", "second"] 1 2 ph_become) (o_check_cuts : Own P w K mg base "check_cuts" s_check_cuts ["web", "cuts"] 7 2 ph_check_cuts) (o_first_crossing : Own P w K mg base "first_crossing" s_first_crossing ["cuts"] 3 1 ph_first_crossing) (hp : Pure ["web", "cuts", "made", "pair", "low", "high", "others"] 2 ph_made_laminar ds_made_laminar) : Own P w K mg base "made_laminar" s_made_laminar ["web", "cuts"] 8 2 ph_made_laminar := by
  obtain ⟨f, fd, F, hf⟩ := hm
  exact ⟨f, fd, F, okD F sc_made_laminar rfl (fun cdv A outer s H E hr => (pds_cons (pd_expr (pd_call o_check_cuts (hr.mono (by decide)) (fun _ _ _ _ _ _ us hl => match us, hl with | [_, _], _ => rfl) (pda_cons (pd_var 0) (pda_cons (pd_var 1) pda_nil))))
    (pds_cons (pd_set (i := 2) sc_made_laminar.nd (pd_sortedAC hr (pda_cons (pd_var 1) pda_nil) z_sorted))
    (pds_cons (pd_set (i := 3) sc_made_laminar.nd (pd_call o_first_crossing (hr.mono (by decide)) (fun _ _ _ _ _ _ us hl => match us, hl with | [_], _ => rfl) (pda_cons (pd_var 2) pda_nil)))
    (pds_cons (pd_while PassesOwn.never (pdt_cmp op_isnotV lr_isnot (pd_var 3) pd_non (nomark _)) (pds_cons (pd_asgG (pd_var 3) (pdg_tup rfl (pdgs_cons (pdg_name (i := 4) sc_made_laminar.nd) (pdgs_cons (pdg_name (i := 5) sc_made_laminar.nd) pdgs_nil))))
    (pds_cons (pd_set (i := 6) sc_made_laminar.nd (pd_add (pd_add (pd_sl (pd_var 2) pdo_none (pdo_some (pd_var 4))) (pd_sl (pd_var 2) (pdo_some (pd_add (pd_var 4) pd_int)) (pdo_some (pd_var 5)))) (pd_sl (pd_var 2) (pdo_some (pd_add (pd_var 5) pd_int)) pdo_none)))
    (pds_cons (pd_set (i := 2) sc_made_laminar.nd (pd_sortedAC hr (pda_cons (pd_add (pd_var 6) (pd_list  (pda_cons (pd_call o_become (hr.mono (by decide)) (fun _ _ _ _ _ _ us hl => match us, hl with | [_, _], _ => rfl) (pda_cons (pd_ix (pd_var 2) (pd_var 4)) (pda_cons (pd_ix (pd_var 2) (pd_var 5)) pda_nil))) pda_nil) z_list)) pda_nil) z_sorted))
    (pds_one (pd_set (i := 3) sc_made_laminar.nd (pd_call o_first_crossing (hr.mono (by decide)) (fun _ _ _ _ _ _ us hl => match us, hl with | [_], _ => rfl) (pda_cons (pd_var 2) pda_nil))))))))
    (pds_one (pd_ret (pd_var 2)))))))) hp, hf⟩
theorem ow_holder (hm : ∃ f fd, Fun K "holder" "holder" s_holder f fd ∧ mg "holder" = some (.ref f)) (z_enumerate : mg "enumerate" = none) (z_len : mg "len" = none) (z_min : mg "min" = none) (o_has_more : Own P w K mg base "has_more" s_has_more ["cut", "second"] 1 2 ph_has_more) (hp : Pure ["cuts", "at", "cut", "wider", "place", "second"] 2 ph_holder ds_holder) : Own P w K mg base "holder" s_holder ["cuts", "at"] 2 2 ph_holder := by
  obtain ⟨f, fd, F, hf⟩ := hm
  exact ⟨f, fd, F, okD F sc_holder rfl (fun cdv A outer s H E hr => (pds_cons (pd_set (i := 2) sc_holder.nd (pd_ix (pd_var 0) (pd_var 1)) (hx := Or.inr rfl))
    (pds_cons (pd_setLcQ (j := 3) fin_frz [("place", 4), ("second", 5)] rfl sc_holder.nd (pdi_enum (pda_cons (pd_var 0) pda_nil) z_enumerate) (blkOk_by (N := ["cuts", "at", "cut", "wider", "place", "second"]) (by show blkC _ (defScope s_holder) _ _ = true; decide +kernel)) (ctg_tup rfl (ctgs_cons (ctg_name 4 (by decide) (fun _ _ _ _ _ => pg_name (i := 4) sc_holder.nd rfl (Or.inl rfl))) (ctgs_cons (ctg_name 5 (by decide) (fun _ _ _ _ _ => pg_name (i := 5) sc_holder.nd rfl (Or.inl rfl))) ctgs_nil))) (ctst_one (fun _ _ _ _ _ => (PDW.pdt (pdw_and (pdt_tru (pd_call o_has_more (hr.mono (by decide)) (fun _ _ _ _ _ _ us hl => match us, hl with | [_, _], _ => rfl) (pda_cons (pd_var 5) (pda_cons (pd_var 2) pda_nil)))) (pdw_and1 (pdt_not (pdt_tru (pd_call o_has_more (hr.mono (by decide)) (fun _ _ _ _ _ _ us hl => match us, hl with | [_, _], _ => rfl) (pda_cons (pd_var 2) (pda_cons (pd_var 5) pda_nil)))))))))) (fun _ _ _ _ _ => (pd_tup (pda_cons (pd_len  (pda_cons (pd_var 5) pda_nil) z_len) (pda_cons (pd_var 4) pda_nil)))) (sw_true rfl rfl rfl (by decide +kernel)))
    (pds_one (pd_ret (pd_ifExp (pdt_tru (pd_var 3)) (pd_ix (pd_min1 hr rfl (pda_cons (pd_var 3) pda_nil) z_min) pd_int) pd_non)))))) hp, hf⟩
theorem ow_holders (hm : ∃ f fd, Fun K "holders" "holders" s_holders f fd ∧ mg "holders" = some (.ref f)) (z_len : mg "len" = none) (z_range : mg "range" = none) (o_is_rising : Own P w K mg base "is_rising" s_is_rising ["row"] 1 1 WL.ph_is_rising) (o_check_cuts : Own P w K mg base "check_cuts" s_check_cuts ["web", "cuts"] 7 2 ph_check_cuts) (o_first_crossing : Own P w K mg base "first_crossing" s_first_crossing ["cuts"] 3 1 ph_first_crossing) (o_holder : Own P w K mg base "holder" s_holder ["cuts", "at"] 2 2 ph_holder) (hp : Pure ["web", "cuts", "at"] 2 ph_holders ds_holders) : Own P w K mg base "holders" s_holders ["web", "cuts"] 8 2 ph_holders := by
  obtain ⟨f, fd, F, hf⟩ := hm
  exact ⟨f, fd, F, okD F sc_holders rfl (fun cdv A outer s H E hr => (pds_cons (pd_expr (pd_call o_check_cuts (hr.mono (by decide)) (fun _ _ _ _ _ _ us hl => match us, hl with | [_, _], _ => rfl) (pda_cons (pd_var 0) (pda_cons (pd_var 1) pda_nil))))
    (pds_cons (pd_if (PDW.pdt (pdw_or (pdt_not (pdt_tru (pd_call o_is_rising (hr.mono (by decide)) (fun _ _ _ _ _ _ us hl => match us, hl with | [_], _ => rfl) (pda_cons (pd_var 1) pda_nil)))) (pdw_or1 (pdt_cmp op_isnotV lr_isnot (pd_call o_first_crossing (hr.mono (by decide)) (fun _ _ _ _ _ _ us hl => match us, hl with | [_], _ => rfl) (pda_cons (pd_var 1) pda_nil)) pd_non (nomark _))))) (pds_one pd_never) pds_nil)
    (pds_one (pd_ret (pd_lcQ fin_frz [("at", 2)] rfl sc_holders.nd (pdi_range1 (pda_cons (pd_len  (pda_cons (pd_var 1) pda_nil) z_len) pda_nil) z_range) (blkOk_by (N := ["web", "cuts", "at"]) (by show blkC _ (defScope s_holders) _ _ = true; decide +kernel)) (ctg_name 2 (by decide) (fun _ _ _ _ _ => pg_name (i := 2) sc_holders.nd rfl (Or.inl rfl))) ctst_nil (fun _ _ _ _ _ => (pd_call o_holder (hr.mono (by decide)) (fun _ _ _ _ _ _ us hl => match us, hl with | [_, _], _ => rfl) (pda_cons (pd_var 1) (pda_cons (pd_var 2) pda_nil)))))))))) hp, hf⟩
theorem ow_law_pot (hm : ∃ f fd, Fun K "_law_pot" "_law_pot" s_law_pot f fd ∧ mg "_law_pot" = some (.ref f)) (z_abs : mg "abs" = none) (z_int : mg "int" = none) (z_len : mg "len" = none) (z_max : mg "max" = none)  (hp : Pure ["script", "k", "cell", "low"] 2 WL.ph_law_pot ds_law_pot) : Own P w K mg base "_law_pot" s_law_pot ["script", "k"] 1 2 WL.ph_law_pot := by
  obtain ⟨f, fd, F, hf⟩ := hm
  exact ⟨f, fd, F, okD F sc_law_pot rfl (fun cdv A outer s H E hr => (pds_cons (pd_set (i := 2) sc_law_pot.nd (pd_ifExp (pdt_cmp (op_ltW hr.u128) lr_ordW (pd_var 1) (pd_len  (pda_cons (pd_var 0) pda_nil) z_len) (nomark _)) (pd_abs  (pda_cons (pd_ix (pd_var 0) (pd_var 1)) pda_nil) z_abs) (pd_add (pd_mul pd_int (pd_var 1)) pd_int)))
    (pds_cons (pd_set (i := 3) sc_law_pot.nd (pd_add (pd_md (pd_intc  (pda_cons (pd_add (pd_add (pd_mul (pd_md (pd_intc  (pda_cons (pd_var 2) pda_nil) z_int) pd_int) pd_int) (pd_mul pd_int (pd_var 1))) pd_int) pda_nil) z_int) pd_int) pd_int))
    (pds_one (pd_ret (pd_lstC (pda_cons (pd_max2 rfl (pda_cons pd_int (pda_cons (pd_sub (pd_var 2) (pd_pw pd_int pd_int)) pda_nil)) z_max) (pda_cons (pd_var 3) pda_nil)))))))) hp, hf⟩
theorem ow_law_draw (hm : ∃ f fd, Fun K "_law_draw" "_law_draw" s_law_draw f fd ∧ mg "_law_draw" = some (.ref f)) (z_divmod : mg "divmod" = none) (z_int : mg "int" = none)  (hp : Pure ["pot", "size", "digit"] 2 WL.ph_law_draw ds_law_draw) : Own P w K mg base "_law_draw" s_law_draw ["pot", "size"] 1 2 WL.ph_law_draw := by
  obtain ⟨f, fd, F, hf⟩ := hm
  exact ⟨f, fd, F, okD F sc_law_draw rfl (fun cdv A outer s H E hr => (pds_cons (pd_if (pdt_cmp (op_gtW hr.u128) lr_ordW (pd_ix (pd_var 0) pd_int) pd_int (nomark _)) (pds_cons (pd_asgG (pd_dm  (pda_cons (pd_ix (pd_var 0) pd_int) (pda_cons (pd_var 1) pda_nil)) z_divmod) (pdg_tup rfl (pdgs_cons (pdg_sub (pd_var 0) pd_int) (pdgs_cons (pdg_name (i := 2) sc_law_draw.nd) pdgs_nil))))
    (pds_one (pd_ret (pd_var 2)))) pds_nil)
    (pds_cons (pd_asgG (pd_md (pd_intc  (pda_cons (pd_add (pd_mul (pd_ix (pd_var 0) pd_int) pd_int) pd_int) pda_nil) z_int) pd_int) (pdg_sub (pd_var 0) pd_int))
    (pds_one (pd_ret (pd_md (pd_intc  (pda_cons (pd_dv (pd_md (pd_intc  (pda_cons (pd_mul (pd_ix (pd_var 0) pd_int) (pd_ix (pd_var 0) pd_int)) pda_nil) z_int) pd_int) pd_int) pda_nil) z_int) (pd_var 1))))))) hp, hf⟩
theorem ow_law_pick (hm : ∃ f fd, Fun K "_law_pick" "_law_pick" s_law_pick f fd ∧ mg "_law_pick" = some (.ref f)) (z_len : mg "len" = none) (o_law_draw : Own P w K mg base "_law_draw" s_law_draw ["pot", "size"] 1 2 WL.ph_law_draw) (hp : Pure ["pot", "some"] 2 ph_law_pick ds_law_pick) : Own P w K mg base "_law_pick" s_law_pick ["pot", "some"] 2 2 ph_law_pick := by
  obtain ⟨f, fd, F, hf⟩ := hm
  exact ⟨f, fd, F, okD F sc_law_pick rfl (fun cdv A outer s H E hr => (pds_one (pd_ret (pd_ix (pd_var 1) (pd_call o_law_draw (hr.mono (by decide)) (fun _ _ _ _ _ _ us hl => match us, hl with | [_, _], _ => rfl) (pda_cons (pd_var 0) (pda_cons (pd_len  (pda_cons (pd_var 1) pda_nil) z_len) pda_nil))))))) hp, hf⟩
theorem ow_law_web (hm : ∃ f fd, Fun K "_law_web" "_law_web" s_law_web f fd ∧ mg "_law_web" = some (.ref f)) (z_list : mg "list" = none) (z_range : mg "range" = none) (z_sorted : mg "sorted" = none) (z_tuple : mg "tuple" = none) (o_law_draw : Own P w K mg base "_law_draw" s_law_draw ["pot", "size"] 1 2 WL.ph_law_draw) (hp : Pure ["pot", "many", "further", "room", "ties", "place", "turn", "one", "tie"] 4 WL.ph_law_web WL.ds_law_web) : Own P w K mg base "_law_web" s_law_web ["pot", "many", "further", "room"] 2 4 WL.ph_law_web := by
  obtain ⟨f, fd, F, hf⟩ := hm
  exact ⟨f, fd, F, okD F sc_law_web rfl (fun cdv A outer s H E hr => (pds_cons (pd_set (i := 4) sc_law_web.nd pd_dctT (hx := Or.inr rfl))
    (pds_cons (pd_for PassesOwn.never rfl (pdi_range2 (pda_cons pd_int (pda_cons (pd_var 1) pda_nil)) z_range) (pdg_name (i := 5) sc_law_web.nd) (pds_one (pd_dputT hr (pd_var 4) (pda_cons (pd_call o_law_draw (hr.mono (by decide)) (fun _ _ _ _ _ _ us hl => match us, hl with | [_, _], _ => rfl) (pda_cons (pd_var 0) (pda_cons (pd_var 5) pda_nil))) (pda_cons (pd_var 5) pda_nil)) (pd_add pd_int (pd_call o_law_draw (hr.mono (by decide)) (fun _ _ _ _ _ _ us hl => match us, hl with | [_, _], _ => rfl) (pda_cons (pd_var 0) (pda_cons (pd_var 3) pda_nil)))))))
    (pds_cons (pd_for PassesOwn.never rfl (pdi_range1 (pda_cons (pd_call o_law_draw (hr.mono (by decide)) (fun _ _ _ _ _ _ us hl => match us, hl with | [_, _], _ => rfl) (pda_cons (pd_var 0) (pda_cons (pd_add (pd_var 2) pd_int) pda_nil))) pda_nil) z_range) (pdg_name (i := 6) sc_law_web.nd) (pds_cons (pd_set (i := 7) sc_law_web.nd (pd_call o_law_draw (hr.mono (by decide)) (fun _ _ _ _ _ _ us hl => match us, hl with | [_, _], _ => rfl) (pda_cons (pd_var 0) (pda_cons (pd_sub (pd_var 1) pd_int) pda_nil))))
    (pds_one (pd_dputT hr (pd_var 4) (pda_cons (pd_var 7) (pda_cons (pd_add (pd_add (pd_var 7) pd_int) (pd_call o_law_draw (hr.mono (by decide)) (fun _ _ _ _ _ _ us hl => match us, hl with | [_, _], _ => rfl) (pda_cons (pd_var 0) (pda_cons (pd_sub (pd_sub (pd_var 1) pd_int) (pd_var 7)) pda_nil)))) pda_nil)) (pd_add pd_int (pd_call o_law_draw (hr.mono (by decide)) (fun _ _ _ _ _ _ us hl => match us, hl with | [_, _], _ => rfl) (pda_cons (pd_var 0) (pda_cons (pd_var 3) pda_nil))))))))
    (pds_one (pd_ret (pd_tup (pda_cons pd_str (pda_cons (pd_var 1) (pda_cons (pd_tuple  (pda_cons (pd_lcQ fin_frz [("tie", 8)] rfl sc_law_web.nd (pdi_seq (pd_sorted hr (pda_cons (pd_listDT rfl (pda_cons (pd_var 4) pda_nil) z_list) pda_nil) z_sorted)) (blkOk_by (N := ["pot", "many", "further", "room", "ties", "place", "turn", "one", "tie"]) (by show blkC _ (defScope s_law_web) _ _ = true; decide +kernel)) (ctg_name 8 (by decide) (fun _ _ _ _ _ => pg_name (i := 8) sc_law_web.nd rfl (Or.inl rfl))) ctst_nil (fun _ _ _ _ _ => (pd_add (pd_var 8) (pd_tup (pda_cons (pd_dix hr (pd_var 4) (pd_var 8)) pda_nil))))) pda_nil) z_tuple) pda_nil)))))))))) hp, hf⟩
theorem ow_law_cuts (hm : ∃ f fd, Fun K "_law_cuts" "_law_cuts" s_law_cuts f fd ∧ mg "_law_cuts" = some (.ref f)) (z_range : mg "range" = none) (z_sorted : mg "sorted" = none)  (hp : Pure ["many", "found", "place", "cut"] 1 WL.ph_law_cuts WL.ds_law_cuts) : Own P w K mg base "_law_cuts" s_law_cuts ["many"] 1 1 WL.ph_law_cuts := by
  obtain ⟨f, fd, F, hf⟩ := hm
  exact ⟨f, fd, F, okD F sc_law_cuts rfl (fun cdv A outer s H E hr => (pds_cons (pd_set (i := 1) sc_law_cuts.nd (pd_lst (pda_cons (pd_tup pda_nil) pda_nil)))
    (pds_cons (pd_for PassesOwn.never rfl (pdi_range2 (pda_cons pd_int (pda_cons (pd_var 0) pda_nil)) z_range) (pdg_name (i := 2) sc_law_cuts.nd (hx := Or.inr rfl)) (pds_one (pd_set (i := 1) sc_law_cuts.nd (pd_add (pd_var 1) (pd_lcQ fin_frz [("cut", 3)] rfl sc_law_cuts.nd (pdi_seq (pd_var 1)) (blkOk_by (N := ["many", "found", "place", "cut"]) (by show blkC _ (defScope s_law_cuts) _ _ = true; decide +kernel)) (ctg_name 3 (by decide) (fun _ _ _ _ _ => pg_name (i := 3) sc_law_cuts.nd rfl (Or.inl rfl))) ctst_nil (fun _ _ _ _ _ => (pd_add (pd_var 3) (pd_tup (pda_cons (pd_var 2) pda_nil)))))))))
    (pds_one (pd_ret (pd_sorted hr (pda_cons (pd_lcQ fin_frz [("cut", 3)] rfl sc_law_cuts.nd (pdi_seq (pd_var 1)) (blkOk_by (N := ["many", "found", "place", "cut"]) (by show blkC _ (defScope s_law_cuts) _ _ = true; decide +kernel)) (ctg_name 3 (by decide) (fun _ _ _ _ _ => pg_name (i := 3) sc_law_cuts.nd rfl (Or.inl rfl))) (ctst_one (fun _ _ _ _ _ => (pdt_cmp (op_neV hr.u64) lr_ne (pd_var 3) (pd_tup pda_nil) (nomark _)))) (fun _ _ _ _ _ => (pd_var 3))) pda_nil) z_sorted)))))) hp, hf⟩
theorem ow_law_over (hm : ∃ f fd, Fun K "_law_over" "_law_over" s_law_over f fd ∧ mg "_law_over" = some (.ref f)) (z_sum : mg "sum" = none)  (hp : Pure ["rows", "cut", "row"] 2 WL.ph_law_over WL.ds_law_over) : Own P w K mg base "_law_over" s_law_over ["rows", "cut"] 1 2 WL.ph_law_over := by
  obtain ⟨f, fd, F, hf⟩ := hm
  exact ⟨f, fd, F, okD F sc_law_over rfl (fun cdv A outer s H E hr => (pds_one (pd_ret (pd_sum rfl (pda_cons (pd_lcQ fin_frz [("row", 2)] rfl sc_law_over.nd (pdi_seq (pd_var 0)) (blkOk_by (N := ["rows", "cut", "row"]) (by show blkC _ (defScope s_law_over) _ _ = true; decide +kernel)) (ctg_name 2 (by decide) (fun _ _ _ _ _ => pg_name (i := 2) sc_law_over.nd rfl (Or.inl rfl))) (ctst_one (fun _ _ _ _ _ => (pdt_cmp (op_neV hr.u64) lr_ne (pd_cmp (op_inAll hr.u128) lr_in (pd_ix (pd_var 2) pd_int) (pd_var 1) rfl) (pd_cmp (op_inAll hr.u128) lr_in (pd_ix (pd_var 2) pd_int) (pd_var 1) rfl) (nomark _)))) (fun _ _ _ _ _ => (pd_ix (pd_var 2) pd_int))) pda_nil) z_sum)))) hp, hf⟩
theorem ow_law_do_cross (hm : ∃ f fd, Fun K "_law_do_cross" "_law_do_cross" s_law_do_cross f fd ∧ mg "_law_do_cross" = some (.ref f)) (z_len : mg "len" = none)  (hp : Pure ["cut", "second", "common", "place"] 2 ph_law_do_cross ds_law_do_cross) : Own P w K mg base "_law_do_cross" s_law_do_cross ["cut", "second"] 1 2 ph_law_do_cross := by
  obtain ⟨f, fd, F, hf⟩ := hm
  exact ⟨f, fd, F, okD F sc_law_do_cross rfl (fun cdv A outer s H E hr => (pds_cons (pd_setLcQ (j := 2) fin_frz [("place", 3)] rfl sc_law_do_cross.nd (pdi_seq (pd_var 0)) (blkOk_by (N := ["cut", "second", "common", "place"]) (by show blkC _ (defScope s_law_do_cross) _ _ = true; decide +kernel)) (ctg_name 3 (by decide) (fun _ _ _ _ _ => pg_name (i := 3) sc_law_do_cross.nd rfl (Or.inl rfl))) (ctst_one (fun _ _ _ _ _ => (pdt_cmp (op_inAll hr.u128) lr_in (pd_var 3) (pd_var 1) rfl))) (fun _ _ _ _ _ => (pd_var 3)) (sw_true rfl rfl rfl (by decide +kernel)))
    (pds_one (pd_ret (pd_and (pd_cmp (op_neV hr.u64) lr_ne (pd_var 2) (pd_lst pda_nil) (nomark _)) (pd_and (pd_cmp (op_ltW hr.u128) lr_ordW (pd_len  (pda_cons (pd_var 2) pda_nil) z_len) (pd_len  (pda_cons (pd_var 0) pda_nil) z_len) (nomark _)) (pd_one (pd_cmp (op_ltW hr.u128) lr_ordW (pd_len  (pda_cons (pd_var 2) pda_nil) z_len) (pd_len  (pda_cons (pd_var 1) pda_nil) z_len) (nomark _))))))))) hp, hf⟩
theorem ow_law_uncrossed (hm : ∃ f fd, Fun K "_law_uncrossed" "_law_uncrossed" s_law_uncrossed f fd ∧ mg "_law_uncrossed" = some (.ref f)) (z_set : mg "set" = none) (z_sorted : mg "sorted" = none) (z_tuple : mg "tuple" = none) (o_law_do_cross : Own P w K mg base "_law_do_cross" s_law_do_cross ["cut", "second"] 1 2 ph_law_do_cross) (hp : Pure ["cut", "second", "common", "place"] 2 ph_law_uncrossed ds_law_uncrossed) : Own P w K mg base "_law_uncrossed" s_law_uncrossed ["cut", "second"] 2 2 ph_law_uncrossed := by
  obtain ⟨f, fd, F, hf⟩ := hm
  exact ⟨f, fd, F, okD F sc_law_uncrossed rfl (fun cdv A outer s H E hr => (pds_cons (pd_if (pdt_not (pdt_tru (pd_call o_law_do_cross (hr.mono (by decide)) (fun _ _ _ _ _ _ us hl => match us, hl with | [_, _], _ => rfl) (pda_cons (pd_var 0) (pda_cons (pd_var 1) pda_nil))))) (pds_one (pd_ret (pd_tup (pda_cons (pd_var 0) (pda_cons (pd_var 1) pda_nil))))) pds_nil)
    (pds_cons (pd_set (i := 2) sc_law_uncrossed.nd (pd_tuple  (pda_cons (pd_lcQ fin_frz [("place", 3)] rfl sc_law_uncrossed.nd (pdi_seq (pd_var 0)) (blkOk_by (N := ["cut", "second", "common", "place"]) (by show blkC _ (defScope s_law_uncrossed) _ _ = true; decide +kernel)) (ctg_name 3 (by decide) (fun _ _ _ _ _ => pg_name (i := 3) sc_law_uncrossed.nd rfl (Or.inl rfl))) (ctst_one (fun _ _ _ _ _ => (pdt_cmp (op_inAll hr.u128) lr_in (pd_var 3) (pd_var 1) rfl))) (fun _ _ _ _ _ => (pd_var 3))) pda_nil) z_tuple))
    (pds_one (pd_ret (pd_tup (pda_cons (pd_var 2) (pda_cons (pd_tuple  (pda_cons (pd_upSet2 rfl (pd_add (pd_var 0) (pd_var 1)) z_sorted z_set) pda_nil) z_tuple) pda_nil)))))))) hp, hf⟩
theorem ow_law_first (hm : ∃ f fd, Fun K "_law_first" "_law_first" s_law_first f fd ∧ mg "_law_first" = some (.ref f)) (z_len : mg "len" = none) (z_range : mg "range" = none) (o_law_do_cross : Own P w K mg base "_law_do_cross" s_law_do_cross ["cut", "second"] 1 2 ph_law_do_cross) (hp : Pure ["cuts", "one", "other"] 1 ph_law_first ds_law_first) : Own P w K mg base "_law_first" s_law_first ["cuts"] 2 1 ph_law_first := by
  obtain ⟨f, fd, F, hf⟩ := hm
  exact ⟨f, fd, F, okD F sc_law_first rfl (fun cdv A outer s H E hr => (pds_cons (pd_for PassesOwn.never rfl (pdi_range1 (pda_cons (pd_len  (pda_cons (pd_var 0) pda_nil) z_len) pda_nil) z_range) (pdg_name (i := 1) sc_law_first.nd) (pds_one (pd_for PassesOwn.never rfl (pdi_range2 (pda_cons (pd_add (pd_var 1) pd_int) (pda_cons (pd_len  (pda_cons (pd_var 0) pda_nil) z_len) pda_nil)) z_range) (pdg_name (i := 2) sc_law_first.nd) (pds_one (pd_if (pdt_tru (pd_call o_law_do_cross (hr.mono (by decide)) (fun _ _ _ _ _ _ us hl => match us, hl with | [_, _], _ => rfl) (pda_cons (pd_ix (pd_var 0) (pd_var 1)) (pda_cons (pd_ix (pd_var 0) (pd_var 2)) pda_nil)))) (pds_one (pd_ret (pd_tup (pda_cons (pd_var 1) (pda_cons (pd_var 2) pda_nil))))) pds_nil)))))
    (pds_one (pd_ret pd_non)))) hp, hf⟩
theorem ow_law_laminar (hm : ∃ f fd, Fun K "_law_laminar" "_law_laminar" s_law_laminar f fd ∧ mg "_law_laminar" = some (.ref f)) (z_enumerate : mg "enumerate" = none) (z_list : mg "list" = none) (z_sorted : mg "sorted" = none) (o_law_uncrossed : Own P w K mg base "_law_uncrossed" s_law_uncrossed ["cut", "second"] 2 2 ph_law_uncrossed) (o_law_first : Own P w K mg base "_law_first" s_law_first ["cuts"] 2 1 ph_law_first) (hp : Pure ["cuts", "found", "both", "one", "other", "late", "at", "cut"] 1 ph_law_laminar ds_law_laminar) : Own P w K mg base "_law_laminar" s_law_laminar ["cuts"] 3 1 ph_law_laminar := by
  obtain ⟨f, fd, F, hf⟩ := hm
  exact ⟨f, fd, F, okD F sc_law_laminar rfl (fun cdv A outer s H E hr => (pds_cons (pd_set (i := 1) sc_law_laminar.nd (pd_sorted hr (pda_cons (pd_var 0) pda_nil) z_sorted))
    (pds_cons (pd_set (i := 2) sc_law_laminar.nd (pd_call o_law_first (hr.mono (by decide)) (fun _ _ _ _ _ _ us hl => match us, hl with | [_], _ => rfl) (pda_cons (pd_var 1) pda_nil)) (hx := Or.inr rfl))
    (pds_cons (pd_while PassesOwn.never (pdt_cmp op_isnotV lr_isnot (pd_var 2) pd_non (nomark _)) (pds_cons (pd_asgG (pd_var 2) (pdg_tup rfl (pdgs_cons (pdg_name (i := 3) sc_law_laminar.nd) (pdgs_cons (pdg_name (i := 4) sc_law_laminar.nd) pdgs_nil))))
    (pds_cons (pd_set (i := 5) sc_law_laminar.nd (pd_call o_law_uncrossed (hr.mono (by decide)) (fun _ _ _ _ _ _ us hl => match us, hl with | [_, _], _ => rfl) (pda_cons (pd_ix (pd_var 1) (pd_var 3)) (pda_cons (pd_ix (pd_var 1) (pd_var 4)) pda_nil))))
    (pds_cons (pd_set (i := 1) sc_law_laminar.nd (pd_add (pd_lcQ fin_frz [("at", 6), ("cut", 7)] rfl sc_law_laminar.nd (pdi_enum (pda_cons (pd_var 1) pda_nil) z_enumerate) (blkOk_by (N := ["cuts", "found", "both", "one", "other", "late", "at", "cut"]) (by show blkC _ (defScope s_law_laminar) _ _ = true; decide +kernel)) (ctg_tup rfl (ctgs_cons (ctg_name 6 (by decide) (fun _ _ _ _ _ => pg_name (i := 6) sc_law_laminar.nd rfl (Or.inl rfl))) (ctgs_cons (ctg_name 7 (by decide) (fun _ _ _ _ _ => pg_name (i := 7) sc_law_laminar.nd rfl (Or.inl rfl))) ctgs_nil))) (ctst_one (fun _ _ _ _ _ => (pdt_cmp (op_notInAll hr.u128) lr_in (pd_var 6) (pd_var 2) rfl))) (fun _ _ _ _ _ => (pd_var 7))) (pd_list  (pda_cons (pd_var 5) pda_nil) z_list)))
    (pds_cons (pd_set (i := 1) sc_law_laminar.nd (pd_sorted hr (pda_cons (pd_var 1) pda_nil) z_sorted))
    (pds_one (pd_set (i := 2) sc_law_laminar.nd (pd_call o_law_first (hr.mono (by decide)) (fun _ _ _ _ _ _ us hl => match us, hl with | [_], _ => rfl) (pda_cons (pd_var 1) pda_nil)) (hx := Or.inr rfl))))))))
    (pds_one (pd_ret (pd_var 1))))))) hp, hf⟩
theorem ow_law_holder (hm : ∃ f fd, Fun K "_law_holder" "_law_holder" s_law_holder f fd ∧ mg "_law_holder" = some (.ref f)) (z_all : mg "all" = none) (z_enumerate : mg "enumerate" = none) (z_len : mg "len" = none) (z_min : mg "min" = none)  (hp : Pure ["cuts", "cut", "some", "at", "late", "place"] 2 ph_law_holder ds_law_holder) : Own P w K mg base "_law_holder" s_law_holder ["cuts", "cut"] 1 2 ph_law_holder := by
  obtain ⟨f, fd, F, hf⟩ := hm
  exact ⟨f, fd, F, okD F sc_law_holder rfl (fun cdv A outer s H E hr => (pds_cons (pd_setLcQ (j := 2) fin_frz [("at", 3), ("late", 4)] rfl sc_law_holder.nd (pdi_enum (pda_cons (pd_var 0) pda_nil) z_enumerate) (blkOk_by (N := ["cuts", "cut", "some", "at", "late", "place"]) (by show blkC _ (defScope s_law_holder) _ _ = true; decide +kernel)) (ctg_tup rfl (ctgs_cons (ctg_name 3 (by decide) (fun _ _ _ _ _ => pg_name (i := 3) sc_law_holder.nd rfl (Or.inl rfl))) (ctgs_cons (ctg_name 4 (by decide) (fun _ _ _ _ _ => pg_name (i := 4) sc_law_holder.nd rfl (Or.inr rfl))) ctgs_nil))) (ctst_one (fun _ _ _ _ _ => (PDW.pdt (pdw_and (pdt_cmp (op_neV hr.u64) lr_ne (pd_var 4) (pd_var 1) (nomark _)) (pdw_and1 (pdt_tru (pd_all rfl (pda_cons (pd_lcQ fin_frz [("place", 5)] rfl sc_law_holder.nd (pdi_seq (pd_var 1)) (blkOk_by (N := ["cuts", "cut", "some", "at", "late", "place"]) (by first | rfl | with_unfolding_all rfl)) (ctg_name 5 (by decide) (fun _ _ _ _ _ => pg_name (i := 5) sc_law_holder.nd rfl (Or.inl rfl))) ctst_nil (fun _ _ _ _ _ => (pd_cmp (op_inAll hr.u128) lr_in (pd_var 5) (pd_var 4) rfl))) pda_nil) z_all))))))) (fun _ _ _ _ _ => (pd_tup (pda_cons (pd_len  (pda_cons (pd_var 4) pda_nil) z_len) (pda_cons (pd_var 3) pda_nil)))) (sw_true rfl rfl rfl (by decide +kernel)))
    (pds_one (pd_ret (pd_ifExp (pdt_cmp (op_neV hr.u64) lr_ne (pd_var 2) (pd_lst pda_nil) (nomark _)) (pd_ix (pd_min1 hr rfl (pda_cons (pd_var 2) pda_nil) z_min) pd_int) pd_non))))) hp, hf⟩
theorem ow_law_two_right (hm : ∃ f fd, Fun K "_law_two_right" "_law_two_right" s_law_two_right f fd ∧ mg "_law_two_right" = some (.ref f)) (z_repr : mg "repr" = none) (o_cuts_cross : Own P w K mg base "cuts_cross" s_cuts_cross ["web", "cut", "second"] 8 3 ph_cuts_cross) (o_uncrossed : Own P w K mg base "uncrossed" s_uncrossed ["web", "cut", "second"] 8 3 ph_uncrossed) (o_law_over : Own P w K mg base "_law_over" s_law_over ["rows", "cut"] 1 2 WL.ph_law_over) (o_law_do_cross : Own P w K mg base "_law_do_cross" s_law_do_cross ["cut", "second"] 1 2 ph_law_do_cross) (o_law_uncrossed : Own P w K mg base "_law_uncrossed" s_law_uncrossed ["cut", "second"] 2 2 ph_law_uncrossed) (hp : Pure ["web", "cut", "second", "due", "late", "told", "rooms", "one"] 3 ph_law_two_right ds_law_two_right) : Own P w K mg base "_law_two_right" s_law_two_right ["web", "cut", "second"] 9 3 ph_law_two_right := by
  obtain ⟨f, fd, F, hf⟩ := hm
  exact ⟨f, fd, F, okD F sc_law_two_right rfl (fun cdv A outer s H E hr => (pds_cons (pd_par (i := 3) (j := 4) rfl sc_law_two_right.nd (pda_cons (pd_call o_law_do_cross (hr.mono (by decide)) (fun _ _ _ _ _ _ us hl => match us, hl with | [_, _], _ => rfl) (pda_cons (pd_var 1) (pda_cons (pd_var 2) pda_nil))) (pda_cons (pd_call o_law_uncrossed (hr.mono (by decide)) (fun _ _ _ _ _ _ us hl => match us, hl with | [_, _], _ => rfl) (pda_cons (pd_var 1) (pda_cons (pd_var 2) pda_nil))) pda_nil)))
    (pds_cons (pd_set (i := 5) sc_law_two_right.nd (pd_lst (pda_cons (pd_call o_cuts_cross (hr.mono (by decide)) (fun _ _ _ _ _ _ us hl => match us, hl with | [_, _, _], _ => rfl) (pda_cons (pd_var 0) (pda_cons (pd_var 1) (pda_cons (pd_var 2) pda_nil)))) (pda_cons (pd_callK0 (ks := ["second", "cut", "web"]) [2, 1, 0] o_cuts_cross (hr.mono (by decide)) (by decide) (fun _ _ _ _ _ _ us ws h1 h2 => match us, ws, h1, h2 with | [], [_, _, _], _, _ => rfl) (pdk_cons (pd_var 2) (pdk_cons (pd_var 1) (pdk_cons (pd_var 0) pdk_nil)))) pda_nil))))
    (pds_cons (pd_if (pdt_cmp (op_neV hr.u64) lr_ne (pd_repr hr (pda_cons (pd_var 5) pda_nil) z_repr) (pd_repr hr (pda_cons (pd_lst (pda_cons (pd_var 3) (pda_cons (pd_var 3) pda_nil))) pda_nil) z_repr) (nomark _)) (pds_one (pd_ret pd_bl)) pds_nil)
    (pds_cons (pd_if (PDW.pdt (pdw_or (pdt_cmp (op_neV hr.u64) lr_ne (pd_call o_uncrossed (hr.mono (by decide)) (fun _ _ _ _ _ _ us hl => match us, hl with | [_, _, _], _ => rfl) (pda_cons (pd_var 0) (pda_cons (pd_var 1) (pda_cons (pd_var 2) pda_nil)))) (pd_var 4) (nomark _)) (pdw_or1 (pdt_cmp (op_neV hr.u64) lr_ne (pd_callK0 (ks := ["second", "cut", "web"]) [2, 1, 0] o_uncrossed (hr.mono (by decide)) (by decide) (fun _ _ _ _ _ _ us ws h1 h2 => match us, ws, h1, h2 with | [], [_, _, _], _, _ => rfl) (pdk_cons (pd_var 2) (pdk_cons (pd_var 1) (pdk_cons (pd_var 0) pdk_nil)))) (pd_var 4) (nomark _))))) (pds_one (pd_ret pd_bl)) pds_nil)
    (pds_cons (pd_setLcQ (j := 6) fin_frz [("one", 7)] rfl sc_law_two_right.nd (pdi_seq (pd_add (pd_tup (pda_cons (pd_var 1) (pda_cons (pd_var 2) pda_nil))) (pd_var 4))) (blkOk_by (N := ["web", "cut", "second", "due", "late", "told", "rooms", "one"]) (by show blkC _ (defScope s_law_two_right) _ _ = true; decide +kernel)) (ctg_name 7 (by decide) (fun _ _ _ _ _ => pg_name (i := 7) sc_law_two_right.nd rfl (Or.inl rfl))) ctst_nil (fun _ _ _ _ _ => (pd_call o_law_over (hr.mono (by decide)) (fun _ _ _ _ _ _ us hl => match us, hl with | [_, _], _ => rfl) (pda_cons (pd_ix (pd_var 0) pd_int) (pda_cons (pd_var 7) pda_nil)))) (sw_true rfl rfl rfl (by decide +kernel)))
    (pds_one (pd_ret (pd_cmp (op_leW hr.u128) lr_ordW (pd_add (pd_ix (pd_var 6) pd_int) (pd_ix (pd_var 6) pd_int)) (pd_add (pd_ix (pd_var 6) pd_int) (pd_ix (pd_var 6) pd_int)) (nomark _)))))))))) hp, hf⟩
theorem ow_law_right (hm : ∃ f fd, Fun K "_law_right" "_law_right" s_law_right f fd ∧ mg "_law_right" = some (.ref f)) (z_len : mg "len" = none) (z_range : mg "range" = none) (z_repr : mg "repr" = none) (z_set : mg "set" = none) (z_sorted : mg "sorted" = none) (z_tuple : mg "tuple" = none) (o_is_laminar : Own P w K mg base "is_laminar" s_is_laminar ["web", "cuts"] 8 2 ph_is_laminar) (o_made_laminar : Own P w K mg base "made_laminar" s_made_laminar ["web", "cuts"] 8 2 ph_made_laminar) (o_holders : Own P w K mg base "holders" s_holders ["web", "cuts"] 8 2 ph_holders) (o_law_draw : Own P w K mg base "_law_draw" s_law_draw ["pot", "size"] 1 2 WL.ph_law_draw) (o_law_pick : Own P w K mg base "_law_pick" s_law_pick ["pot", "some"] 2 2 ph_law_pick) (o_law_web : Own P w K mg base "_law_web" s_law_web ["pot", "many", "further", "room"] 2 4 WL.ph_law_web) (o_law_cuts : Own P w K mg base "_law_cuts" s_law_cuts ["many"] 1 1 WL.ph_law_cuts) (o_law_first : Own P w K mg base "_law_first" s_law_first ["cuts"] 2 1 ph_law_first) (o_law_laminar : Own P w K mg base "_law_laminar" s_law_laminar ["cuts"] 3 1 ph_law_laminar) (o_law_holder : Own P w K mg base "_law_holder" s_law_holder ["cuts", "cut"] 1 2 ph_law_holder) (o_law_two_right : Own P w K mg base "_law_two_right" s_law_two_right ["web", "cut", "second"] 9 3 ph_law_two_right) (o_law_is_refused : Own P w K mg base "_law_is_refused" s_law_is_refused ["web", "cuts"] 9 2 ph_law_is_refused) (hp : Pure ["pot", "many", "web", "cuts", "some", "turn", "shown", "due", "told", "place", "unlike", "rows", "cut"] 1 ph_law_right ds_law_right) : Own P w K mg base "_law_right" s_law_right ["pot"] 10 1 ph_law_right := by
  obtain ⟨f, fd, F, hf⟩ := hm
  exact ⟨f, fd, F, okD F sc_law_right rfl (fun cdv A outer s H E hr => (pds_cons (pd_set (i := 1) sc_law_right.nd (pd_add pd_int (pd_call o_law_draw (hr.mono (by decide)) (fun _ _ _ _ _ _ us hl => match us, hl with | [_, _], _ => rfl) (pda_cons (pd_var 0) (pda_cons pd_int pda_nil)))))
    (pds_cons (pd_set (i := 2) sc_law_right.nd (pd_call o_law_web (hr.mono (by decide)) (fun _ _ _ _ _ _ us hl => match us, hl with | [_, _, _, _], _ => rfl) (pda_cons (pd_var 0) (pda_cons (pd_var 1) (pda_cons pd_int (pda_cons pd_int pda_nil))))))
    (pds_cons (pd_par (i := 3) (j := 4) rfl sc_law_right.nd (pda_cons (pd_call o_law_cuts (hr.mono (by decide)) (fun _ _ _ _ _ _ us hl => match us, hl with | [_], _ => rfl) (pda_cons (pd_var 1) pda_nil)) (pda_cons (pd_lstC pda_nil) pda_nil)))
    (pds_cons (pd_for PassesOwn.never rfl (pdi_range1 (pda_cons (pd_add pd_int (pd_call o_law_draw (hr.mono (by decide)) (fun _ _ _ _ _ _ us hl => match us, hl with | [_, _], _ => rfl) (pda_cons (pd_var 0) (pda_cons pd_int pda_nil)))) pda_nil) z_range) (pdg_name (i := 5) sc_law_right.nd) (pds_one (pd_expr (pd_append (pd_var 4) (pd_call o_law_pick (hr.mono (by decide)) (fun _ _ _ _ _ _ us hl => match us, hl with | [_, _], _ => rfl) (pda_cons (pd_var 0) (pda_cons (pd_var 3) pda_nil)))))))
    (pds_cons (pd_for PassesOwn.never rfl (pdi_range1 (pda_cons pd_int pda_nil) z_range) (pdg_name (i := 5) sc_law_right.nd) (pds_one (pd_if (pdt_not (pdt_tru (pd_call o_law_two_right (hr.mono (by decide)) (fun _ _ _ _ _ _ us hl => match us, hl with | [_, _, _], _ => rfl) (pda_cons (pd_var 2) (pda_cons (pd_call o_law_pick (hr.mono (by decide)) (fun _ _ _ _ _ _ us hl => match us, hl with | [_, _], _ => rfl) (pda_cons (pd_var 0) (pda_cons (pd_var 3) pda_nil))) (pda_cons (pd_call o_law_pick (hr.mono (by decide)) (fun _ _ _ _ _ _ us hl => match us, hl with | [_, _], _ => rfl) (pda_cons (pd_var 0) (pda_cons (pd_var 4) pda_nil))) pda_nil)))))) (pds_one (pd_ret pd_bl)) pds_nil)))
    (pds_cons (pd_par (i := 6) (j := 7) rfl sc_law_right.nd (pda_cons (pd_repr hr (pda_cons (pd_var 4) pda_nil) z_repr) (pda_cons (pd_call o_law_laminar (hr.mono (by decide)) (fun _ _ _ _ _ _ us hl => match us, hl with | [_], _ => rfl) (pda_cons (pd_var 4) pda_nil)) pda_nil)))
    (pds_cons (pd_set (i := 8) sc_law_right.nd (pd_lstC (pda_cons (pd_call o_is_laminar (hr.mono (by decide)) (fun _ _ _ _ _ _ us hl => match us, hl with | [_, _], _ => rfl) (pda_cons (pd_var 2) (pda_cons (pd_var 4) pda_nil))) (pda_cons (pd_callK0 (ks := ["cuts", "web"]) [1, 0] o_is_laminar (hr.mono (by decide)) (by decide) (fun _ _ _ _ _ _ us ws h1 h2 => match us, ws, h1, h2 with | [], [_, _], _, _ => rfl) (pdk_cons (pd_tuple  (pda_cons (pd_var 4) pda_nil) z_tuple) (pdk_cons (pd_var 2) pdk_nil))) (pda_cons (pd_call o_is_laminar (hr.mono (by decide)) (fun _ _ _ _ _ _ us hl => match us, hl with | [_, _], _ => rfl) (pda_cons (pd_var 2) (pda_cons (pd_var 7) pda_nil))) pda_nil)))))
    (pds_cons (pd_if (pdt_cmp (op_neV hr.u64) lr_ne (pd_repr hr (pda_cons (pd_var 8) pda_nil) z_repr) (pd_repr hr (pda_cons (pd_add (pd_mulC (pd_lstC (pda_cons (pd_cmp op_isV lr_is (pd_call o_law_first (hr.mono (by decide)) (fun _ _ _ _ _ _ us hl => match us, hl with | [_], _ => rfl) (pda_cons (pd_var 4) pda_nil)) pd_non (nomark _)) pda_nil)) pd_int) (pd_lst (pda_cons pd_bl pda_nil))) pda_nil) z_repr) (nomark _)) (pds_one (pd_ret pd_bl)) pds_nil)
    (pds_cons (pd_set (i := 8) sc_law_right.nd (pd_call o_made_laminar (hr.mono (by decide)) (fun _ _ _ _ _ _ us hl => match us, hl with | [_, _], _ => rfl) (pda_cons (pd_var 2) (pda_cons (pd_var 4) pda_nil))))
    (pds_cons (pd_if (PDW.pdt (pdw_or (pdt_cmp (op_neV hr.u64) lr_ne (pd_var 8) (pd_var 7) (nomark _)) (pdw_or (pdt_cmp (op_neV hr.u64) lr_ne (pd_callK0 (ks := ["cuts", "web"]) [1, 0] o_made_laminar (hr.mono (by decide)) (by decide) (fun _ _ _ _ _ _ us ws h1 h2 => match us, ws, h1, h2 with | [], [_, _], _, _ => rfl) (pdk_cons (pd_tuple  (pda_cons (pd_var 4) pda_nil) z_tuple) (pdk_cons (pd_var 2) pdk_nil))) (pd_var 7) (nomark _)) (pdw_or1 (pdt_cmp (op_neV hr.u64) lr_ne (pd_repr hr (pda_cons (pd_var 4) pda_nil) z_repr) (pd_var 6) (nomark _)))))) (pds_one (pd_ret pd_bl)) pds_nil)
    (pds_cons (pd_for PassesOwn.never rfl (pdi_range1 (pda_cons (pd_var 1) pda_nil) z_range) (pdg_name (i := 9) sc_law_right.nd (hx := Or.inr rfl)) (pds_one (pd_if (pdt_cmp (op_neV hr.u64) lr_ne (pd_len  (pda_cons (pd_lcQ fin_frz [("cut", 12)] rfl sc_law_right.nd (pdi_seq (pd_var 8)) (blkOk_by (N := ["pot", "many", "web", "cuts", "some", "turn", "shown", "due", "told", "place", "unlike", "rows", "cut"]) (by show blkC _ (defScope s_law_right) _ _ = true; decide +kernel)) (ctg_name 12 (by decide) (fun _ _ _ _ _ => pg_name (i := 12) sc_law_right.nd rfl (Or.inl rfl))) (ctst_one (fun _ _ _ _ _ => (pdt_cmp (op_inAll hr.u128) lr_in (pd_var 9) (pd_var 12) rfl))) (fun _ _ _ _ _ => pd_int)) pda_nil) z_len) (pd_len  (pda_cons (pd_lcQ fin_frz [("cut", 12)] rfl sc_law_right.nd (pdi_seq (pd_var 4)) (blkOk_by (N := ["pot", "many", "web", "cuts", "some", "turn", "shown", "due", "told", "place", "unlike", "rows", "cut"]) (by show blkC _ (defScope s_law_right) _ _ = true; decide +kernel)) (ctg_name 12 (by decide) (fun _ _ _ _ _ => pg_name (i := 12) sc_law_right.nd rfl (Or.inl rfl))) (ctst_one (fun _ _ _ _ _ => (pdt_cmp (op_inAll hr.u128) lr_in (pd_var 9) (pd_var 12) rfl))) (fun _ _ _ _ _ => pd_int)) pda_nil) z_len) (nomark _)) (pds_one (pd_ret pd_bl)) pds_nil)))
    (pds_cons (pd_expr (pd_append (pd_var 8) pd_non))
    (pds_cons (pd_if (PDW.pdt (pdw_or (pdt_cmp (op_neV hr.u64) lr_ne (pd_repr hr (pda_cons (pd_var 4) pda_nil) z_repr) (pd_var 6) (nomark _)) (pdw_or1 (pdt_cmp (op_neV hr.u64) lr_ne (pd_call o_made_laminar (hr.mono (by decide)) (fun _ _ _ _ _ _ us hl => match us, hl with | [_, _], _ => rfl) (pda_cons (pd_var 2) (pda_cons (pd_var 4) pda_nil))) (pd_var 7) (nomark _))))) (pds_one (pd_ret pd_bl)) pds_nil)
    (pds_cons (pd_if (pdt_cmp (op_neV hr.u64) lr_ne (pd_lst (pda_cons (pd_call o_is_laminar (hr.mono (by decide)) (fun _ _ _ _ _ _ us hl => match us, hl with | [_, _], _ => rfl) (pda_cons (pd_var 2) (pda_cons (pd_lst pda_nil) pda_nil))) (pda_cons (pd_call o_made_laminar (hr.mono (by decide)) (fun _ _ _ _ _ _ us hl => match us, hl with | [_, _], _ => rfl) (pda_cons (pd_var 2) (pda_cons (pd_tup pda_nil) pda_nil))) (pda_cons (pd_call o_holders (hr.mono (by decide)) (fun _ _ _ _ _ _ us hl => match us, hl with | [_, _], _ => rfl) (pda_cons (pd_var 2) (pda_cons (pd_lst pda_nil) pda_nil))) pda_nil)))) (pd_lst (pda_cons pd_bl (pda_cons (pd_lst pda_nil) (pda_cons (pd_lst pda_nil) pda_nil)))) (nomark _)) (pds_one (pd_ret pd_bl)) pds_nil)
    (pds_cons (pd_set (i := 10) sc_law_right.nd (WL.pd_upSetR hr rfl (pd_var 7) z_sorted z_set) (hx := Or.inr rfl))
    (pds_cons (pd_setLcQ (j := 11) fin_frz [("cut", 12)] rfl sc_law_right.nd (pdi_seq (pd_var 10)) (blkOk_by (N := ["pot", "many", "web", "cuts", "some", "turn", "shown", "due", "told", "place", "unlike", "rows", "cut"]) (by show blkC _ (defScope s_law_right) _ _ = true; decide +kernel)) (ctg_name 12 (by decide) (fun _ _ _ _ _ => pg_name (i := 12) sc_law_right.nd rfl (Or.inl rfl))) ctst_nil (fun _ _ _ _ _ => (pd_call o_law_holder (hr.mono (by decide)) (fun _ _ _ _ _ _ us hl => match us, hl with | [_, _], _ => rfl) (pda_cons (pd_var 10) (pda_cons (pd_var 12) pda_nil)))) (sw_true rfl rfl rfl (by decide +kernel)))
    (pds_cons (pd_if (PDW.pdt (pdw_or (pdt_cmp (op_neV hr.u64) lr_ne (pd_call o_holders (hr.mono (by decide)) (fun _ _ _ _ _ _ us hl => match us, hl with | [_, _], _ => rfl) (pda_cons (pd_var 2) (pda_cons (pd_var 10) pda_nil))) (pd_var 11) (nomark _)) (pdw_or1 (pdt_cmp (op_neV hr.u64) lr_ne (pd_callK0 (ks := ["cuts", "web"]) [1, 0] o_holders (hr.mono (by decide)) (by decide) (fun _ _ _ _ _ _ us ws h1 h2 => match us, ws, h1, h2 with | [], [_, _], _, _ => rfl) (pdk_cons (pd_tuple  (pda_cons (pd_var 10) pda_nil) z_tuple) (pdk_cons (pd_var 2) pdk_nil))) (pd_var 11) (nomark _))))) (pds_one (pd_ret pd_bl)) pds_nil)
    (pds_cons (pd_if (PDW.pdt (pdw_and (pdt_cmp (op_gtW hr.u128) lr_ordW (pd_len  (pda_cons (pd_var 10) pda_nil) z_len) pd_int (nomark _)) (pdw_and1 (pdt_not (pdt_tru (pd_call o_law_is_refused (hr.mono (by decide)) (fun _ _ _ _ _ _ us hl => match us, hl with | [_, _], _ => rfl) (pda_cons (pd_var 2) (pda_cons (pd_revL (pd_var 10)) pda_nil)))))))) (pds_one (pd_ret pd_bl)) pds_nil)
    (pds_one (pd_ret (pd_or (pd_cmp op_isV lr_is (pd_call o_law_first (hr.mono (by decide)) (fun _ _ _ _ _ _ us hl => match us, hl with | [_], _ => rfl) (pda_cons (pd_var 4) pda_nil)) pd_non (nomark _)) (pd_one (pd_call o_law_is_refused (hr.mono (by decide)) (fun _ _ _ _ _ _ us hl => match us, hl with | [_, _], _ => rfl) (pda_cons (pd_var 2) (pda_cons (WL.pd_upSetR hr rfl (pd_var 4) z_sorted z_set) pda_nil)))))))))))))))))))))))))) hp, hf⟩
theorem fn_law {f : Addr} {fd : FuncData} (F : Fun K "law" "law" s_law f fd)  (o_law_pot : Own P w K mg base "_law_pot" s_law_pot ["script", "k"] 1 2 WL.ph_law_pot) (o_law_right : Own P w K mg base "_law_right" s_law_right ["pot"] 10 1 ph_law_right) (hp : Pure ["script"] 1 ph_law ds_law) : FnG P w K mg base CX0 11 f fd ["script"] (SpD K 1 ph_law) :=
  okD F sc_law rfl (fun cdv A outer s H E hr => (pds_one (pd_ret (pd_call o_law_right (hr.mono (by decide)) (fun _ _ _ _ _ _ us hl => match us, hl with | [_], _ => rfl) (pda_cons (pd_call o_law_pot (hr.mono (by decide)) (fun _ _ _ _ _ _ us hl => match us, hl with | [_, _], _ => rfl) (pda_cons (pd_var 0) (pda_cons pd_int pda_nil))) pda_nil))))) hp
end
end K24
namespace K24
open PySem PySem.Spec PyProof.Rows L2 Evl DL
open WL
section
variable {μ ν : Mu} {Q : DQ} {n : Int} {ts : List T3} {c s : List Int} {cs : List (List Int)} {sl : Sl} {ds : List PyData}
theorem sq_row (c : List Int) : Sq μ (.dat (rowI c)) (c.map PyData.int) := ⟨rfl, .inr rfl⟩
theorem Sq.more (h : Sq μ sl ds) : Sq (μ ++ ν) sl ds := ⟨h.1, h.2.imp rd_more rd_more⟩
theorem rr_inj {a b d e : List Int} (h : [Sl.dat (rowI a), .dat (rowI b)] = [.dat (rowI d), .dat (rowI e)]) : a = d ∧ b = e := by
  obtain ⟨e1, e2⟩ := dr_inj h
  exact ⟨rowI_inj e1, rowI_inj (dr_inj e2).1⟩
theorem any_map {p : Int → Bool} : (c.map p).any id = c.any p := by rw [List.any_map]; rfl
theorem pu_is_listed : Pure ["value"] 1 ph_is_listed ds_is_listed := by
  intro ss μ Q' hl h
  obtain ⟨s, ds, rfl, ⟨h1, h2⟩, h⟩ := h
  simp only [ds_is_listed, e_dRet, e_dUn, e_dVar, startD, List.map_cons, List.map_nil, List.length_cons, List.length_nil, List.replicate, List.cons_append, List.nil_append, List.append_nil, List.getElem?_cons_zero]
  show (match rd μ s with | some d => finQ μ.length Q' (.dat (.bool (isTy .lst d || isTy .tup d))) μ | none => False)
  rcases h2 with e | e <;> rw [e]
  · show finQ μ.length Q' (.dat (.bool true)) μ
    rw [e_finD, List.take_length]
    exact h
  · show finQ μ.length Q' (.dat (.bool true)) μ
    rw [e_finD, List.take_length]
    exact h
theorem pu_has_more : Pure ["cut", "second", "place"] 2 ph_has_more ds_has_more := by
  intro ss μ Q' hl h
  obtain ⟨c, s, rfl, ⟨hc, hs⟩, h⟩ := h
  have L := fun Q => lc_seqM (g := gN 2) (e := dOp (wIn not) (dVar 2) (dVar 1)) (vs := [2]) (μ := μ) (Q := Q) (i := 0) (s := .dat (rowI c)) (ρ := [some (.dat (rowI c)), some (.dat (rowI s)), none]) (xs := c) PyData.int (fun x => .bool (!decide (x ∈ s))) rfl (sq_row c) (by omega) (fun x hx acc R => by
    simp [wipeD])
  have e1 : c.map (fun x => PyData.bool (!decide (x ∈ s))) = (c.map fun x => !decide (x ∈ s)).map PyData.bool := by rw [List.map_map]; rfl
  rw [e1] at L
  simp only [ds_has_more, e_dRet, e_dCB, e_aCons, e_aNil, startD, List.map_cons, List.map_nil, List.length_cons, List.length_nil, List.replicate, List.cons_append, List.nil_append]
  refine (L _).mpr ?_
  rw [o_any, any_map, e_finD, List.take_length]
  exact h
theorem c_has_more : ph_has_more [.dat (rowI c), .dat (rowI s)] μ Q = (Small2 c s ∧ Q (.dat (.bool (c.any fun x => !decide (x ∈ s)))) μ) := propext ⟨fun ⟨_, _, e, h⟩ => by obtain ⟨rfl, rfl⟩ := rr_inj e; exact h, fun h => ⟨_, _, rfl, h⟩⟩
theorem common_e {ρ : Rho} {i j k : Nat} (h0 : ρ[i]? = some (some (.dat (rowI c)))) (hc : c.length ≤ 100) (hs : ∀ (x : Int) (acc : List PyData) (R : Mu → Prop), (gN k (.dat (.int x)) (wipeD ρ [k]) (μ ++ [Cell.lst acc]) fun ρ1 μ1 => dTest (dOp (wIn id) (dVar k) (dVar j)) ρ1 μ1 fun b μ2 => if b = true then dVar k ρ1 μ2 fun v μ3 => addTo μ.length v μ3 R else R μ2) = if decide (x ∈ s) = true then addTo μ.length (.dat (.int x)) (μ ++ [Cell.lst acc]) R else R (μ ++ [Cell.lst acc])) :
    dLc (iSeq (dVar i)) (gN k) (dTest (dOp (wIn id) (dVar k) (dVar j))) (dVar k) [k] ρ μ Q = Q (.dat (.list ((interL c s).map PyData.int))) μ :=
  lc_seq (xs := c) PyData.int (fun x => decide (x ∈ s)) PyData.int h0 (sq_row c) (by omega) fun x _ acc R => hs x acc R
theorem pu_do_cross : Pure ["cut", "second", "common", "place"] 2 ph_do_cross ds_do_cross := by
  intro ss μ Q' hl h
  obtain ⟨c, s, rfl, ⟨hc, hs⟩, h⟩ := h
  simp only [ds_do_cross, e_dSeq, e_dAsg, startD, List.map_cons, List.map_nil, List.length_cons, List.length_nil, List.replicate, List.cons_append, List.nil_append]
  rw [common_e (c := c) (s := s) rfl hc (fun x acc R => by simp [wipeD])]
  simp only [List.set_cons_succ, List.set_cons_zero]
  have hm1 : ∀ (ν : Mu) (Q : DQ), ph_has_more [.dat (rowI c), .dat (rowI s)] ν Q = Q (.dat (.bool (c.any fun x => !decide (x ∈ s)))) ν := fun ν Q => by rw [c_has_more]; exact propext ⟨fun z => z.2, fun z => ⟨⟨hc, hs⟩, z⟩⟩
  have hm2 : ∀ (ν : Mu) (Q : DQ), ph_has_more [.dat (rowI s), .dat (rowI c)] ν Q = Q (.dat (.bool (s.any fun x => !decide (x ∈ c)))) ν := fun ν Q => by rw [c_has_more]; exact propext ⟨fun z => z.2, fun z => ⟨⟨hs, hc⟩, z⟩⟩
  have ne : ∀ (ν : Mu) (Q : DQ), DL.rNe (.dat (.list ((interL c s).map PyData.int))) (.dat (.list [])) ν Q = Q (.dat (.bool (c.any fun x => decide (x ∈ s)))) ν := fun ν Q => by
    rw [ne_nilD (sh_ints (c := interL c s)) (by decide), ← inter_ne]
    cases interL c s <;> rfl
  unfold crossB at h
  rw [e_dRet, e_dAndV, e_dOp, e_dVar]
  simp only [List.getElem?_cons_zero, List.getElem?_cons_succ]
  rw [e_dLst, e_aNil]
  simp only [e_datsNil]
  refine ⟨Nat.zero_le _, ?_⟩
  show DL.rNe _ (.dat (.list [])) _ _
  rw [ne]
  try dsimp only
  cases c1 : c.any fun x => decide (x ∈ s) with
  | false =>
    rw [c1] at h
    rw [if_neg (by decide), e_finD, List.take_length]
    simpa using h
  | true =>
    rw [c1] at h
    rw [if_pos rfl, e_dAndV, e_dCall, e_aCons, e_dVar]
    simp only [List.getElem?_cons_zero, List.getElem?_cons_succ]
    rw [e_aCons, e_dVar]
    simp only [List.getElem?_cons_zero, List.getElem?_cons_succ]
    rw [e_aNil]
    refine ⟨rfl, ?_⟩
    rw [hm1]
    try dsimp only
    cases c2 : c.any fun x => !decide (x ∈ s) with
    | false =>
      rw [c2] at h
      rw [if_neg (by decide), e_finD, List.take_length]
      simpa using h
    | true =>
      rw [c2] at h
      rw [if_pos rfl, e_dCall, e_aCons, e_dVar]
      simp only [List.getElem?_cons_zero, List.getElem?_cons_succ]
      rw [e_aCons, e_dVar]
      simp only [List.getElem?_cons_zero, List.getElem?_cons_succ]
      rw [e_aNil]
      refine ⟨rfl, ?_⟩
      rw [hm2, e_finD, List.take_length]
      simpa using h
theorem c_do_cross : ph_do_cross [.dat (rowI c), .dat (rowI s)] μ Q = (Small2 c s ∧ Q (.dat (.bool (crossB c s))) μ) := propext ⟨fun ⟨_, _, e, h⟩ => by obtain ⟨rfl, rfl⟩ := rr_inj e; exact h, fun h => ⟨_, _, rfl, h⟩⟩
theorem add_ints {xs ys : List Int} (h : xs.length + ys.length ≤ 1000) : DL.rAdd (.dat (.list (xs.map PyData.int))) (.dat (.list (ys.map PyData.int))) ν Q = Q (.dat (.list ((xs ++ ys).map PyData.int))) ν := by
  rw [List.map_append]
  show (_ ∧ Q (.dat (.list (xs.map PyData.int ++ ys.map PyData.int))) ν) = _
  exact propext ⟨fun z => z.2, fun z => ⟨sz (by simp; omega), z⟩⟩
theorem tup_ints {xs : List Int} : fTuple [.dat (.list (xs.map PyData.int))] ν Q = Q (.dat (rowI xs)) ν := by simp [rowI]
theorem list_row {xs : List Int} : fList [.dat (rowI xs)] ν Q = Q (.dat (.list (xs.map PyData.int))) ν := by unfold rowI fList; simp [arg1]
theorem pu_become : Pure ["cut", "second", "common", "together", "place"] 2 ph_become ds_become := by
  intro ss μ Q' hl h
  obtain ⟨c, s, rfl, ⟨hc, hs⟩, h⟩ := h
  simp only [ds_become, e_dSeq, e_dAsg, startD, List.map_cons, List.map_nil, List.length_cons, List.length_nil, List.replicate, List.cons_append, List.nil_append]
  rw [common_e (c := c) (s := s) rfl hc (fun x acc R => by simp [wipeD])]
  simp only [List.set_cons_succ, List.set_cons_zero]
  have L := fun (ν : Mu) Q => lc_seq (g := gN 4) (t := dTest (dOp (wIn not) (dVar 4) (dVar 0))) (e := dVar 4) (vs := [4]) (μ := ν) (Q := Q) (i := 1) (s := .dat (rowI s)) (ρ := [some (.dat (rowI c)), some (.dat (rowI s)), some (.dat (.list ((interL c s).map PyData.int))), none, none]) (xs := s) PyData.int (fun x => !decide (x ∈ c)) PyData.int rfl (sq_row s) (by omega) (fun x hx acc R => by
    simp [wipeD])
  have l1 := List.length_filter_le (fun x => !decide (x ∈ c)) s
  rw [e_dOp, e_dCB, e_aCons, e_dVar]
  simp only [List.getElem?_cons_zero, List.getElem?_cons_succ]
  rw [e_aNil, list_row, L, add_ints (by omega)]
  try simp only [List.set_cons_succ, List.set_cons_zero]
  rw [e_dRet, e_dTup, e_aCons, e_dCB, e_aCons, e_dVar]
  simp only [List.getElem?_cons_zero, List.getElem?_cons_succ]
  rw [e_aNil, tup_ints, e_aCons, e_dCB, e_aCons, e_dCB, e_aCons, e_dVar]
  simp only [List.getElem?_cons_zero, List.getElem?_cons_succ]
  rw [e_aNil, o_sortI (by rw [List.length_append]; omega), e_aNil, tup_ints, e_aNil]
  show 2 ≤ sizeLine ∧ finQ μ.length Q' (.dat (twoD (interL c s) (unionL c s))) μ
  refine ⟨sz (by simp), ?_⟩
  rw [e_finD, List.take_length]
  exact h
theorem c_become : ph_become [.dat (rowI c), .dat (rowI s)] μ Q = (Small2 c s ∧ Q (.dat (twoD (interL c s) (unionL c s))) μ) := propext ⟨fun ⟨_, _, e, h⟩ => by obtain ⟨rfl, rfl⟩ := rr_inj e; exact h, fun h => ⟨_, _, rfl, h⟩⟩
theorem u_check_cut (h1 : Cut n c) (h2 : c.length ≤ 100) (h : Q (.dat .none) μ) : WL.ph_check_cut [.dat (webD n ts), .dat (rowI c)] μ Q := ⟨n, ts, c, rfl, ⟨h1, h2⟩, h⟩
theorem pu_check_two_cuts : Pure ["web", "cut", "second"] 3 ph_check_two_cuts ds_check_two_cuts := by
  intro ss μ Q' hl h
  obtain ⟨n, ts, c, s, rfl, ⟨hw, h1, h2, hc, hs⟩, h⟩ := h
  simp only [ds_check_two_cuts, startD, List.map_cons, List.map_nil, List.length_cons, List.length_nil, List.replicate, List.cons_append, List.nil_append, List.append_nil]
  rw [e_dSeq, e_dDrop, e_dCall, e_aCons, e_dVar]
  simp only [List.getElem?_cons_zero, List.getElem?_cons_succ]
  rw [e_aNil]
  refine ⟨rfl, n, ts, rfl, hw, ?_⟩
  try dsimp only
  rw [e_dSeq, e_dDrop, e_dCall, e_aCons, e_dVar]
  simp only [List.getElem?_cons_zero, List.getElem?_cons_succ]
  rw [e_aCons, e_dVar]
  simp only [List.getElem?_cons_zero, List.getElem?_cons_succ]
  rw [e_aNil]
  refine ⟨rfl, u_check_cut h1 hc ?_⟩
  try dsimp only
  rw [e_dDrop, e_dCall, e_aCons, e_dVar]
  simp only [List.getElem?_cons_zero, List.getElem?_cons_succ]
  rw [e_aCons, e_dVar]
  simp only [List.getElem?_cons_zero, List.getElem?_cons_succ]
  rw [e_aNil]
  refine ⟨rfl, u_check_cut h2 hs ?_⟩
  show finQ μ.length Q' (.dat .none) μ
  rw [e_finD, List.take_length]
  exact h
theorem u_two (hw : WebOk n ts) (h1 : Cut n c) (h2 : Cut n s) (h3 : Small2 c s) (h : Q (.dat .none) μ) : ph_check_two_cuts [.dat (webD n ts), .dat (rowI c), .dat (rowI s)] μ Q := ⟨n, ts, c, s, rfl, ⟨hw, h1, h2, h3⟩, h⟩
theorem pu_cuts_cross : Pure ["web", "cut", "second"] 3 ph_cuts_cross ds_cuts_cross := by
  intro ss μ Q' hl h
  obtain ⟨n, ts, c, s, rfl, ⟨hw, h1, h2, h3⟩, h⟩ := h
  simp only [ds_cuts_cross, startD, List.map_cons, List.map_nil, List.length_cons, List.length_nil, List.replicate, List.cons_append, List.nil_append, List.append_nil]
  rw [e_dSeq, e_dDrop, e_dCall, e_aCons, e_dVar]
  simp only [List.getElem?_cons_zero, List.getElem?_cons_succ]
  rw [e_aCons, e_dVar]
  simp only [List.getElem?_cons_zero, List.getElem?_cons_succ]
  rw [e_aCons, e_dVar]
  simp only [List.getElem?_cons_zero, List.getElem?_cons_succ]
  rw [e_aNil]
  refine ⟨rfl, u_two hw h1 h2 h3 ?_⟩
  try dsimp only
  rw [e_dRet, e_dCall, e_aCons, e_dVar]
  simp only [List.getElem?_cons_zero, List.getElem?_cons_succ]
  rw [e_aCons, e_dVar]
  simp only [List.getElem?_cons_zero, List.getElem?_cons_succ]
  rw [e_aNil]
  refine ⟨rfl, ?_⟩
  rw [c_do_cross, e_finD, List.take_length]
  exact ⟨h3, h⟩
theorem pu_uncrossed : Pure ["web", "cut", "second"] 3 ph_uncrossed ds_uncrossed := by
  intro ss μ Q' hl h
  obtain ⟨n, ts, c, s, rfl, ⟨hw, h1, h2, h3⟩, h⟩ := h
  simp only [ds_uncrossed, startD, List.map_cons, List.map_nil, List.length_cons, List.length_nil, List.replicate, List.cons_append, List.nil_append, List.append_nil]
  rw [e_dSeq, e_dDrop, e_dCall, e_aCons, e_dVar]
  simp only [List.getElem?_cons_zero, List.getElem?_cons_succ]
  rw [e_aCons, e_dVar]
  simp only [List.getElem?_cons_zero, List.getElem?_cons_succ]
  rw [e_aCons, e_dVar]
  simp only [List.getElem?_cons_zero, List.getElem?_cons_succ]
  rw [e_aNil]
  refine ⟨rfl, u_two hw h1 h2 h3 ?_⟩
  try dsimp only
  rw [e_dRet, e_dIf, e_dTru, e_dCall, e_aCons, e_dVar]
  simp only [List.getElem?_cons_zero, List.getElem?_cons_succ]
  rw [e_aCons, e_dVar]
  simp only [List.getElem?_cons_zero, List.getElem?_cons_succ]
  rw [e_aNil]
  refine ⟨rfl, ?_⟩
  rw [c_do_cross]
  refine ⟨h3, ?_⟩
  simp only [e_rdD]
  refine ⟨trivial, ?_⟩
  unfold uncD at h
  show if crossB c s = true then _ else _
  cases e : crossB c s with
  | true =>
    rw [e, if_pos rfl] at h
    rw [if_pos rfl, e_dCall, e_aCons, e_dVar]
    simp only [List.getElem?_cons_zero, List.getElem?_cons_succ]
    rw [e_aCons, e_dVar]
    simp only [List.getElem?_cons_zero, List.getElem?_cons_succ]
    rw [e_aNil]
    refine ⟨rfl, ?_⟩
    rw [c_become, e_finD, List.take_length]
    exact ⟨h3, h⟩
  | false =>
    rw [e, if_neg (by decide)] at h
    rw [if_neg (by decide), e_dTup, e_aCons, e_dVar]
    simp only [List.getElem?_cons_zero, List.getElem?_cons_succ]
    rw [e_aCons, e_dVar]
    simp only [List.getElem?_cons_zero, List.getElem?_cons_succ]
    rw [e_aNil]
    show 2 ≤ sizeLine ∧ finQ μ.length Q' (.dat (twoD c s)) μ
    refine ⟨sz (by simp), ?_⟩
    rw [e_finD, List.take_length]
    exact h
end
end K24
namespace K24
open PySem PySem.Spec PyProof.Rows L2 Evl DL
open WL
section
variable {μ ν : Mu} {Q : DQ} {n : Int} {ts : List T3} {c s : List Int} {cs : List (List Int)} {sl : Sl} {ds : List PyData} {D : DEnds}
theorem sq_len (h : Sq ν sl ds) : fLen [sl] ν Q = Q (.dat (.int ds.length)) ν := by
  unfold fLen arg1
  rcases h.2 with e | e <;> simp only [e]
theorem sq_ix {j : Nat} {d : PyData} (h : Sq ν sl ds) (e : ds[j]? = some d) : DL.rIx sl (.dat (.int (j : Nat))) ν Q = Q (.dat d) ν := by
  have ea : atI ds (j : Int) = some d := atI_nat e
  have el : elt sl d = .dat d := by unfold elt; rw [h.1]; rfl
  unfold DL.rIx
  rcases h.2 with g | g <;> simp only [g, e_rdD, ea, Option.some.injEq, exists_eq_left', el]
theorem sq_row_ix {j : Nat} (h : Sq ν sl (cs.map rowI)) (hj : j < cs.length) : DL.rIx sl (.dat (.int (j : Nat))) ν Q = Q (.dat (rowI (cs.getD j []))) ν :=
  sq_ix h (by rw [List.getElem?_map, List.getD_eq_getElem?_getD, List.getElem?_eq_getElem hj]; rfl)
theorem sq_en {i : Nat} {ρ : Rho} (h0 : ρ[i]? = some (some sl)) (h : Sq μ sl ds) : ∃ C : Mu → Prop, C μ ∧ (∀ ν, C (μ ++ ν)) ∧ ∀ R, iEn (aCons (dVar i) aNil) ρ μ R = R (enS false ds) C μ := by
  rcases h.2 with e | e
  · refine ⟨fun ν => rd ν sl = some (.list ds), e, fun ν => rd_more e, fun R => ?_⟩
    unfold iEn
    simp only [e_aCons, e_aNil, e_dVar, h0, e, h.1]
  · refine ⟨fun _ => True, trivial, fun _ => trivial, fun R => ?_⟩
    unfold iEn
    simp only [e_aCons, e_aNil, e_dVar, h0, e, h.1]
theorem en_rows (cs : List (List Int)) : enS false (cs.map rowI) = (cs.zipIdx.map fun p => PyData.tuple [.int (p.2 : Nat), rowI p.1]).map .dat := by
  unfold enS
  rw [List.zipIdx_map, List.map_map, List.map_map]
  rfl
theorem rg_nats (a m : Nat) : rgI (a : Int) m = (List.range' a m).map fun (j : Nat) => Sl.dat (.int (j : Nat)) := by
  unfold rgI
  rw [List.range'_eq_map_range, List.map_map]
  refine List.map_congr_left fun k _ => ?_
  simp
theorem c_is_listed (h : Sq μ sl ds) : ph_is_listed [sl] μ Q = Q (.dat (.bool true)) μ := propext ⟨fun ⟨_, _, _, _, h⟩ => h, fun g => ⟨sl, ds, rfl, h, g⟩⟩
theorem pu_check_cuts : Pure ["web", "cuts", "cut"] 2 ph_check_cuts ds_check_cuts := by
  intro ss μ Q' hl h
  obtain ⟨n, ts, s, cs, rfl, ⟨hw, hc⟩, hs, h⟩ := h
  have few := hc.few
  have hi := hw.hi
  simp only [ds_check_cuts, startD, List.map_cons, List.map_nil, List.length_cons, List.length_nil, List.replicate, List.cons_append, List.nil_append, List.append_nil]
  rw [e_dSeq, e_dDrop, e_dCall, e_aCons, e_dVar]
  simp only [List.getElem?_cons_zero, List.getElem?_cons_succ]
  rw [e_aNil]
  refine ⟨rfl, n, ts, rfl, hw, ?_⟩
  try dsimp only
  rw [e_dIfS, e_dOr, e_dNot]
  simp only [e_dTru, e_dCall, e_aCons, e_aNil, e_dVar, List.getElem?_cons_zero, List.getElem?_cons_succ]
  refine ⟨rfl, ?_⟩
  rw [c_is_listed hs]
  refine ⟨trivial, ?_⟩
  show if (!true) = true then _ else _
  rw [if_neg (by decide), e_dOr, e_dTest, e_dOp, e_dCB, e_aCons, e_dVar]
  simp only [List.getElem?_cons_zero, List.getElem?_cons_succ]
  rw [e_aNil, sq_len hs, e_dC]
  have gt : ∀ (i j : Int) (ν : Mu) (Q : DQ), wGt (.dat (.int i)) (.dat (.int j)) ν Q = Q (.dat (.bool (decide (j < i)))) ν := fun i j ν Q => rfl
  rw [gt, decide_eq_false (by rw [List.length_map]; omega)]
  dsimp only
  rw [if_neg (by decide), e_dNot]
  have L := fun Q => lc_seqM (g := gN 2) (e := dCall 2 WL.ph_is_cut (aCons (dVar 0) (aCons (dVar 2) aNil))) (vs := [2]) (μ := μ) (Q := Q) (i := 1) (s := s) (ρ := [some (.dat (webD n ts)), some s, none]) (xs := cs) rowI (fun c => .bool true) rfl hs (by omega) (fun c hx acc R => by
    have cc := hc.all c hx
    have ln := cut_len cc hi
    have ic : ∀ (ν : Mu) (Q : DQ), WL.ph_is_cut [.dat (webD n ts), .dat (rowI c)] ν Q = Q (.dat (.bool true)) ν := fun ν Q => propext ⟨fun ⟨_, _, _, e, _, h⟩ => by
      obtain ⟨e1, e2⟩ := dr_inj e
      obtain ⟨rfl, rfl⟩ := webD_inj e1
      rw [← (dr_inj e2).1, cutB_row cc] at h
      exact h, fun h => ⟨n, ts, rowI c, rfl, short_row (by omega), by rw [cutB_row cc]; exact h⟩⟩
    simp [wipeD, ic])
  have e1 : cs.map (fun _ => PyData.bool true) = (cs.map fun _ => true).map PyData.bool := by rw [List.map_map]; rfl
  rw [e1] at L
  simp only [e_dTru, e_dCB, e_aCons, e_aNil]
  refine (L _).mpr ?_
  rw [DL.o_all]
  have e2 : (cs.map fun _ => true).all id = true := by simp
  rw [e2]
  refine ⟨trivial, ?_⟩
  show if (!true) = true then _ else _
  rw [if_neg (by decide), e_dNext]
  show finQ μ.length Q' (.dat .none) μ
  rw [e_finD, List.take_length]
  exact h
theorem u_check_cuts (hw : WebOk n ts) (hc : CutsOk n cs) (hs : Sq μ sl (cs.map rowI)) (h : Q (.dat .none) μ) : ph_check_cuts [.dat (webD n ts), sl] μ Q := ⟨n, ts, sl, cs, rfl, ⟨hw, hc⟩, hs, h⟩
theorem in_loop (hs : Sq μ sl (cs.map rowI)) (hf : FewL cs) (hc : c.length ≤ 100) {i : Nat} : ∀ (js : List Nat) (v3 : Option Sl), (∀ j ∈ js, j < cs.length) → (match findJ cs c js with
      | some j => D.rt (.dat (optD (some (i, j)))) μ
      | none => ∀ v3, D.nx [some sl, some (.dat (.int (i : Nat))), some (.dat (rowI c)), v3] μ) →
    forD (fun _ => True) (gN 3) (dIfS (dTru (dCall 2 ph_do_cross (aCons (dVar 2) (aCons (dOp DL.rIx (dVar 0) (dVar 3)) aNil)))) (dRet (dTup (aCons (dVar 1) (aCons (dVar 3) aNil)))) dNext) D (js.map fun (j : Nat) => Sl.dat (.int (j : Nat))) [some sl, some (.dat (.int (i : Nat))), some (.dat (rowI c)), v3] μ
  | [], v3, _, h => ⟨trivial, h v3⟩
  | j :: js, v3, hj, h => by
    have jl := hj j (List.mem_cons_self ..)
    rw [List.map_cons]
    refine ⟨trivial, ?_⟩
    simp only [e_gN, List.set_cons_succ, List.set_cons_zero]
    rw [e_dIfS, e_dTru, e_dCall, e_aCons, e_dVar]
    simp only [List.getElem?_cons_zero, List.getElem?_cons_succ]
    rw [e_aCons, e_dOp, e_dVar]
    simp only [List.getElem?_cons_zero, List.getElem?_cons_succ]
    rw [e_dVar]
    simp only [List.getElem?_cons_zero, List.getElem?_cons_succ]
    rw [sq_row_ix hs jl, e_aNil]
    refine ⟨rfl, ?_⟩
    rw [c_do_cross]
    refine ⟨⟨hc, hf.2 _ (getD_mem jl)⟩, ?_⟩
    refine ⟨trivial, ?_⟩
    show if crossB c (cs.getD j []) = true then _ else _
    unfold findJ at h
    rw [List.find?_cons] at h
    cases e : crossB c (cs.getD j []) with
    | true =>
      rw [e] at h
      rw [if_pos rfl, e_dRet, e_dTup, e_aCons, e_dVar]
      simp only [List.getElem?_cons_zero, List.getElem?_cons_succ]
      rw [e_aCons, e_dVar]
      simp only [List.getElem?_cons_zero, List.getElem?_cons_succ]
      rw [e_aNil]
      exact ⟨sz (by simp), h⟩
    | false =>
      rw [e] at h
      rw [if_neg (by decide), e_dNext]
      exact in_loop hs hf hc js _ (fun k hk => hj k (List.mem_cons_of_mem _ hk)) h
theorem drop_cons {α : Type} {l r : List α} {x : α} {i : Nat} (h : l.drop i = x :: r) : l[i]? = some x ∧ l.drop (i + 1) = r ∧ i < l.length := by
  have hl : i < l.length := by
    refine Classical.byContradiction fun z => ?_
    rw [List.drop_eq_nil_of_le (by omega)] at h
    cases h
  rw [List.drop_eq_getElem_cons hl] at h
  exact ⟨by rw [List.getElem?_eq_getElem hl, (List.cons.inj h).1], (List.cons.inj h).2, hl⟩
theorem out_loop {C : Mu → Prop} (hC : C μ) (hs : Sq μ sl (cs.map rowI)) (hf : FewL cs) : ∀ (l : List (List Int)) (i : Nat) (v1 v2 v3 : Option Sl), cs.drop i = l → (match findI cs (List.range' i l.length) with
      | some p => D.rt (.dat (optD (some p))) μ
      | none => ∀ v1 v2 v3, D.nx [some sl, v1, v2, v3] μ) →
    forD C (gT 2 (gsCons (gN 1) (gsCons (gN 2) gsNil))) (dFor (iRg2 (aCons (dOp DL.rAdd (dVar 1) (dC (.int 1))) (aCons (dCB fLen (aCons (dVar 0) aNil)) aNil))) (gN 3) (dIfS (dTru (dCall 2 ph_do_cross (aCons (dVar 2) (aCons (dOp DL.rIx (dVar 0) (dVar 3)) aNil)))) (dRet (dTup (aCons (dVar 1) (aCons (dVar 3) aNil)))) dNext)) D (((l.zipIdx i).map fun p => PyData.tuple [.int (p.2 : Nat), rowI p.1]).map .dat) [some sl, v1, v2, v3] μ
  | [], i, v1, v2, v3, _, h => ⟨hC, h v1 v2 v3⟩
  | x :: l, i, v1, v2, v3, hd, h => by
    obtain ⟨hx, hd2, hl⟩ := drop_cons hd
    have gx : cs.getD i [] = x := by rw [List.getD_eq_getElem?_getD, hx]; rfl
    have xl : x.length ≤ 100 := hf.2 x (List.mem_of_getElem? hx)
    rw [List.zipIdx_cons, List.map_cons, List.map_cons]
    refine ⟨hC, ?_⟩
    rw [e_gT]
    refine ⟨rfl, ?_⟩
    simp only [e_gsCons, e_gsNil, e_gN, List.map_cons, List.map_nil, List.set_cons_succ, List.set_cons_zero]
    unfold dFor iRg2
    simp only [e_aCons, e_aNil, e_dOp, e_dCB, e_dVar, e_dC, List.getElem?_cons_zero, List.getElem?_cons_succ]
    have ad : ∀ (a b : Int) (ν : Mu) (Q : DQ), DL.rAdd (.dat (.int a)) (.dat (.int b)) ν Q = Q (.dat (.int (a + b))) ν := fun a b ν Q => by simp
    rw [ad, sq_len hs]
    have few := hf.1
    refine ⟨by rw [List.length_map]; omega, ?_⟩
    have e1 : ((i : Int) + 1) = ((i + 1 : Nat) : Int) := by omega
    have e2 : ((((cs.map rowI).length : Nat) : Int) - ((i + 1 : Nat) : Int)).toNat = cs.length - (i + 1) := by rw [List.length_map]; omega
    rw [e1, e2, rg_nats]
    rw [List.length_cons, List.range'_succ] at h
    unfold findI at h
    rw [List.findSome?_cons, gx] at h
    refine in_loop hs hf xl _ _ (fun j hj => by rw [List.mem_range'_1] at hj; omega) ?_
    cases e : findJ cs x (List.range' (i + 1) (cs.length - (i + 1))) with
    | some j =>
      rw [e] at h
      exact h
    | none =>
      rw [e] at h
      dsimp only
      intro v3
      exact out_loop hC hs hf l (i + 1) _ _ _ hd2 h
theorem pu_first_crossing : Pure ["cuts", "low", "cut", "high"] 1 ph_first_crossing ds_first_crossing := by
  intro ss μ Q' hl h
  obtain ⟨s, cs, rfl, hf, hs, h⟩ := h
  simp only [ds_first_crossing, startD, List.map_cons, List.map_nil, List.length_cons, List.length_nil, List.replicate, List.cons_append, List.nil_append]
  rw [e_dSeq]
  obtain ⟨C, c0, _, ci⟩ := sq_en (ρ := [some s, none, none, none]) (i := 0) rfl hs
  show iEn _ _ _ _
  rw [ci, en_rows]
  refine out_loop c0 hs hf cs 0 none none none rfl ?_
  have er : findI cs (List.range' 0 cs.length) = firstX cs := by unfold firstX; rw [List.range_eq_range']
  rw [er]
  cases e : firstX cs with
  | some p =>
    rw [e] at h
    show finQ μ.length Q' (.dat (optD (some p))) μ
    rw [e_finD, List.take_length]
    exact h
  | none =>
    rw [e] at h
    intro v1 v2 v3
    dsimp only
    rw [e_dRet, e_dC]
    show finQ μ.length Q' (.dat .none) μ
    rw [e_finD, List.take_length]
    exact h
theorem u_first (hf : FewL cs) (hs : Sq μ sl (cs.map rowI)) (h : Q (.dat (optD (firstX cs))) μ) : ph_first_crossing [sl] μ Q := ⟨sl, cs, rfl, hf, hs, h⟩
theorem few_of (hn : n ≤ 8) (h : CutsOk n cs) : FewL cs := ⟨by have := h.few; omega, fun c hc => by have := cut_len (h.all c hc) hn; omega⟩
theorem pu_is_laminar : Pure ["web", "cuts"] 2 ph_is_laminar ds_is_laminar := by
  intro ss μ Q' hl h
  obtain ⟨n, ts, s, cs, rfl, ⟨hw, hc⟩, hs, h⟩ := h
  simp only [ds_is_laminar, startD, List.map_cons, List.map_nil, List.length_cons, List.length_nil, List.replicate, List.cons_append, List.nil_append, List.append_nil]
  rw [e_dSeq, e_dDrop, e_dCall, e_aCons, e_dVar]
  simp only [List.getElem?_cons_zero, List.getElem?_cons_succ]
  rw [e_aCons, e_dVar]
  simp only [List.getElem?_cons_zero, List.getElem?_cons_succ]
  rw [e_aNil]
  refine ⟨rfl, u_check_cuts hw hc hs ?_⟩
  try dsimp only
  rw [e_dRet, e_dOp, e_dCall, e_aCons, e_dVar]
  simp only [List.getElem?_cons_zero, List.getElem?_cons_succ]
  rw [e_aNil]
  refine ⟨rfl, u_first (few_of hw.hi hc) hs ?_⟩
  rw [e_dC]
  have is_ : ∀ (o : Option (Nat × Nat)) (ν : Mu) (Q : DQ), DL.rIs false (.dat (optD o)) (.dat .none) ν Q = Q (.dat (.bool o.isNone)) ν := fun o ν Q => by cases o <;> rfl
  rw [is_, e_finD, List.take_length]
  exact h
end
end K24
namespace K24
open PySem PySem.Spec PyProof.Rows L2 Evl DL
open WL
section
variable {μ ν : Mu} {Q : DQ} {n : Int} {ts : List T3} {c s : List Int} {cs : List (List Int)} {sl : Sl} {ds : List PyData} {D : DEnds} {i j k : Nat}
theorem sIx_nat {m d i : Nat} (h : i ≤ m) : HT.sIx m d (some (i : Int)) = i := by
  rw [HT.sIx_nat]
  omega
theorem cut_lo {l : List PyData} (h : i ≤ l.length) : DL.cutD l none (some (i : Int)) = l.take i := by
  unfold DL.cutD
  rw [sIx_nat h]
  show (l.drop 0).take (i - 0) = _
  simp
theorem cut_mid {l : List PyData} (h : i ≤ l.length) (hj : j ≤ l.length) : DL.cutD l (some (i : Int)) (some (j : Int)) = (l.take j).drop i := by
  unfold DL.cutD
  rw [sIx_nat h, sIx_nat hj, List.drop_take]
theorem cut_hi {l : List PyData} (h : i ≤ l.length) : DL.cutD l (some (i : Int)) none = l.drop i := by
  unfold DL.cutD
  rw [sIx_nat h]
  show (l.drop i).take (l.length - i) = _
  rw [List.take_of_length_le (by rw [List.length_drop]; omega)]
theorem sl_of {l : List PyData} {lo hi : Option Int} (hv : isV sl = false) (h : rd ν sl = some (.list l)) : rSl sl lo hi ν Q = Q (.dat (.list (DL.cutD l lo hi))) ν := by
  unfold rSl
  rw [h, hv]
  rfl
theorem add_lists {x y : List PyData} (h : x.length + y.length ≤ 1000) : DL.rAdd (.dat (.list x)) (.dat (.list y)) ν Q = Q (.dat (.list (x ++ y))) ν := by
  show (_ ∧ Q (.dat (.list (x ++ y))) ν) = _
  exact propext ⟨fun z => z.2, fun z => ⟨sz (by simpa using h), z⟩⟩
theorem dropTwo_map (h : i < j) (hj : j < cs.length) : (cs.map rowI).take i ++ ((cs.map rowI).take j).drop (i + 1) ++ (cs.map rowI).drop (j + 1) = (dropTwo cs i j).map rowI := by
  unfold dropTwo
  simp
theorem sort_cuts (h : ∀ c ∈ cs, c ≠ []) (hl : cs.length ≤ 1000) : SortOk (cs.map rowI) := by
  refine ⟨alike_rows _, .inl (.inl fun d hd => ?_), sz (by rw [List.length_map]; exact hl), fun d hd => ?_⟩
  · obtain ⟨c, hc, rfl⟩ := List.mem_map.mp hd
    have := h c hc
    cases c with
    | nil => exact absurd rfl this
    | cons x r => exact ⟨_, _, rfl⟩
  · obtain ⟨c, _, rfl⟩ := List.mem_map.mp hd
    exact depth_row c
structure Mem (μ ν : Mu) (j : Nat) (cs : List (List Int)) : Prop where
  old : ν.take μ.length = μ
  far : μ.length ≤ j
  at_ : ν[j]? = some (.lst (cs.map rowI))
theorem Mem.rd (h : Mem μ ν j cs) : rd ν (.cell j) = some (.list (cs.map rowI)) := by rw [e_rdC, h.at_]; rfl
theorem Mem.sq (h : Mem μ ν j cs) : Sq ν (.cell j) (cs.map rowI) := ⟨rfl, .inl h.rd⟩
theorem Mem.new (h : ν.take μ.length = μ) (cs : List (List Int)) : Mem μ (ν ++ [.lst (cs.map rowI)]) ν.length cs := by
  have l : μ.length ≤ ν.length := by
    have := congrArg List.length h
    rw [List.length_take] at this
    omega
  refine ⟨by rw [List.take_append_of_le_length l]; exact h, l, ?_⟩
  rw [List.getElem?_append_right (Nat.le_refl _), Nat.sub_self]
  rfl
def othersE : DE := dOp DL.rAdd (dOp DL.rAdd (dSl (dVar 2) oNone (oSome (dVar 4))) (dSl (dVar 2) (oSome (dOp DL.rAdd (dVar 4) (dC (.int 1)))) (oSome (dVar 5)))) (dSl (dVar 2) (oSome (dOp DL.rAdd (dVar 5) (dC (.int 1)))) oNone)
def madeE : DE := dCB fSortedAC (aCons (dOp DL.rAdd (dVar 6) (dCB fList (aCons (dCall 2 ph_become (aCons (dOp DL.rIx (dVar 2) (dVar 4)) (aCons (dOp DL.rIx (dVar 2) (dVar 5)) aNil))) aNil))) aNil)
def stepB : DS := dSeq (dAsgG (dVar 3) (gT 2 (gsCons (gN 4) (gsCons (gN 5) gsNil)))) (dSeq (dAsg othersE 6) (dSeq (dAsg madeE 2) (dAsg (dCall 1 ph_first_crossing (aCons (dVar 2) aNil)) 3)))
theorem others_e (hm : Mem μ ν k cs) (h : i < j) (hj : j < cs.length) (hl : cs.length ≤ 100) {v0 v1 v3 v6 : Option Sl} : othersE [v0, v1, some (.cell k), v3, some (.dat (.int (i : Nat))), some (.dat (.int (j : Nat))), v6] ν Q = Q (.dat (.list ((dropTwo cs i j).map rowI))) ν := by
  have ad : ∀ (a b : Int) (ν : Mu) (Q : DQ), DL.rAdd (.dat (.int a)) (.dat (.int b)) ν Q = Q (.dat (.int (a + b))) ν := fun a b ν Q => by simp
  have e1 : ((i : Int) + 1) = ((i + 1 : Nat) : Int) := by omega
  have e2 : ((j : Int) + 1) = ((j + 1 : Nat) : Int) := by omega
  have ml : (cs.map rowI).length = cs.length := List.length_map ..
  unfold othersE
  rw [e_dOp, e_dOp]
  simp only [dSl, oNone, oSome, e_dVar, List.getElem?_cons_zero, List.getElem?_cons_succ, sl_of rfl hm.rd, e_dOp, e_dC, ad, e1, e2]
  rw [cut_lo (by omega), cut_mid (by omega) (by omega), add_lists (by simp; omega), sl_of rfl hm.rd, cut_hi (by omega), add_lists (by simp; omega), dropTwo_map h hj]
theorem made_e (hm : Mem μ ν k cs) (hf : FewL cs) (h : i < j) (hj : j < cs.length) (hne : ∀ c ∈ dropTwo cs i j ++ [interL (cs.getD i []) (cs.getD j []), unionL (cs.getD i []) (cs.getD j [])], c ≠ []) (hl : (dropTwo cs i j).length ≤ 100) {v0 v1 v3 : Option Sl} :
    madeE [v0, v1, some (.cell k), v3, some (.dat (.int (i : Nat))), some (.dat (.int (j : Nat))), some (.dat (.list ((dropTwo cs i j).map rowI)))] ν Q = Q (.cell ν.length) (ν ++ [.lst ((stepL cs i j).map rowI)]) := by
  unfold madeE
  rw [e_dCB, e_aCons, e_dOp, e_dVar]
  simp only [List.getElem?_cons_zero, List.getElem?_cons_succ]
  rw [e_dCB, e_aCons, e_dCall, e_aCons, e_dOp, e_dVar]
  simp only [List.getElem?_cons_zero, List.getElem?_cons_succ]
  rw [e_dVar]
  simp only [List.getElem?_cons_zero, List.getElem?_cons_succ]
  rw [sq_row_ix hm.sq (by omega), e_aCons, e_dOp, e_dVar]
  simp only [List.getElem?_cons_zero, List.getElem?_cons_succ]
  rw [e_dVar]
  simp only [List.getElem?_cons_zero, List.getElem?_cons_succ]
  rw [sq_row_ix hm.sq hj, e_aNil]
  have sm : Small2 (cs.getD i []) (cs.getD j []) := ⟨hf.2 _ (getD_mem (by omega)), hf.2 _ (getD_mem hj)⟩
  have fl : ∀ (a b : List Int) (ν : Mu) (Q : DQ), fList [.dat (twoD a b)] ν Q = Q (.dat (.list ([a, b].map rowI))) ν := fun a b ν Q => by unfold fList twoD; simp [arg1]
  have e0 : ([Sl.dat (rowI (cs.getD i [])), .dat (rowI (cs.getD j []))].length = 2) = True := by simp
  rw [c_become, e0]
  refine propext ⟨fun z => ?_, fun z => ⟨trivial, sm, ?_⟩⟩
  · obtain ⟨_, _, z⟩ := z
    rw [e_aNil, fl, add_lists (by simp; omega), ← List.map_append, e_aNil] at z
    have ft : ∀ (ν : Mu) (Q : DQ), fSortedAC [.dat (.list ((dropTwo cs i j ++ [interL (cs.getD i []) (cs.getD j []), unionL (cs.getD i []) (cs.getD j [])]).map rowI))] ν Q → Q (.cell ν.length) (ν ++ [.lst ((stepL cs i j).map rowI)]) := fun ν Q w => by
      unfold fSortedAC arg1 at w
      simp only [e_rdD, sortD_rows] at w
      exact w.2
    exact ft _ _ z
  · rw [e_aNil, fl, add_lists (by simp; omega), ← List.map_append, e_aNil]
    unfold fSortedAC arg1
    simp only [e_rdD, sortD_rows]
    exact ⟨⟨rfl, sort_cuts hne (by rw [List.length_append]; simp; omega)⟩, z⟩
theorem is_not {o : Option (Nat × Nat)} : DL.rIs true (.dat (optD o)) (.dat .none) ν Q = Q (.dat (.bool o.isSome)) ν := by cases o <;> rfl
theorem made_loop (hn : n ≤ 8) (f0 : List (List Int)) {v0 v1 : Option Sl} (h : ∀ k v3 v4 v5 v6 ν, Mem μ ν k f0 → D.nx [v0, v1, some (.cell k), v3, v4, v5, v6] ν) :
    ∀ (m : Nat) (cs : List (List Int)) (k : Nat) (v4 v5 v6 : Option Sl) (ν : Mu), CutsOk n cs → 588 - potL cs < m → goL m cs = f0 → Mem μ ν k cs →
    whileD (dTest (dOp (DL.rIs true) (dVar 3) (dC .none))) stepB D m [v0, v1, some (.cell k), some (.dat (optD (firstX cs))), v4, v5, v6] ν
  | 0, _, _, _, _, _, _, _, hm, _, _ => absurd hm (Nat.not_lt_zero _)
  | m + 1, cs, k, v4, v5, v6, ν, hc, hm, hg, hM => by
    show dTest _ _ _ _
    rw [e_dTest, e_dOp, e_dVar]
    simp only [List.getElem?_cons_zero, List.getElem?_cons_succ]
    rw [e_dC, is_not]
    cases e : firstX cs with
    | none =>
      rw [goL_none _ e] at hg
      subst hg
      exact h k _ v4 v5 v6 ν hM
    | some p =>
      obtain ⟨i, j⟩ := p
      rw [goL_some _ e] at hg
      obtain ⟨h1, h2, h3⟩ := first_some e
      have hf := few_of hn hc
      have g1 := step_ok hc e
      have g2 := step_grows hn hc e
      have g3 := potL_le hn g1
      have ne : ∀ c ∈ dropTwo cs i j ++ [interL (cs.getD i []) (cs.getD j []), unionL (cs.getD i []) (cs.getD j [])], c ≠ [] := fun c hcm => (g1.all c ((sortL_perm _).mem_iff.mpr hcm)).2.2
      have ln := (dropTwo_perm h1 h2).length_eq
      simp only [List.length_cons] at ln
      have few := hc.few
      dsimp only [Option.isSome]
      rw [if_pos rfl]
      suffices step : ∀ E : DEnds, (∀ k v4 v5 v6 ν, Mem μ ν k (stepL cs i j) → E.nx [v0, v1, some (.cell k), some (.dat (optD (firstX (stepL cs i j)))), v4, v5, v6] ν) → stepB E [v0, v1, some (.cell k), some (.dat (optD (some (i, j)))), v4, v5, v6] ν from
        step _ fun k v4 v5 v6 ν hM2 => made_loop hn f0 h m _ k v4 v5 v6 ν g1 (by omega) hg hM2
      intro E hE
      unfold stepB
      rw [e_dSeq]
      unfold dAsgG
      rw [e_dVar]
      simp only [List.getElem?_cons_zero, List.getElem?_cons_succ]
      show gT 2 _ (.dat (.tuple [.int (i : Nat), .int (j : Nat)])) _ _ _
      rw [e_gT]
      refine ⟨rfl, ?_⟩
      simp only [e_gsCons, e_gsNil, e_gN, List.map_cons, List.map_nil, List.set_cons_succ, List.set_cons_zero]
      rw [e_dSeq, e_dAsg, others_e hM h1 h2 (by omega)]
      simp only [List.set_cons_succ, List.set_cons_zero]
      rw [e_dSeq, e_dAsg, made_e hM hf h1 h2 ne (by omega)]
      simp only [List.set_cons_succ, List.set_cons_zero]
      have M2 := Mem.new hM.old (stepL cs i j)
      rw [e_dAsg, e_dCall, e_aCons, e_dVar]
      simp only [List.getElem?_cons_zero, List.getElem?_cons_succ]
      rw [e_aNil]
      refine ⟨rfl, u_first (few_of hn g1) M2.sq ?_⟩
      simp only [List.set_cons_succ, List.set_cons_zero]
      exact hE _ _ _ _ _ M2
theorem pu_made_laminar : Pure ["web", "cuts", "made", "pair", "low", "high", "others"] 2 ph_made_laminar ds_made_laminar := by
  intro ss μ Q' hl h
  obtain ⟨n, ts, s, cs, rfl, ⟨hw, hc⟩, hs, h⟩ := h
  have few := hc.few
  simp only [ds_made_laminar, startD, List.map_cons, List.map_nil, List.length_cons, List.length_nil, List.replicate, List.cons_append, List.nil_append, List.append_nil]
  rw [e_dSeq, e_dDrop, e_dCall, e_aCons, e_dVar]
  simp only [List.getElem?_cons_zero, List.getElem?_cons_succ]
  rw [e_aCons, e_dVar]
  simp only [List.getElem?_cons_zero, List.getElem?_cons_succ]
  rw [e_aNil]
  refine ⟨rfl, u_check_cuts hw hc hs ?_⟩
  try dsimp only
  rw [e_dSeq, e_dAsg, e_dCB, e_aCons, e_dVar]
  simp only [List.getElem?_cons_zero, List.getElem?_cons_succ]
  have so := sort_cuts (cs := cs) (fun c hcm => (hc.all c hcm).2.2) (by omega)
  have ft : ∀ (Q : DQ), Q (.cell μ.length) (μ ++ [.lst ((sortL cs).map rowI)]) → fSortedAC [s] μ Q := fun Q w => by
    unfold fSortedAC arg1
    rcases hs.2 with e | e
    · simp only [e, sortD_rows]
      exact ⟨⟨hs.1, so⟩, w⟩
    · simp only [e, sortD_rows]
      exact ⟨⟨hs.1, so⟩, w⟩
  rw [e_aNil]
  refine ft _ ?_
  simp only [List.set_cons_succ, List.set_cons_zero]
  have M0 : Mem μ (μ ++ [.lst ((sortL cs).map rowI)]) μ.length (sortL cs) := Mem.new (List.take_length) (sortL cs)
  have hc2 := sort_ok hc
  rw [e_dSeq, e_dAsg, e_dCall, e_aCons, e_dVar]
  simp only [List.getElem?_cons_zero, List.getElem?_cons_succ]
  rw [e_aNil]
  refine ⟨rfl, u_first (few_of hw.hi hc2) M0.sq ?_⟩
  simp only [List.set_cons_succ, List.set_cons_zero]
  rw [e_dSeq]
  refine ⟨fuelL, made_loop hw.hi (lamL cs) (fun k v3 v4 v5 v6 ν hM => ?_) fuelL (sortL cs) _ none none none _ hc2 (by have := fuel_big; omega) rfl M0⟩
  dsimp only
  rw [e_dRet, e_dVar]
  simp only [List.getElem?_cons_zero, List.getElem?_cons_succ]
  show finQ μ.length Q' (.cell k) ν
  rw [o_finC hM.at_, if_neg (by have := hM.far; omega), hM.old]
  exact h
end
end K24
namespace K24
open PySem PySem.Spec PyProof.Rows L2 Evl DL
open WL
open PySem.W (minD)
section
variable {μ ν : Mu} {Q : DQ} {n : Int} {ts : List T3} {c s : List Int} {cs : List (List Int)} {sl : Sl} {ds : List PyData} {D : DEnds} {i j k : Nat}
theorem depth_pairs : ∀ (ps : List (Int × Int)), PyData.depthAll (ps.map WL.pairD) ≤ 64
  | [] => by simp [PyData.depthAll]
  | p :: ps => by
    have ih := depth_pairs ps
    have hp : (WL.pairD p).depth ≤ 1 := sh_pair.2
    rw [List.map_cons, PyData.depthAll]
    omega
theorem best_pairs (ps : List (Int × Int)) : BestOk (ps.map WL.pairD) := by
  refine ⟨⟨fun x hx y hy => ?_, fun x hx e => ?_⟩, depth_pairs ps⟩
  · obtain ⟨p, _, rfl⟩ := List.mem_map.mp hx
    obtain ⟨q, _, rfl⟩ := List.mem_map.mp hy
    exact alike_pair
  · obtain ⟨p, _, rfl⟩ := List.mem_map.mp hx
    cases e
def minT : DE := dIf (dTru (dVar 3)) (dOp DL.rIx (dCB fMin1 (aCons (dVar 3) aNil)) (dC (.int 1))) (dC .none)
theorem min_sec (ps : List (Int × Int)) {d : PyData} {ds : List PyData} (e : ps.map WL.pairD = d :: ds) : fMin1 [.dat (.list (ps.map WL.pairD))] μ (fun x μ1 => DL.rIx x (.dat (.int 1)) μ1 Q) = Q (.dat (secD (minD d ds))) μ := by
  have hm : minD d ds ∈ ps.map WL.pairD := by rw [e]; exact DL.minD_mem d ds
  obtain ⟨q, _, eq⟩ := List.mem_map.mp hm
  have bo := best_pairs ps
  rw [e] at bo ⊢
  show (BestOk (d :: ds) ∧ DL.rIx (.dat (minD d ds)) (.dat (.int 1)) μ Q) = _
  rw [← eq]
  have ix : DL.rIx (.dat (WL.pairD q)) (.dat (.int 1)) μ Q = Q (.dat (.int q.2)) μ := ix_p1
  rw [ix]
  exact propext ⟨fun z => z.2, fun z => ⟨bo, z⟩⟩
theorem pu_holder : Pure ["cuts", "at", "cut", "wider", "place", "second"] 2 ph_holder ds_holder := by
  intro ss μ Q' hl h
  obtain ⟨s, cs, i, rfl, ⟨hf, hi⟩, hs, h⟩ := h
  generalize hc : cs.getD i [] = c at h
  have cl : c.length ≤ 100 := by rw [← hc]; exact hf.2 _ (getD_mem hi)
  simp only [ds_holder, startD, List.map_cons, List.map_nil, List.length_cons, List.length_nil, List.replicate, List.cons_append, List.nil_append]
  rw [e_dSeq, e_dAsg, e_dOp, e_dVar]
  simp only [List.getElem?_cons_zero, List.getElem?_cons_succ]
  rw [e_dVar]
  simp only [List.getElem?_cons_zero, List.getElem?_cons_succ]
  rw [sq_row_ix hs hi, hc]
  simp only [List.set_cons_succ, List.set_cons_zero]
  obtain ⟨C, c0, c1, ci⟩ := sq_en (ρ := [some s, some (.dat (.int (i : Nat))), some (.dat (rowI c)), none, none, none]) (i := 0) rfl hs
  rw [en_rows] at ci
  have few := hf.1
  have L := fun Q => lc_gen (β := Unit) (C := C) (i := iEn (aCons (dVar 0) aNil)) (g := gT 2 (gsCons (gN 4) (gsCons (gN 5) gsNil))) (t := dAnd (dTru (dCall 2 ph_has_more (aCons (dVar 5) (aCons (dVar 2) aNil)))) (dNot (dTru (dCall 2 ph_has_more (aCons (dVar 2) (aCons (dVar 5) aNil)))))) (e := dTup (aCons (dCB fLen (aCons (dVar 5) aNil)) (aCons (dVar 4) aNil))) (vs := [4, 5]) (μ := μ) (Q := Q) (ρ := [some s, some (.dat (.int (i : Nat))), some (.dat (rowI c)), none, none, none]) (xs := cs.zipIdx) (fun p => PyData.tuple [.int (p.2 : Nat), rowI p.1]) (fun x => widerB x.1 c) (fun x => WL.pairD ((x.1.length : Nat), (x.2 : Nat))) ci (fun _ => c1 _) (sz (by rw [List.length_zipIdx]; omega)) (fun x hx acc R => by
    have hx1 : x.1 ∈ cs := List.mem_of_getElem? (List.mem_zipIdx_iff_getElem?.mp (show (x.1, x.2) ∈ cs.zipIdx from hx))
    have xl := hf.2 _ hx1
    have hm1 : ∀ (ν : Mu) (Q : DQ), ph_has_more [.dat (rowI x.1), .dat (rowI c)] ν Q = Q (.dat (.bool (x.1.any fun y => !decide (y ∈ c)))) ν := fun ν Q => by rw [c_has_more]; exact propext ⟨fun z => z.2, fun z => ⟨⟨xl, cl⟩, z⟩⟩
    have hm2 : ∀ (ν : Mu) (Q : DQ), ph_has_more [.dat (rowI c), .dat (rowI x.1)] ν Q = Q (.dat (.bool (c.any fun y => !decide (y ∈ x.1)))) ν := fun ν Q => by rw [c_has_more]; exact propext ⟨fun z => z.2, fun z => ⟨⟨cl, xl⟩, z⟩⟩
    have fl : ∀ (ν : Mu) (Q : DQ), fLen [.dat (rowI x.1)] ν Q = Q (.dat (.int x.1.length)) ν := fun ν Q => by simp [rowI]
    unfold widerB
    cases a : x.1.any fun y => !decide (y ∈ c) <;> cases b : c.any fun y => !decide (y ∈ x.1) <;> simp [wipeD, hm1, hm2, a, b, fl, WL.pairD, small_sz])
  have e1 : (cs.zipIdx.filter fun x => widerB x.1 c).map (fun x => WL.pairD ((x.1.length : Nat), (x.2 : Nat))) = (widP cs c).map WL.pairD := by unfold widP; rw [List.map_map]; rfl
  rw [e1] at L
  rw [e_dSeq, e_dAsg]
  refine (L _).mpr ?_
  simp only [List.set_cons_succ, List.set_cons_zero]
  rw [e_dRet, e_dIf, e_dTru, e_dVar]
  simp only [List.getElem?_cons_zero, List.getElem?_cons_succ]
  refine ⟨trivial, ?_⟩
  unfold holdD at h
  cases e : (widP cs c).map WL.pairD with
  | nil =>
    rw [e] at h
    show if (truD (.list [])) = true then _ else _
    rw [if_neg (by decide), e_dC, e_finD, List.take_length]
    exact h
  | cons d ds =>
    rw [e] at h
    show if (truD (.list (d :: ds))) = true then _ else _
    rw [if_pos (show (truD (.list (d :: ds))) = true from rfl), ← e, e_dOp, e_dCB, e_aCons, e_dVar]
    simp only [List.getElem?_cons_zero, List.getElem?_cons_succ]
    rw [e_aNil]
    simp only [e_dC]
    rw [min_sec _ e, e_finD, List.take_length]
    exact h
theorem c_holder (hf : FewL cs) (hi : i < cs.length) (hs : Sq ν sl (cs.map rowI)) (h : Q (.dat (holdD cs (cs.getD i []))) ν) : ph_holder [sl, .dat (.int (i : Nat))] ν Q := ⟨sl, cs, i, rfl, ⟨hf, hi⟩, hs, h⟩
theorem pu_law_do_cross : Pure ["cut", "second", "common", "place"] 2 ph_law_do_cross ds_law_do_cross := by
  intro ss μ Q' hl h
  obtain ⟨c, s, rfl, ⟨⟨hc, hs⟩, nc, ns⟩, h⟩ := h
  rw [cross_law nc ns] at h
  simp only [ds_law_do_cross, e_dSeq, e_dAsg, startD, List.map_cons, List.map_nil, List.length_cons, List.length_nil, List.replicate, List.cons_append, List.nil_append]
  rw [common_e (c := c) (s := s) rfl hc (fun x acc R => by simp [wipeD])]
  simp only [List.set_cons_succ, List.set_cons_zero]
  have ne : ∀ (ν : Mu) (Q : DQ), DL.rNe (.dat (.list ((interL c s).map PyData.int))) (.dat (.list [])) ν Q = Q (.dat (.bool (!(interL c s).isEmpty))) ν := fun ν Q => by
    rw [ne_nilD (sh_ints (c := interL c s)) (by decide)]
    cases interL c s <;> rfl
  have fl : ∀ (x : List Int) (ν : Mu) (Q : DQ), fLen [.dat (rowI x)] ν Q = Q (.dat (.int x.length)) ν := fun x ν Q => by simp [rowI]
  have fll : ∀ (ν : Mu) (Q : DQ), fLen [.dat (.list ((interL c s).map PyData.int))] ν Q = Q (.dat (.int (interL c s).length)) ν := fun ν Q => by simp
  have lt1 : ∀ (i j : Int) (ν : Mu) (Q : DQ), wLt (.dat (.int i)) (.dat (.int j)) ν Q = Q (.dat (.bool (decide (i < j)))) ν := fun i j ν Q => rfl
  rw [e_dRet, e_dAndV, e_dOp, e_dVar]
  simp only [List.getElem?_cons_zero, List.getElem?_cons_succ]
  rw [e_dLst, e_aNil]
  simp only [e_datsNil]
  refine ⟨Nat.zero_le _, ?_⟩
  show DL.rNe _ (.dat (.list [])) _ _
  rw [ne]
  dsimp only
  cases c1 : (interL c s).isEmpty with
  | true =>
    rw [c1] at h
    rw [if_neg (by decide), e_finD, List.take_length]
    simpa using h
  | false =>
    rw [c1] at h
    rw [if_pos (show (!false) = true from rfl), e_dAndV, e_dOp, e_dCB, e_aCons, e_dVar]
    simp only [List.getElem?_cons_zero, List.getElem?_cons_succ]
    rw [e_aNil, fll, e_dCB, e_aCons, e_dVar]
    simp only [List.getElem?_cons_zero, List.getElem?_cons_succ]
    rw [e_aNil, fl, lt1]
    dsimp only
    by_cases c2 : (interL c s).length < c.length
    · rw [decide_eq_true (show (((interL c s).length : Nat) : Int) < ((c.length : Nat) : Int) by omega), if_pos rfl, e_dOp, e_dCB, e_aCons, e_dVar]
      simp only [List.getElem?_cons_zero, List.getElem?_cons_succ]
      rw [e_aNil, fll, e_dCB, e_aCons, e_dVar]
      simp only [List.getElem?_cons_zero, List.getElem?_cons_succ]
      rw [e_aNil, fl, lt1, e_finD, List.take_length]
      rw [decide_eq_true c2] at h
      have e : decide ((((interL c s).length : Nat) : Int) < ((s.length : Nat) : Int)) = decide ((interL c s).length < s.length) := decide_eq_decide.mpr (by omega)
      rw [e]
      simpa using h
    · rw [decide_eq_false (show ¬ (((interL c s).length : Nat) : Int) < ((c.length : Nat) : Int) by omega), if_neg (by decide), e_finD, List.take_length]
      rw [decide_eq_false c2] at h
      simpa using h
theorem c_law_do_cross : ph_law_do_cross [.dat (rowI c), .dat (rowI s)] μ Q = (Two2 c s ∧ Q (.dat (.bool (crossB c s))) μ) := propext ⟨fun ⟨_, _, e, h⟩ => by obtain ⟨rfl, rfl⟩ := rr_inj e; exact h, fun h => ⟨_, _, rfl, h⟩⟩
theorem pu_law_uncrossed : Pure ["cut", "second", "common", "place"] 2 ph_law_uncrossed ds_law_uncrossed := by
  intro ss μ Q' hl h
  obtain ⟨c, s, rfl, ⟨h3, hls⟩, h⟩ := h
  obtain ⟨⟨hc, hs⟩, nc, ns⟩ := id h3
  simp only [ds_law_uncrossed, startD, List.map_cons, List.map_nil, List.length_cons, List.length_nil, List.replicate, List.cons_append, List.nil_append]
  rw [e_dSeq, e_dIfS, e_dNot]
  simp only [e_dTru, e_dCall, e_aCons, e_aNil, e_dVar, List.getElem?_cons_zero, List.getElem?_cons_succ]
  refine ⟨rfl, ?_⟩
  rw [c_law_do_cross]
  refine ⟨h3, trivial, ?_⟩
  show if (!crossB c s) = true then _ else _
  unfold uncD at h
  cases e : crossB c s with
  | false =>
    rw [e, if_neg (by decide)] at h
    rw [if_pos (show (!false) = true from rfl), e_dRet, e_dTup, e_aCons, e_dVar]
    simp only [List.getElem?_cons_zero, List.getElem?_cons_succ]
    rw [e_aCons, e_dVar]
    simp only [List.getElem?_cons_zero, List.getElem?_cons_succ]
    rw [e_aNil]
    show 2 ≤ sizeLine ∧ finQ μ.length Q' (.dat (twoD c s)) μ
    refine ⟨sz (by simp), ?_⟩
    rw [e_finD, List.take_length]
    exact h
  | true =>
    rw [e, if_pos rfl] at h
    rw [if_neg (by decide), e_dNext]
    try dsimp only
    rw [e_dSeq, e_dAsg, e_dCB, e_aCons, common_e (c := c) (s := s) rfl hc (fun x acc R => by simp [wipeD]), e_aNil, tup_ints]
    simp only [List.set_cons_succ, List.set_cons_zero]
    have ad : ∀ (ν : Mu) (Q : DQ), DL.rAdd (.dat (rowI c)) (.dat (rowI s)) ν Q = Q (.dat (.tuple ((c ++ s).map PyData.int))) ν := fun ν Q => by
      show (_ ∧ Q (.dat (.tuple (c.map PyData.int ++ s.map PyData.int))) ν) = _
      rw [List.map_append]
      exact propext ⟨fun z => z.2, fun z => ⟨sz (by simp; omega), z⟩⟩
    rw [e_dRet, e_dTup, e_aCons, e_dVar]
    simp only [List.getElem?_cons_zero, List.getElem?_cons_succ]
    rw [e_aCons, e_dCB, e_aCons, e_dUn, e_dOp, e_dVar]
    simp only [List.getElem?_cons_zero, List.getElem?_cons_succ]
    rw [e_dVar]
    simp only [List.getElem?_cons_zero, List.getElem?_cons_succ]
    rw [ad, o_upSet2]
    refine ⟨by rw [List.length_append]; omega, fun ms hu => ?_⟩
    rw [set_union nc ns hu, e_aNil, tup_ints, e_aNil]
    show 2 ≤ sizeLine ∧ finQ μ.length Q' (.dat (twoD (interL c s) (unionL c s))) μ
    refine ⟨sz (by simp), ?_⟩
    rw [e_finD, List.take_length]
    exact h
theorem u_unc (h3 : Two2 c s) (hl : c.length + s.length < 60) (h : Q (.dat (uncD c s)) μ) : ph_law_uncrossed [.dat (rowI c), .dat (rowI s)] μ Q := ⟨c, s, rfl, ⟨h3, hl⟩, h⟩
end
end K24
namespace K24
open PySem PySem.Spec PyProof.Rows L2 Evl DL
open WL
open PySem.W (minD)
section
variable {μ ν : Mu} {Q : DQ} {n : Int} {ts : List T3} {c s : List Int} {cs : List (List Int)} {sl : Sl} {ds : List PyData} {D : DEnds} {i j k : Nat}
theorem lin_loop (hs : Sq μ sl (cs.map rowI)) (hf : NdL cs) (hi : i < cs.length) : ∀ (js : List Nat) (v2 : Option Sl), (∀ j ∈ js, j < cs.length) → (match findJ cs (cs.getD i []) js with
      | some j => D.rt (.dat (optD (some (i, j)))) μ
      | none => ∀ v2, D.nx [some sl, some (.dat (.int (i : Nat))), v2] μ) →
    forD (fun _ => True) (gN 2) (dIfS (dTru (dCall 2 ph_law_do_cross (aCons (dOp DL.rIx (dVar 0) (dVar 1)) (aCons (dOp DL.rIx (dVar 0) (dVar 2)) aNil)))) (dRet (dTup (aCons (dVar 1) (aCons (dVar 2) aNil)))) dNext) D (js.map fun (j : Nat) => Sl.dat (.int (j : Nat))) [some sl, some (.dat (.int (i : Nat))), v2] μ
  | [], v2, _, h => ⟨trivial, h v2⟩
  | j :: js, v2, hj, h => by
    have jl := hj j (List.mem_cons_self ..)
    rw [List.map_cons]
    refine ⟨trivial, ?_⟩
    simp only [e_gN, List.set_cons_succ, List.set_cons_zero]
    rw [e_dIfS, e_dTru, e_dCall, e_aCons, e_dOp, e_dVar]
    simp only [List.getElem?_cons_zero, List.getElem?_cons_succ]
    rw [e_dVar]
    simp only [List.getElem?_cons_zero, List.getElem?_cons_succ]
    rw [sq_row_ix hs hi, e_aCons, e_dOp, e_dVar]
    simp only [List.getElem?_cons_zero, List.getElem?_cons_succ]
    rw [e_dVar]
    simp only [List.getElem?_cons_zero, List.getElem?_cons_succ]
    rw [sq_row_ix hs jl, e_aNil]
    refine ⟨rfl, ?_⟩
    rw [c_law_do_cross]
    refine ⟨⟨⟨hf.1.2 _ (getD_mem hi), hf.1.2 _ (getD_mem jl)⟩, hf.2 _ (getD_mem hi), hf.2 _ (getD_mem jl)⟩, trivial, ?_⟩
    show if crossB (cs.getD i []) (cs.getD j []) = true then _ else _
    unfold findJ at h
    rw [List.find?_cons] at h
    cases e : crossB (cs.getD i []) (cs.getD j []) with
    | true =>
      rw [e] at h
      rw [if_pos rfl, e_dRet, e_dTup, e_aCons, e_dVar]
      simp only [List.getElem?_cons_zero, List.getElem?_cons_succ]
      rw [e_aCons, e_dVar]
      simp only [List.getElem?_cons_zero, List.getElem?_cons_succ]
      rw [e_aNil]
      exact ⟨sz (by simp), h⟩
    | false =>
      rw [e] at h
      rw [if_neg (by decide), e_dNext]
      exact lin_loop hs hf hi js _ (fun k hk => hj k (List.mem_cons_of_mem _ hk)) h
theorem lout_loop (hs : Sq μ sl (cs.map rowI)) (hf : NdL cs) : ∀ (m i : Nat) (v1 v2 : Option Sl), i + m = cs.length → (match findI cs (List.range' i m) with
      | some p => D.rt (.dat (optD (some p))) μ
      | none => ∀ v1 v2, D.nx [some sl, v1, v2] μ) →
    forD (fun _ => True) (gN 1) (dFor (iRg2 (aCons (dOp DL.rAdd (dVar 1) (dC (.int 1))) (aCons (dCB fLen (aCons (dVar 0) aNil)) aNil))) (gN 2) (dIfS (dTru (dCall 2 ph_law_do_cross (aCons (dOp DL.rIx (dVar 0) (dVar 1)) (aCons (dOp DL.rIx (dVar 0) (dVar 2)) aNil)))) (dRet (dTup (aCons (dVar 1) (aCons (dVar 2) aNil)))) dNext)) D ((List.range' i m).map fun (j : Nat) => Sl.dat (.int (j : Nat))) [some sl, v1, v2] μ
  | 0, i, v1, v2, _, h => ⟨trivial, h v1 v2⟩
  | m + 1, i, v1, v2, e, h => by
    rw [List.range'_succ] at h ⊢
    rw [List.map_cons]
    refine ⟨trivial, ?_⟩
    simp only [e_gN, List.set_cons_succ, List.set_cons_zero]
    unfold dFor iRg2
    simp only [e_aCons, e_aNil, e_dOp, e_dCB, e_dVar, e_dC, List.getElem?_cons_zero, List.getElem?_cons_succ]
    have ad : ∀ (a b : Int) (ν : Mu) (Q : DQ), DL.rAdd (.dat (.int a)) (.dat (.int b)) ν Q = Q (.dat (.int (a + b))) ν := fun a b ν Q => by simp
    rw [ad, sq_len hs]
    have few := hf.1.1
    refine ⟨by rw [List.length_map]; omega, ?_⟩
    have e1 : ((i : Int) + 1) = ((i + 1 : Nat) : Int) := by omega
    have e2 : ((((cs.map rowI).length : Nat) : Int) - ((i + 1 : Nat) : Int)).toNat = cs.length - (i + 1) := by rw [List.length_map]; omega
    rw [e1, e2, rg_nats]
    unfold findI at h
    rw [List.findSome?_cons] at h
    refine lin_loop hs hf (by omega) _ _ (fun j hj => by rw [List.mem_range'_1] at hj; omega) ?_
    cases e : findJ cs (cs.getD i []) (List.range' (i + 1) (cs.length - (i + 1))) with
    | some j =>
      rw [e] at h
      exact h
    | none =>
      rw [e] at h
      dsimp only
      intro v2
      exact lout_loop hs hf m (i + 1) _ _ (by omega) h
theorem pu_law_first : Pure ["cuts", "one", "other"] 1 ph_law_first ds_law_first := by
  intro ss μ Q' hl h
  obtain ⟨s, cs, rfl, hf, hs, h⟩ := h
  have few := hf.1.1
  simp only [ds_law_first, startD, List.map_cons, List.map_nil, List.length_cons, List.length_nil, List.replicate, List.cons_append, List.nil_append]
  rw [e_dSeq]
  show iRg1 _ _ _ _
  unfold iRg1
  simp only [e_aCons, e_aNil, e_dCB, e_dVar, List.getElem?_cons_zero, List.getElem?_cons_succ]
  rw [sq_len hs]
  refine ⟨by rw [List.length_map]; omega, ?_⟩
  have e0 : rgI 0 (((cs.map rowI).length : Nat) : Int).toNat = (List.range' 0 cs.length).map fun (j : Nat) => Sl.dat (.int (j : Nat)) := by
    rw [Int.toNat_natCast, List.length_map]
    exact rg_nats 0 cs.length
  rw [e0]
  refine lout_loop hs hf cs.length 0 none none (by omega) ?_
  have er : findI cs (List.range' 0 cs.length) = firstX cs := by unfold firstX; rw [List.range_eq_range']
  rw [er]
  cases e : firstX cs with
  | some p =>
    rw [e] at h
    show finQ μ.length Q' (.dat (optD (some p))) μ
    rw [e_finD, List.take_length]
    exact h
  | none =>
    rw [e] at h
    intro v1 v2
    dsimp only
    rw [e_dRet, e_dC]
    show finQ μ.length Q' (.dat .none) μ
    rw [e_finD, List.take_length]
    exact h
theorem u_law_first (hf : NdL cs) (hs : Sq μ sl (cs.map rowI)) (h : Q (.dat (optD (firstX cs))) μ) : ph_law_first [sl] μ Q := ⟨sl, cs, rfl, hf, hs, h⟩
theorem nd_of (hn : n ≤ 8) (h : CutsOk n cs) : NdL cs := ⟨few_of hn h, fun c hc => cut_nd (h.all c hc)⟩
def lothersE : DE := dOp DL.rAdd (dLc (iEn (aCons (dVar 1) aNil)) (gT 2 (gsCons (gN 6) (gsCons (gN 7) gsNil))) (dTest (dOp (wIn not) (dVar 6) (dVar 2))) (dVar 7) [6, 7]) (dCB fList (aCons (dVar 5) aNil))
def lstepB : DS := dSeq (dAsgG (dVar 2) (gT 2 (gsCons (gN 3) (gsCons (gN 4) gsNil))))
    (dSeq (dAsg (dCall 2 ph_law_uncrossed (aCons (dOp DL.rIx (dVar 1) (dVar 3)) (aCons (dOp DL.rIx (dVar 1) (dVar 4)) aNil))) 5)
    (dSeq (dAsg lothersE 1)
    (dSeq (dAsg (dCB fSorted (aCons (dVar 1) aNil)) 1)
    (dAsg (dCall 1 ph_law_first (aCons (dVar 1) aNil)) 2))))
theorem sq_dat : Sq ν (.dat (.list (cs.map rowI))) (cs.map rowI) := ⟨rfl, .inl rfl⟩
theorem lothers_e (h : i < j) (hj : j < cs.length) (hl : cs.length ≤ 100) {a b : List Int} {v0 v3 v4 v6 v7 : Option Sl} : lothersE [v0, some (.dat (.list (cs.map rowI))), some (.dat (optD (some (i, j)))), v3, v4, some (.dat (twoD a b)), v6, v7] ν Q = Q (.dat (.list ((dropTwo cs i j ++ [a, b]).map rowI))) ν := by
  obtain ⟨C, c0, c1, ci⟩ := sq_en (μ := ν) (ρ := [v0, some (.dat (.list (cs.map rowI))), some (.dat (optD (some (i, j)))), v3, v4, some (.dat (twoD a b)), v6, v7]) (i := 1) rfl sq_dat
  rw [en_rows] at ci
  have L := fun Q => lc_gen (β := Unit) (C := C) (i := iEn (aCons (dVar 1) aNil)) (g := gT 2 (gsCons (gN 6) (gsCons (gN 7) gsNil))) (t := dTest (dOp (wIn not) (dVar 6) (dVar 2))) (e := dVar 7) (vs := [6, 7]) (μ := ν) (Q := Q) (ρ := [v0, some (.dat (.list (cs.map rowI))), some (.dat (optD (some (i, j)))), v3, v4, some (.dat (twoD a b)), v6, v7]) (xs := cs.zipIdx) (fun p => PyData.tuple [.int (p.2 : Nat), rowI p.1]) (fun x => !(decide (x.2 = i) || decide (x.2 = j))) (fun x => rowI x.1) ci (fun _ => c1 _) (sz (by rw [List.length_zipIdx]; omega)) (fun x hx acc R => by
    have inT : ∀ (ν : Mu) (Q : DQ), wIn not (.dat (.int (x.2 : Nat))) (.dat (optD (some (i, j)))) ν Q = Q (.dat (.bool (!(decide (x.2 = i) || decide (x.2 = j))))) ν := fun ν Q => by
      show wIn not (.dat (.int (x.2 : Nat))) (.dat (rowI [((i : Nat) : Int), ((j : Nat) : Int)])) ν Q = _
      rw [in_row]
      have e : decide (((x.2 : Nat) : Int) ∈ [((i : Nat) : Int), ((j : Nat) : Int)]) = (decide (x.2 = i) || decide (x.2 = j)) := by
        rw [Bool.eq_iff_iff, decide_eq_true_iff, Bool.or_eq_true, decide_eq_true_iff, decide_eq_true_iff]
        simp only [List.mem_cons, List.not_mem_nil, or_false]
        omega
      rw [e]
    cases e : (!(decide (x.2 = i) || decide (x.2 = j))) <;> simp [wipeD, inT, e])
  have e1 : (cs.zipIdx.filter fun x => !(decide (x.2 = i) || decide (x.2 = j))).map (fun x => rowI x.1) = (dropTwo cs i j).map rowI := by rw [← drop_zip h hj, List.map_map]; rfl
  rw [e1] at L
  have fl : ∀ (a b : List Int) (ν : Mu) (Q : DQ), fList [.dat (twoD a b)] ν Q = Q (.dat (.list ([a, b].map rowI))) ν := fun a b ν Q => by unfold fList twoD; simp [arg1]
  have ln := (dropTwo_perm h hj).length_eq
  simp only [List.length_cons] at ln
  unfold lothersE
  rw [e_dOp, L, e_dCB, e_aCons, e_dVar]
  simp only [List.getElem?_cons_zero, List.getElem?_cons_succ]
  rw [e_aNil, fl, add_lists (by simp; omega), ← List.map_append]
theorem sorted_rows (h : ∀ c ∈ cs, c ≠ []) (hl : cs.length ≤ 1000) : fSorted [.dat (.list (cs.map rowI))] ν Q = Q (.dat (.list ((sortL cs).map rowI))) ν := by
  unfold fSorted arg1
  simp only [e_rdD, sortD_rows]
  exact propext ⟨fun z => z.2, fun z => ⟨sort_cuts h hl, z⟩⟩
theorem llam_loop (hn : n ≤ 8) (f0 : List (List Int)) {v0 : Option Sl} (h : ∀ v2 v3 v4 v5 v6 v7, D.nx [v0, some (.dat (.list (f0.map rowI))), v2, v3, v4, v5, v6, v7] μ) :
    ∀ (m : Nat) (cs : List (List Int)) (v3 v4 v5 v6 v7 : Option Sl), CutsOk n cs → 588 - potL cs < m → goL m cs = f0 →
    whileD (dTest (dOp (DL.rIs true) (dVar 2) (dC .none))) lstepB D m [v0, some (.dat (.list (cs.map rowI))), some (.dat (optD (firstX cs))), v3, v4, v5, v6, v7] μ
  | 0, _, _, _, _, _, _, _, hm, _ => absurd hm (Nat.not_lt_zero _)
  | m + 1, cs, v3, v4, v5, v6, v7, hc, hm, hg => by
    show dTest _ _ _ _
    rw [e_dTest, e_dOp, e_dVar]
    simp only [List.getElem?_cons_zero, List.getElem?_cons_succ]
    rw [e_dC, is_not]
    cases e : firstX cs with
    | none =>
      rw [goL_none _ e] at hg
      subst hg
      exact h _ v3 v4 v5 v6 v7
    | some p =>
      obtain ⟨i, j⟩ := p
      rw [goL_some _ e] at hg
      obtain ⟨h1, h2, h3⟩ := first_some e
      have hf := nd_of hn hc
      have g1 := step_ok hc e
      have g2 := step_grows hn hc e
      have g3 := potL_le hn g1
      have ne : ∀ c ∈ dropTwo cs i j ++ [interL (cs.getD i []) (cs.getD j []), unionL (cs.getD i []) (cs.getD j [])], c ≠ [] := fun c hcm => (g1.all c ((sortL_perm _).mem_iff.mpr hcm)).2.2
      have ln := (dropTwo_perm h1 h2).length_eq
      simp only [List.length_cons] at ln
      have few := hc.few
      dsimp only [Option.isSome]
      rw [if_pos rfl]
      suffices step : ∀ E : DEnds, (∀ v3 v4 v5 v6 v7, E.nx [v0, some (.dat (.list ((stepL cs i j).map rowI))), some (.dat (optD (firstX (stepL cs i j)))), v3, v4, v5, v6, v7] μ) → lstepB E [v0, some (.dat (.list (cs.map rowI))), some (.dat (optD (some (i, j)))), v3, v4, v5, v6, v7] μ from
        step _ fun v3 v4 v5 v6 v7 => llam_loop hn f0 h m _ v3 v4 v5 v6 v7 g1 (by omega) hg
      intro E hE
      unfold lstepB
      rw [e_dSeq]
      unfold dAsgG
      rw [e_dVar]
      simp only [List.getElem?_cons_zero, List.getElem?_cons_succ]
      show gT 2 _ (.dat (.tuple [.int (i : Nat), .int (j : Nat)])) _ _ _
      rw [e_gT]
      refine ⟨rfl, ?_⟩
      simp only [e_gsCons, e_gsNil, e_gN, List.map_cons, List.map_nil, List.set_cons_succ, List.set_cons_zero]
      rw [e_dSeq, e_dAsg, e_dCall, e_aCons, e_dOp, e_dVar]
      simp only [List.getElem?_cons_zero, List.getElem?_cons_succ]
      rw [e_dVar]
      simp only [List.getElem?_cons_zero, List.getElem?_cons_succ]
      rw [sq_row_ix sq_dat (by omega), e_aCons, e_dOp, e_dVar]
      simp only [List.getElem?_cons_zero, List.getElem?_cons_succ]
      rw [e_dVar]
      simp only [List.getElem?_cons_zero, List.getElem?_cons_succ]
      rw [sq_row_ix sq_dat h2, e_aNil]
      have ci := hc.all _ (getD_mem (cs := cs) (k := i) (by omega))
      have cj := hc.all _ (getD_mem (cs := cs) h2)
      have li := cut_len ci hn
      have lj := cut_len cj hn
      refine ⟨rfl, u_unc ⟨⟨by omega, by omega⟩, cut_nd ci, cut_nd cj⟩ (by omega) ?_⟩
      have eu : uncD (cs.getD i []) (cs.getD j []) = twoD (interL (cs.getD i []) (cs.getD j [])) (unionL (cs.getD i []) (cs.getD j [])) := by unfold uncD; rw [if_pos h3]
      rw [eu]
      simp only [List.set_cons_succ, List.set_cons_zero]
      rw [e_dSeq, e_dAsg, lothers_e h1 h2 (by omega)]
      simp only [List.set_cons_succ, List.set_cons_zero]
      rw [e_dSeq, e_dAsg, e_dCB, e_aCons, e_dVar]
      simp only [List.getElem?_cons_zero, List.getElem?_cons_succ]
      rw [e_aNil, sorted_rows ne (by rw [List.length_append]; simp; omega)]
      simp only [List.set_cons_succ, List.set_cons_zero]
      rw [e_dAsg, e_dCall, e_aCons, e_dVar]
      simp only [List.getElem?_cons_zero, List.getElem?_cons_succ]
      rw [e_aNil]
      refine ⟨rfl, u_law_first (cs := stepL cs i j) (nd_of hn g1) sq_dat ?_⟩
      simp only [List.set_cons_succ, List.set_cons_zero]
      exact hE _ _ _ _ _
theorem pu_law_laminar : Pure ["cuts", "found", "both", "one", "other", "late", "at", "cut"] 1 ph_law_laminar ds_law_laminar := by
  intro ss μ Q' hl h
  obtain ⟨n, s, cs, rfl, ⟨hn, hc⟩, ⟨hv, hr⟩, h⟩ := h
  have few := hc.few
  simp only [ds_law_laminar, startD, List.map_cons, List.map_nil, List.length_cons, List.length_nil, List.replicate, List.cons_append, List.nil_append, List.append_nil]
  rw [e_dSeq, e_dAsg, e_dCB, e_aCons, e_dVar]
  simp only [List.getElem?_cons_zero, List.getElem?_cons_succ]
  have so := sort_cuts (cs := cs) (fun c hcm => (hc.all c hcm).2.2) (by omega)
  have ft : ∀ (Q : DQ), Q (.dat (.list ((sortL cs).map rowI))) μ → fSorted [s] μ Q := fun Q w => by
    unfold fSorted arg1
    simp only [hr, sortD_rows, hv]
    exact ⟨so, w⟩
  rw [e_aNil]
  refine ft _ ?_
  simp only [List.set_cons_succ, List.set_cons_zero]
  have hc2 := sort_ok hc
  rw [e_dSeq, e_dAsg, e_dCall, e_aCons, e_dVar]
  simp only [List.getElem?_cons_zero, List.getElem?_cons_succ]
  rw [e_aNil]
  refine ⟨rfl, u_law_first (cs := sortL cs) (nd_of hn hc2) sq_dat ?_⟩
  simp only [List.set_cons_succ, List.set_cons_zero]
  rw [e_dSeq]
  refine ⟨fuelL, llam_loop hn (lamL cs) (fun v2 v3 v4 v5 v6 v7 => ?_) fuelL (sortL cs) none none none none none hc2 (by have := fuel_big; omega) rfl⟩
  dsimp only
  rw [e_dRet, e_dVar]
  simp only [List.getElem?_cons_zero, List.getElem?_cons_succ]
  show finQ μ.length Q' (.dat (.list ((lamL cs).map rowI))) μ
  rw [e_finD, List.take_length]
  exact h
end
end K24
namespace K24
open PySem PySem.Spec PyProof.Rows L2 Evl DL
open WL
open PySem.W (minD)
section
variable {μ ν : Mu} {Q : DQ} {n : Int} {ts : List T3} {c s : List Int} {cs : List (List Int)} {sl : Sl} {ds : List PyData} {D : DEnds} {i j k : Nat}
theorem pu_law_holder : Pure ["cuts", "cut", "some", "at", "late", "place"] 2 ph_law_holder ds_law_holder := by
  intro ss μ Q' hl h
  obtain ⟨n, cs, c, rfl, ⟨hn, hc, cc⟩, h⟩ := h
  have few := hc.few
  have cl := cut_len cc hn
  simp only [ds_law_holder, startD, List.map_cons, List.map_nil, List.length_cons, List.length_nil, List.replicate, List.cons_append, List.nil_append]
  obtain ⟨C, c0, c1, ci⟩ := sq_en (μ := μ) (ρ := [some (.dat (.list (cs.map rowI))), some (.dat (rowI c)), none, none, none, none]) (i := 0) rfl sq_dat
  rw [en_rows] at ci
  have L := fun Q => lc_gen (β := Unit) (C := C) (i := iEn (aCons (dVar 0) aNil)) (g := gT 2 (gsCons (gN 3) (gsCons (gN 4) gsNil))) (t := dAnd (dTest (dOp DL.rNe (dVar 4) (dVar 1))) (dTru (dCB fAll (aCons (dLc (iSeq (dVar 1)) (gN 5) dYes (dOp (wIn id) (dVar 5) (dVar 4)) [5]) aNil)))) (e := dTup (aCons (dCB fLen (aCons (dVar 4) aNil)) (aCons (dVar 3) aNil))) (vs := [3, 4]) (μ := μ) (Q := Q) (ρ := [some (.dat (.list (cs.map rowI))), some (.dat (rowI c)), none, none, none, none]) (xs := cs.zipIdx) (fun p => PyData.tuple [.int (p.2 : Nat), rowI p.1]) (fun x => widerB x.1 c) (fun x => WL.pairD ((x.1.length : Nat), (x.2 : Nat))) ci (fun _ => c1 _) (sz (by rw [List.length_zipIdx]; omega)) (fun x hx acc R => by
    have hx1 : x.1 ∈ cs := List.mem_of_getElem? (List.mem_zipIdx_iff_getElem?.mp (show (x.1, x.2) ∈ cs.zipIdx from hx))
    have xc := hc.all _ hx1
    have xl := cut_len xc hn
    have fl : ∀ (ν : Mu) (Q : DQ), fLen [.dat (rowI x.1)] ν Q = Q (.dat (.int x.1.length)) ν := fun ν Q => by simp [rowI]
    have ne : ∀ (ν : Mu) (Q : DQ), DL.rNe (.dat (rowI x.1)) (.dat (rowI c)) ν Q = Q (.dat (.bool (!decide (x.1 = c)))) ν := fun ν Q => by
      show ((_ ∧ _) ∧ Q (.dat (.bool (!(PyData.eqv (rowI x.1) (rowI c))))) ν) = _
      rw [eqv_row]
      exact propext ⟨fun z => z.2, fun z => ⟨⟨sh_row.ok (by decide), sh_row.ok (by decide)⟩, z⟩⟩
    have L1 := fun (ν : Mu) Q => lc_seqM (g := gN 5) (e := dOp (wIn id) (dVar 5) (dVar 4)) (vs := [5]) (μ := ν) (Q := Q) (i := 1) (s := .dat (rowI c)) (ρ := [some (.dat (.list (cs.map rowI))), some (.dat (rowI c)), none, some (.dat (.int (x.2 : Nat))), some (.dat (rowI x.1)), none]) (xs := c) PyData.int (fun y => .bool (decide (y ∈ x.1))) rfl (sq_row c) (by omega) (fun y hy acc R => by
      simp [wipeD])
    have e1 : c.map (fun y => PyData.bool (decide (y ∈ x.1))) = (c.map fun y => decide (y ∈ x.1)).map PyData.bool := by rw [List.map_map]; rfl
    rw [e1] at L1
    have e2 : (c.map fun y => decide (y ∈ x.1)).all id = c.all fun y => decide (y ∈ x.1) := by rw [List.all_map]; rfl
    rw [wider_law cc xc]
    cases a : decide (x.1 = c) <;> cases b : c.all fun y => decide (y ∈ x.1) <;> simp [wipeD, ne, a, L1, e2, b, fl, WL.pairD, small_sz, -List.all_map, -List.map_map])
  have e1 : (cs.zipIdx.filter fun x => widerB x.1 c).map (fun x => WL.pairD ((x.1.length : Nat), (x.2 : Nat))) = (widP cs c).map WL.pairD := by unfold widP; rw [List.map_map]; rfl
  rw [e1] at L
  have shl : Sh 2 (.list ((widP cs c).map WL.pairD)) := Sh.list fun x hx => by obtain ⟨p, _, rfl⟩ := List.mem_map.mp hx; exact sh_pair
  rw [e_dSeq, e_dAsg]
  refine (L _).mpr ?_
  simp only [List.set_cons_succ, List.set_cons_zero]
  rw [e_dRet, e_dIf, e_dTest, e_dOp, e_dVar]
  simp only [List.getElem?_cons_zero, List.getElem?_cons_succ]
  rw [e_dLst, e_aNil]
  simp only [e_datsNil]
  refine ⟨Nat.zero_le _, ?_⟩
  show DL.rNe _ (.dat (.list [])) _ _
  rw [ne_nilD shl (by decide)]
  try dsimp only
  unfold holdD at h
  cases e : (widP cs c).map WL.pairD with
  | nil =>
    rw [e] at h
    rw [if_neg (show ¬ (!([] : List PyData).isEmpty) = true by decide), e_dC, e_finD, List.take_length]
    exact h
  | cons d ds =>
    rw [e] at h
    rw [if_pos (show (!(d :: ds).isEmpty) = true from rfl), ← e, e_dOp, e_dCB, e_aCons, e_dVar]
    simp only [List.getElem?_cons_zero, List.getElem?_cons_succ]
    rw [e_aNil]
    simp only [e_dC]
    rw [min_sec _ e, e_finD, List.take_length]
    exact h
theorem c_law_holder (hn : n ≤ 8) (hc : CutsOk n cs) (cc : Cut n c) : ph_law_holder [.dat (.list (cs.map rowI)), .dat (rowI c)] ν Q = Q (.dat (holdD cs c)) ν := propext ⟨fun ⟨_, _, _, e, _, h⟩ => by
  obtain ⟨e1, e2⟩ := dr_inj e
  have e3 := (List.map_inj_right (fun _ _ h => rowI_inj h)).mp (PyData.list.inj e1)
  subst e3
  cases rowI_inj (dr_inj e2).1
  exact h, fun h => ⟨n, cs, c, rfl, ⟨hn, hc, cc⟩, h⟩⟩
theorem next_rowsL : ∀ {cs : List (List Int)}, NextOk (cs.map rowI)
  | [] => trivial
  | [_] => trivial
  | a :: b :: r => ⟨ord_row, next_rowsL (cs := b :: r)⟩
def badT : DT := dOr (dNot (dTru (dCall 1 WL.ph_is_rising (aCons (dVar 1) aNil)))) (dTest (dOp (DL.rIs true) (dCall 1 ph_first_crossing (aCons (dVar 1) aNil)) (dC .none)))
def holdersE : DE := dLc (iRg1 (aCons (dCB fLen (aCons (dVar 1) aNil)) aNil)) (gN 2) dYes (dCall 2 ph_holder (aCons (dVar 1) (aCons (dVar 2) aNil))) [2]
theorem holders_eq : ds_holders = dSeq (dDrop (dCall 2 ph_check_cuts (aCons (dVar 0) (aCons (dVar 1) aNil)))) (dSeq (dIfS badT dNever dNext) (dRet holdersE)) := rfl
theorem bad_t (hf : FewL cs) (hs : sl = .dat (.list (cs.map rowI)) ∨ sl = .dat (.tuple (cs.map rowI))) {v0 v2 : Option Sl} {R : Bool → Mu → Prop} (h : R (!decide (Calm cs)) μ) : badT [v0, some sl, v2] μ R := by
  have sq : Sq μ sl (cs.map rowI) := by rcases hs with rfl | rfl <;> exact ⟨rfl, by simp [rd]⟩
  have few := hf.1
  unfold badT
  rw [e_dOr, e_dNot]
  simp only [e_dTru, e_dCall, e_aCons, e_aNil, e_dVar, List.getElem?_cons_zero, List.getElem?_cons_succ]
  refine ⟨rfl, c_is_rising hs next_rowsL (by rw [List.length_map]; omega) ?_⟩
  refine ⟨trivial, ?_⟩
  show if (!risingB (cs.map rowI)) = true then _ else _
  cases e : risingB (cs.map rowI) with
  | false =>
    rw [if_pos (show (!false) = true from rfl)]
    have : decide (Calm cs) = false := decide_eq_false fun z => by rw [z.1] at e; cases e
    rw [this] at h
    exact h
  | true =>
    rw [if_neg (by decide), e_dTest, e_dOp, e_dCall, e_aCons, e_dVar]
    simp only [List.getElem?_cons_zero, List.getElem?_cons_succ]
    rw [e_aNil]
    refine ⟨rfl, u_first hf sq ?_⟩
    rw [e_dC, is_not]
    have : decide (Calm cs) = (firstX cs).isNone := by
      rw [Bool.eq_iff_iff, decide_eq_true_iff, Option.isNone_iff_eq_none]
      exact ⟨fun z => z.2, fun z => ⟨e, z⟩⟩
    rw [this] at h
    cases f : firstX cs <;> rw [f] at h <;> exact h
theorem holders_e (hf : FewL cs) (hs : Sq μ sl (cs.map rowI)) {v0 v2 : Option Sl} : holdersE [v0, some sl, v2] μ Q = Q (.dat (.list (cs.map (holdD cs)))) μ := by
  have few := hf.1
  have e0 : rgI 0 (((cs.map rowI).length : Nat) : Int).toNat = ((List.range cs.length).map fun (j : Nat) => PyData.int (j : Nat)).map .dat := by
    rw [Int.toNat_natCast, List.length_map, List.map_map]
    have := rg_nats 0 cs.length
    rw [List.range_eq_range']
    exact this
  have L := lc_gen (β := Unit) (C := fun _ => True) (i := iRg1 (aCons (dCB fLen (aCons (dVar 1) aNil)) aNil)) (g := gN 2) (t := dYes) (e := dCall 2 ph_holder (aCons (dVar 1) (aCons (dVar 2) aNil))) (vs := [2]) (μ := μ) (Q := Q) (ρ := [v0, some sl, v2]) (xs := List.range cs.length) (fun (j : Nat) => PyData.int (j : Nat)) (fun _ => true) (fun j => holdD cs (cs.getD j [])) (fun R => by
    unfold iRg1
    simp only [e_aCons, e_aNil, e_dCB, e_dVar, List.getElem?_cons_zero, List.getElem?_cons_succ]
    rw [sq_len hs]
    show (_ ∧ R (rgI 0 (((cs.map rowI).length : Nat) : Int).toNat) _ μ) = _
    rw [e0]
    exact propext ⟨fun z => z.2, fun z => ⟨by rw [List.length_map]; omega, z⟩⟩) (fun _ => trivial) (sz (by rw [List.length_range]; omega)) (fun j hj acc R => by
    have jl := List.mem_range.mp hj
    have ch : ∀ (Q : DQ), ph_holder [sl, .dat (.int (j : Nat))] (μ ++ [Cell.lst acc]) Q = Q (.dat (holdD cs (cs.getD j []))) (μ ++ [Cell.lst acc]) := fun Q => propext ⟨fun ⟨s', cs', i', e, _, hq, z⟩ => by
      obtain ⟨e1, e2⟩ := List.cons.inj e
      subst e1
      have e3 := (dr_inj e2).1
      have e4 : i' = j := by
        have := PyData.int.inj e3
        omega
      subst e4
      have e5 : cs'.map rowI = cs.map rowI := by
        rcases hq.2 with g | g <;> rcases (hs.more (ν := [Cell.lst acc])).2 with g2 | g2 <;> rw [g] at g2 <;> first | exact PyData.list.inj (Option.some.inj g2) | exact PyData.tuple.inj (Option.some.inj g2) | cases g2
      have e6 : cs' = cs := (List.map_inj_right (fun _ _ h => rowI_inj h)).mp e5
      subst e6
      exact z, fun z => c_holder hf jl hs.more z⟩
    simp [wipeD, dYes, ch])
  rw [List.filter_eq_self.mpr (fun _ _ => rfl)] at L
  have e1 : (List.range cs.length).map (fun j => holdD cs (cs.getD j [])) = cs.map (holdD cs) := by
    refine List.ext_getElem? fun i => ?_
    by_cases h : i < cs.length
    · rw [List.getElem?_map, List.getElem?_range h, List.getElem?_map, List.getElem?_eq_getElem h]
      show some (holdD cs (cs.getD i [])) = some (holdD cs cs[i])
      rw [List.getD_eq_getElem?_getD, List.getElem?_eq_getElem h]
      rfl
    · rw [List.getElem?_eq_none (by rw [List.length_map, List.length_range]; omega), List.getElem?_eq_none (by rw [List.length_map]; omega)]
  rw [e1] at L
  exact L
theorem pu_holders : Pure ["web", "cuts", "at"] 2 ph_holders ds_holders := by
  intro ss μ Q' hl h
  obtain ⟨n, ts, s, cs, rfl, ⟨hw, hc, calm⟩, hs, h⟩ := h
  have sq : Sq μ s (cs.map rowI) := by rcases hs with rfl | rfl <;> exact ⟨rfl, by simp [rd]⟩
  rw [holders_eq]
  simp only [startD, List.map_cons, List.map_nil, List.length_cons, List.length_nil, List.replicate, List.cons_append, List.nil_append, List.append_nil]
  rw [e_dSeq, e_dDrop, e_dCall, e_aCons, e_dVar]
  simp only [List.getElem?_cons_zero, List.getElem?_cons_succ]
  rw [e_aCons, e_dVar]
  simp only [List.getElem?_cons_zero, List.getElem?_cons_succ]
  rw [e_aNil]
  refine ⟨rfl, u_check_cuts hw hc sq ?_⟩
  try dsimp only
  rw [e_dSeq, e_dIfS]
  refine bad_t (few_of hw.hi hc) hs ?_
  rw [decide_eq_true calm, if_neg (by decide), e_dNext]
  dsimp only
  rw [e_dRet, holders_e (few_of hw.hi hc) sq]
  dsimp only
  rw [e_finD, List.take_length]
  exact h
theorem u_holders (hw : WebOk n ts) (hc : CutsOk n cs) (hk : Calm cs) (hs : sl = .dat (.list (cs.map rowI)) ∨ sl = .dat (.tuple (cs.map rowI))) (h : Q (.dat (.list (cs.map (holdD cs)))) μ) : ph_holders [.dat (webD n ts), sl] μ Q := ⟨n, ts, sl, cs, rfl, ⟨hw, hc, hk⟩, hs, h⟩
end
end K24
namespace K24
open PySem PySem.Spec PyProof.Rows L2 Evl DL
open WL
section
variable {μ ν : Mu} {Q : DQ} {n : Int} {ts : List T3} {c s : List Int} {cs : List (List Int)} {sl : Sl} {ds : List PyData} {D : DEnds} {i j k : Nat}
theorem pu_law_pick : Pure ["pot", "some"] 2 ph_law_pick ds_law_pick := by
  intro ss μ Q' hl h
  obtain ⟨k, s, ds, rfl, hp, hr, ⟨h0, h1⟩, h⟩ := h
  have same : Ch k μ μ := ⟨hp, rfl, fun _ _ => rfl⟩
  simp only [ds_law_pick, startD, List.map_cons, List.map_nil, List.length_cons, List.length_nil, List.replicate, List.cons_append, List.nil_append, List.append_nil]
  rw [e_dRet, e_dOp, e_dVar]
  simp only [List.getElem?_cons_zero, List.getElem?_cons_succ]
  rw [e_dCall, e_aCons, e_dVar]
  simp only [List.getElem?_cons_zero, List.getElem?_cons_succ]
  rw [e_aCons, e_dCB, e_aCons, e_dVar]
  simp only [List.getElem?_cons_zero, List.getElem?_cons_succ]
  have sq : ∀ μ', Ch k μ μ' → Sq μ' s ds := fun μ' c => ⟨(hr μ' c).2, .inl (hr μ' c).1⟩
  rw [e_aNil, sq_len (sq μ same), e_aNil]
  refine ⟨rfl, k, _, rfl, hp, ⟨by omega, by omega⟩, fun x ν x0 x1 c1 => ?_⟩
  have hx : x.toNat < ds.length := by omega
  have ex : x = ((x.toNat : Nat) : Int) := by omega
  rw [ex]
  try dsimp only
  rw [sq_ix (sq ν c1) (List.getElem?_eq_getElem hx), e_finD, List.take_of_length_le (by have := c1.2.1; omega)]
  exact h _ ν (List.getElem_mem hx) c1
theorem sh_two {c s : List Int} : Sh 2 (twoD c s) := Sh.tup fun x hx => by
  simp only [List.mem_cons, List.mem_singleton, List.not_mem_nil, or_false] at hx
  rcases hx with rfl | rfl <;> exact sh_row
theorem unc_form (c s : List Int) : ∃ a b, uncD c s = twoD a b ∧ (crossB c s = true → a = interL c s ∧ b = unionL c s) ∧ (crossB c s = false → a = c ∧ b = s) := by
  unfold uncD
  cases e : crossB c s with
  | true => exact ⟨_, _, rfl, fun _ => ⟨rfl, rfl⟩, fun h => by cases h⟩
  | false => exact ⟨_, _, rfl, fun h => (by cases h), fun _ => ⟨rfl, rfl⟩⟩
theorem u_cuts_cross (hw : WebOk n ts) (h1 : Cut n c) (h2 : Cut n s) (h3 : Small2 c s) (h : Q (.dat (.bool (crossB c s))) μ) : ph_cuts_cross [.dat (webD n ts), .dat (rowI c), .dat (rowI s)] μ Q := ⟨n, ts, c, s, rfl, ⟨hw, h1, h2, h3⟩, h⟩
theorem u_uncrossed (hw : WebOk n ts) (h1 : Cut n c) (h2 : Cut n s) (h3 : Small2 c s) (h : Q (.dat (uncD c s)) μ) : ph_uncrossed [.dat (webD n ts), .dat (rowI c), .dat (rowI s)] μ Q := ⟨n, ts, c, s, rfl, ⟨hw, h1, h2, h3⟩, h⟩
def roomsE : DE := dLc (iSeq (dOp DL.rAdd (dTup (aCons (dVar 1) (aCons (dVar 2) aNil))) (dVar 4))) (gN 7) dYes (dCall 2 WL.ph_law_over (aCons (dOp DL.rIx (dVar 0) (dC (.int 2))) (aCons (dVar 7) aNil))) [7]
theorem rooms_e (hw : WebOk n ts) {a b : List Int} (hsm : SmallL c ∧ SmallL s ∧ SmallL a ∧ SmallL b) {v3 v5 v6 v7 : Option Sl} : roomsE [some (.dat (webD n ts)), some (.dat (rowI c)), some (.dat (rowI s)), v3, some (.dat (twoD a b)), v5, v6, v7] μ Q = Q (.dat (.list [.int (roomL ts c), .int (roomL ts s), .int (roomL ts a), .int (roomL ts b)])) μ := by
  have most := hw.rows.most
  have ci : ∀ R, iSeq (dOp DL.rAdd (dTup (aCons (dVar 1) (aCons (dVar 2) aNil))) (dVar 4)) [some (.dat (webD n ts)), some (.dat (rowI c)), some (.dat (rowI s)), v3, some (.dat (twoD a b)), v5, v6, v7] μ R = R (([c, s, a, b].map rowI).map .dat) (fun _ => True) μ := fun R => by
    unfold iSeq
    simp only [e_dOp, e_dTup, e_aCons, e_aNil, e_dVar, List.getElem?_cons_zero, List.getElem?_cons_succ]
    have ad : ∀ (Q : DQ), DL.rAdd (.dat (.tuple [rowI c, rowI s])) (.dat (twoD a b)) μ Q = Q (.dat (.tuple [rowI c, rowI s, rowI a, rowI b])) μ := fun Q => by
      show (_ ∧ Q (.dat (.tuple ([rowI c, rowI s] ++ [rowI a, rowI b]))) μ) = _
      exact propext ⟨fun z => z.2, fun z => ⟨sz (by simp), z⟩⟩
    show (2 ≤ sizeLine ∧ DL.rAdd (.dat (.tuple [rowI c, rowI s])) (.dat (twoD a b)) μ _) = _
    rw [ad]
    exact propext ⟨fun z => z.2, fun z => ⟨sz (by simp), z⟩⟩
  have L := lc_gen (β := Unit) (C := fun _ => True) (g := gN 7) (t := dYes) (e := dCall 2 WL.ph_law_over (aCons (dOp DL.rIx (dVar 0) (dC (.int 2))) (aCons (dVar 7) aNil))) (vs := [7]) (μ := μ) (Q := Q) (ρ := [some (.dat (webD n ts)), some (.dat (rowI c)), some (.dat (rowI s)), v3, some (.dat (twoD a b)), v5, v6, v7]) (xs := [c, s, a, b]) rowI (fun _ => true) (fun c => .int (roomL ts c)) ci (fun _ => trivial) (sz (by simp)) (fun x hx acc R => by
    have sx : SmallL x := by
      simp only [List.mem_cons, List.not_mem_nil, or_false] at hx
      rcases hx with rfl | rfl | rfl | rfl
      · exact hsm.1
      · exact hsm.2.1
      · exact hsm.2.2.1
      · exact hsm.2.2.2
    have ht : ts.length ≤ 100 := by omega
    simp [wipeD, dYes, sx, ht])
  rw [List.filter_eq_self.mpr (fun _ _ => rfl)] at L
  exact L
def crossE : DE := dLst (aCons (dCall 3 ph_cuts_cross (aCons (dVar 0) (aCons (dVar 1) (aCons (dVar 2) aNil)))) (aCons (dCallK 0 [2, 1, 0] 3 ph_cuts_cross aNil (aCons (dVar 2) (aCons (dVar 1) (aCons (dVar 0) aNil)))) aNil))
def dueT : DT := dTest (dOp DL.rNe (dCB fRepr (aCons (dVar 5) aNil)) (dCB fRepr (aCons (dLst (aCons (dVar 3) (aCons (dVar 3) aNil))) aNil)))
def uncT : DT := dOr (dTest (dOp DL.rNe (dCall 3 ph_uncrossed (aCons (dVar 0) (aCons (dVar 1) (aCons (dVar 2) aNil)))) (dVar 4))) (dTest (dOp DL.rNe (dCallK 0 [2, 1, 0] 3 ph_uncrossed aNil (aCons (dVar 2) (aCons (dVar 1) (aCons (dVar 0) aNil)))) (dVar 4)))
def lastE : DE := dOp wLe (dOp DL.rAdd (dOp DL.rIx (dVar 6) (dC (.int 2))) (dOp DL.rIx (dVar 6) (dC (.int 3)))) (dOp DL.rAdd (dOp DL.rIx (dVar 6) (dC (.int 0))) (dOp DL.rIx (dVar 6) (dC (.int 1))))
theorem two_eq : ds_law_two_right = dSeq (dPar 3 4 (aCons (dCall 2 ph_law_do_cross (aCons (dVar 1) (aCons (dVar 2) aNil))) (aCons (dCall 2 ph_law_uncrossed (aCons (dVar 1) (aCons (dVar 2) aNil))) aNil)))
    (dSeq (dAsg crossE 5) (dSeq (dIfS dueT (dRet (dC (.bool false))) dNext) (dSeq (dIfS uncT (dRet (dC (.bool false))) dNext) (dSeq (dAsg roomsE 6) (dRet lastE))))) := rfl
theorem pu_law_two_right : Pure ["web", "cut", "second", "due", "late", "told", "rooms", "one"] 3 ph_law_two_right ds_law_two_right := by
  intro ss μ Q' hl h
  obtain ⟨n, ts, c, s, rfl, ⟨hw, h1, h2⟩, h⟩ := h
  have hi := hw.hi
  have lc := cut_len h1 hi
  have ls := cut_len h2 hi
  have sm : Small2 c s := ⟨by omega, by omega⟩
  have t2 : Two2 c s := ⟨sm, cut_nd h1, cut_nd h2⟩
  rw [two_eq]
  simp only [startD, List.map_cons, List.map_nil, List.length_cons, List.length_nil, List.replicate, List.cons_append, List.nil_append]
  rw [e_dSeq, e_dPar, e_aCons, e_dCall, e_aCons, e_dVar]
  simp only [List.getElem?_cons_zero, List.getElem?_cons_succ]
  rw [e_aCons, e_dVar]
  simp only [List.getElem?_cons_zero, List.getElem?_cons_succ]
  rw [e_aNil]
  refine ⟨rfl, ?_⟩
  rw [c_law_do_cross]
  refine ⟨t2, ?_⟩
  rw [e_aCons, e_dCall, e_aCons, e_dVar]
  simp only [List.getElem?_cons_zero, List.getElem?_cons_succ]
  rw [e_aCons, e_dVar]
  simp only [List.getElem?_cons_zero, List.getElem?_cons_succ]
  rw [e_aNil]
  refine ⟨rfl, u_unc t2 (by omega) ?_⟩
  rw [e_aNil]
  try dsimp only
  simp only [List.set_cons_succ, List.set_cons_zero]
  obtain ⟨a, b, eu, eu1, eu2⟩ := unc_form c s
  rw [e_dSeq, e_dAsg]
  unfold crossE
  rw [e_dLst, e_aCons, e_dCall, e_aCons, e_dVar]
  simp only [List.getElem?_cons_zero, List.getElem?_cons_succ]
  rw [e_aCons, e_dVar]
  simp only [List.getElem?_cons_zero, List.getElem?_cons_succ]
  rw [e_aCons, e_dVar]
  simp only [List.getElem?_cons_zero, List.getElem?_cons_succ]
  rw [e_aNil]
  refine ⟨rfl, u_cuts_cross hw h1 h2 sm ?_⟩
  rw [e_aCons, e_dCallK, e_aNil, e_aCons, e_dVar]
  simp only [List.getElem?_cons_zero, List.getElem?_cons_succ]
  rw [e_aCons, e_dVar]
  simp only [List.getElem?_cons_zero, List.getElem?_cons_succ]
  rw [e_aCons, e_dVar]
  simp only [List.getElem?_cons_zero, List.getElem?_cons_succ]
  rw [e_aNil]
  show (3 = 3 ∧ ph_cuts_cross [.dat (webD n ts), .dat (rowI c), .dat (rowI s)] _ _)
  refine ⟨rfl, u_cuts_cross hw h1 h2 sm ?_⟩
  rw [e_aNil]
  show 2 ≤ sizeLine ∧ _
  refine ⟨sz (by simp), ?_⟩
  simp only [List.set_cons_succ, List.set_cons_zero]
  have okb : okR (.list [.bool (crossB c s), .bool (crossB c s)]) := ok_bools (bs := [crossB c s, crossB c s]) (by simp)
  rw [e_dSeq, e_dIfS]
  unfold dueT
  rw [e_dTest, e_dOp, e_dCB, e_aCons, e_dVar]
  simp only [List.getElem?_cons_zero, List.getElem?_cons_succ]
  rw [e_aNil]
  show fRepr [.dat (.list [.bool (crossB c s), .bool (crossB c s)])] _ _
  rw [repr_of okb, e_dCB, e_aCons, e_dLst, e_aCons, e_dVar]
  simp only [List.getElem?_cons_zero, List.getElem?_cons_succ]
  rw [e_aCons, e_dVar]
  simp only [List.getElem?_cons_zero, List.getElem?_cons_succ]
  rw [e_aNil]
  show 2 ≤ sizeLine ∧ _
  refine ⟨sz (by simp), ?_⟩
  rw [e_aNil]
  show fRepr [.dat (.list [.bool (crossB c s), .bool (crossB c s)])] _ _
  rw [repr_of okb, WL.ne_str]
  dsimp only
  rw [if_neg (by decide), e_dNext]
  dsimp only
  rw [e_dSeq, e_dIfS]
  unfold uncT
  rw [e_dOr, e_dTest, e_dOp, e_dCall, e_aCons, e_dVar]
  simp only [List.getElem?_cons_zero, List.getElem?_cons_succ]
  rw [e_aCons, e_dVar]
  simp only [List.getElem?_cons_zero, List.getElem?_cons_succ]
  rw [e_aCons, e_dVar]
  simp only [List.getElem?_cons_zero, List.getElem?_cons_succ]
  rw [e_aNil]
  refine ⟨rfl, u_uncrossed hw h1 h2 sm ?_⟩
  rw [e_dVar]
  simp only [List.getElem?_cons_zero, List.getElem?_cons_succ]
  rw [eu, DL.ne_same sh_two (by decide)]
  dsimp only
  rw [if_neg (by decide), e_dTest, e_dOp, e_dCallK, e_aNil, e_aCons, e_dVar]
  simp only [List.getElem?_cons_zero, List.getElem?_cons_succ]
  rw [e_aCons, e_dVar]
  simp only [List.getElem?_cons_zero, List.getElem?_cons_succ]
  rw [e_aCons, e_dVar]
  simp only [List.getElem?_cons_zero, List.getElem?_cons_succ]
  rw [e_aNil]
  show (3 = 3 ∧ ph_uncrossed [.dat (webD n ts), .dat (rowI c), .dat (rowI s)] _ _)
  refine ⟨rfl, u_uncrossed hw h1 h2 sm ?_⟩
  rw [e_dVar]
  simp only [List.getElem?_cons_zero, List.getElem?_cons_succ]
  rw [eu, DL.ne_same sh_two (by decide)]
  dsimp only
  rw [if_neg (by decide), e_dNext]
  dsimp only
  have smab : SmallL c ∧ SmallL s ∧ SmallL a ∧ SmallL b := by
    refine ⟨by unfold SmallL; omega, by unfold SmallL; omega, ?_⟩
    cases e : crossB c s with
    | true =>
      obtain ⟨rfl, rfl⟩ := eu1 e
      have := len_sum (cut_nd h1) (cut_nd h2)
      exact ⟨by unfold SmallL; omega, by unfold SmallL; omega⟩
    | false =>
      obtain ⟨rfl, rfl⟩ := eu2 e
      exact ⟨by unfold SmallL; omega, by unfold SmallL; omega⟩
  rw [e_dSeq, e_dAsg, rooms_e hw smab]
  simp only [List.set_cons_succ, List.set_cons_zero]
  have i0 : ∀ (Q : DQ), DL.rIx (.dat (.list [.int (roomL ts c), .int (roomL ts s), .int (roomL ts a), .int (roomL ts b)])) (.dat (.int 0)) μ Q = Q (.dat (.int (roomL ts c))) μ := fun Q => rix_l rfl
  have i1 : ∀ (Q : DQ), DL.rIx (.dat (.list [.int (roomL ts c), .int (roomL ts s), .int (roomL ts a), .int (roomL ts b)])) (.dat (.int 1)) μ Q = Q (.dat (.int (roomL ts s))) μ := fun Q => rix_l rfl
  have i2 : ∀ (Q : DQ), DL.rIx (.dat (.list [.int (roomL ts c), .int (roomL ts s), .int (roomL ts a), .int (roomL ts b)])) (.dat (.int 2)) μ Q = Q (.dat (.int (roomL ts a))) μ := fun Q => rix_l rfl
  have i3 : ∀ (Q : DQ), DL.rIx (.dat (.list [.int (roomL ts c), .int (roomL ts s), .int (roomL ts a), .int (roomL ts b)])) (.dat (.int 3)) μ Q = Q (.dat (.int (roomL ts b))) μ := fun Q => rix_l rfl
  have ad : ∀ (a b : Int) (ν : Mu) (Q : DQ), DL.rAdd (.dat (.int a)) (.dat (.int b)) ν Q = Q (.dat (.int (a + b))) ν := fun a b ν Q => by simp
  have le : ∀ (a b : Int) (ν : Mu) (Q : DQ), wLe (.dat (.int a)) (.dat (.int b)) ν Q = Q (.dat (.bool (decide (a ≤ b)))) ν := fun a b ν Q => by simp
  have fin : roomL ts a + roomL ts b ≤ roomL ts c + roomL ts s := by
    cases e : crossB c s with
    | true =>
      obtain ⟨rfl, rfl⟩ := eu1 e
      exact room_sub c s fun t ht => by have := hw.rows.in_ t ht; omega
    | false =>
      obtain ⟨rfl, rfl⟩ := eu2 e
      omega
  unfold lastE
  rw [e_dRet]
  simp only [e_dOp, e_dVar, e_dC, List.getElem?_cons_zero, List.getElem?_cons_succ, i0, i1, i2, i3, ad, le]
  rw [decide_eq_true fin]
  show finQ μ.length Q' (.dat (.bool true)) μ
  rw [e_finD, List.take_length]
  exact h
theorem rows_ok (hn : n ≤ 8) (hc : CutsOk n cs) : okR (.list (cs.map rowI)) := (Rp.list (w := 294) (m := 12) (fun d hd => by
  obtain ⟨c, hcm, rfl⟩ := List.mem_map.mp hd
  have cc := hc.all c hcm
  have cl := cut_len cc hn
  exact (Rp.tup (w := 41) (m := 7) (fun d hd => by
    obtain ⟨x, hx, rfl⟩ := List.mem_map.mp hd
    have := cc.2.1 x hx
    exact Rp.int (by omega)) (by rw [List.length_map]; omega)).mono (by decide)) (by rw [List.length_map]; exact hc.few)).okR (by decide) sh_rows (by decide)
theorem u_two_right (hw : WebOk n ts) (h1 : Cut n c) (h2 : Cut n s) (h : Q (.dat (.bool true)) μ) : ph_law_two_right [.dat (webD n ts), .dat (rowI c), .dat (rowI s)] μ Q := ⟨n, ts, c, s, rfl, ⟨hw, h1, h2⟩, h⟩
end
end K24
namespace K24
open PySem PySem.Spec PyProof.Rows L2 Evl DL
open WL
def clsBody : Stmt → List Stmt
  | .ClassDef (body := b) .. => b
  | _ => []
abbrev s_init : Stmt := (clsBody (topS 4)).getD 0 (.Pass ⟨0, 0, 0, 0⟩)
def retE : Stmt → Expr
  | .Return (some e) _ => e
  | _ => .Constant .none 0 ⟨0, 0, 0, 0⟩
theorem sc_init : FnScope ["self", "value"] ["self", "value"] (defScope s_init) := ⟨rfl, rfl, rfl, by decide +kernel, rfl, by decide +kernel, by decide +kernel⟩
section
variable {P : Program} {w : World} {K : PySem.W.Frag} {mg : Str → Option Value} {base : Heap} {C fI : Addr}
abbrev Err (K : PySem.W.Frag) (mg : Str → Option Value) (C fI : Addr) : Prop := ErrT K mg "InvalidCuts" "value" s_init "InvalidCuts.__init__" C fI
theorem init_ok {fd : FuncData} (T : Err K mg C fI) (F : Fun K "__init__" "InvalidCuts.__init__" s_init fI fd) : FnOk P w K mg base CX0 1 fI fd ["self", "value"] (spInit K "value" C) :=
  ok_init rfl T F sc_init fun cdv A outer s H E => pss_one (ps_ost (pv 0) (pv 1))
theorem ok_holders {f : Addr} {fd : FuncData} (F : Fun K "holders" "holders" s_holders f fd) (z_len : mg "len" = none) (z_range : mg "range" = none) (T : Err K mg C fI) (o_check_cuts : Own P w K mg base "check_cuts" s_check_cuts ["web", "cuts"] 7 2 ph_check_cuts) (o_is_rising : Own P w K mg base "is_rising" s_is_rising ["row"] 1 1 WL.ph_is_rising)
    (o_first_crossing : Own P w K mg base "first_crossing" s_first_crossing ["cuts"] 3 1 ph_first_crossing) (o_holder : Own P w K mg base "holder" s_holder ["cuts", "at"] 2 2 ph_holder) :
    FnG P w K mg base (L2.CX P w) 8 f fd ["web", "cuts"] (SpX K 2 "value" C phX_holders) := by
  obtain ⟨fdI, FI⟩ := T.fn
  have G1 : FnOk P w K mg base CX0 1 fI fdI ["self", "value"] (spInit K "value" C) := init_ok T FI
  refine fnG_of F sc_holders (fun vs H Q E h => ?_) (fun cdv A outer s H vs Q E hr h => ?_)
  · obtain ⟨_, _, _, _, _, h, _⟩ := h
    exact h
  · obtain ⟨W, ss, μ, Q', R', hl, hss, r, ⟨n, ts, cs, rfl, ⟨hw, hc⟩, bad, hR⟩, q, qE⟩ := h
    have b2 : Binds K fdI ["self", "value"] [] := FI.binds (ps := ["self", "value"]) fun _ _ _ _ _ _ us hl => match us, hl with | [_, _], _ => rfl
    obtain ⟨t, p, l⟩ := raiserH (XE := E) (X := cxOf (L2.CX P w) P w K mg base ["web", "cuts", "at"] "holders" (defScope s_holders) f cdv A outer s H E) (takes_of rfl rfl rfl rfl) T G1 (hr.r.mono (show 0 + 2 ≤ 7 by decide)) b2
      (pd_expr (pd_call o_check_cuts (hr.mono (by decide)) (fun _ _ _ _ _ _ us hl => match us, hl with | [_, _], _ => rfl) (pda_cons (pd_var 0) (pda_cons (pd_var 1) pda_nil))))
      (PDW.pdt (pdw_or (pdt_not (pdt_tru (pd_call o_is_rising (hr.mono (by decide)) (fun _ _ _ _ _ _ us hl => match us, hl with | [_], _ => rfl) (pda_cons (pd_var 1) pda_nil)))) (pdw_or1 (pdt_cmp op_isnotV lr_isnot (pd_call o_first_crossing (hr.mono (by decide)) (fun _ _ _ _ _ _ us hl => match us, hl with | [_], _ => rfl) (pda_cons (pd_var 1) pda_nil)) pd_non (nomark _)))))
      (pda_cons (pd_var 1) pda_nil)
      (show PD _ (retE ((defBody s_holders).getD 2 (.Pass ⟨0, 0, 0, 0⟩))) _ from pd_lcQ fin_frz [("at", 2)] rfl sc_holders.nd (pdi_range1 (pda_cons (pd_len  (pda_cons (pd_var 1) pda_nil) z_len) pda_nil) z_range) (blkOk_by (N := ["web", "cuts", "at"]) (by show blkC _ (defScope s_holders) _ _ = true; decide +kernel)) (ctg_name 2 (by decide) (fun _ _ _ _ _ => pg_name (i := 2) sc_holders.nd rfl (Or.inl rfl))) ctst_nil (fun _ _ _ _ _ => (pd_call o_holder (hr.mono (by decide)) (fun _ _ _ _ _ _ us hl => match us, hl with | [_, _], _ => rfl) (pda_cons (pd_var 1) (pda_cons (pd_var 2) pda_nil)))))
    refine ⟨t, p, l _ μ Q' R' ?_ W _ H (env_start hss) r _ Q q qE⟩
    have hf := few_of hw.hi hc
    simp only [startD, List.map_cons, List.map_nil, List.length_cons, List.length_nil, List.replicate, List.cons_append, List.nil_append]
    rw [e_dDrop, e_dCall, e_aCons, e_dVar]
    simp only [List.getElem?_cons_zero, List.getElem?_cons_succ]
    rw [e_aCons, e_dVar]
    simp only [List.getElem?_cons_zero, List.getElem?_cons_succ]
    rw [e_aNil]
    refine ⟨rfl, u_check_cuts hw hc sq_dat ?_⟩
    show badT [some (.dat (webD n ts)), some (.dat (.list (cs.map rowI))), none] μ _
    refine bad_t hf (.inl rfl) ?_
    rw [decide_eq_false bad, if_pos (show (!false) = true from rfl), e_aCons, e_dVar]
    simp only [List.getElem?_cons_zero, List.getElem?_cons_succ]
    rw [e_aNil]
    exact ⟨_, rfl, hR⟩
theorem own_holders (hm : ∃ f fd, Fun K "holders" "holders" s_holders f fd ∧ mg "holders" = some (.ref f)) (z_len : mg "len" = none) (z_range : mg "range" = none) (T : Err K mg C fI) (o_check_cuts : Own P w K mg base "check_cuts" s_check_cuts ["web", "cuts"] 7 2 ph_check_cuts) (o_is_rising : Own P w K mg base "is_rising" s_is_rising ["row"] 1 1 WL.ph_is_rising)
    (o_first_crossing : Own P w K mg base "first_crossing" s_first_crossing ["cuts"] 3 1 ph_first_crossing) (o_holder : Own P w K mg base "holder" s_holder ["cuts", "at"] 2 2 ph_holder) :
    OwnX P w K mg base "holders" s_holders ["web", "cuts"] 8 2 "value" C phX_holders := by
  obtain ⟨f, fd, F, hf⟩ := hm
  exact ⟨f, fd, F, ok_holders F z_len z_range T o_check_cuts o_is_rising o_first_crossing o_holder, hf⟩
def ds_law_is_refused : DS := dSeq (dTryR 2 2 phX_holders (aCons (dVar 0) (aCons (dVar 1) aNil)) (dCB fRepr (aCons (dVar 1) aNil))) (dRet (dC (.bool false)))
theorem pu_law_is_refused : Pure ["web", "cuts", "e"] 2 ph_law_is_refused ds_law_is_refused := by
  intro ss μ Q' hl h
  obtain ⟨n, ts, cs, rfl, ⟨hw, hc, bad⟩, h⟩ := h
  have ok := rows_ok hw.hi hc
  simp only [ds_law_is_refused, e_dSeq, startD, dTryR, e_aCons, e_aNil, e_dVar, List.map_cons, List.map_nil, List.length_cons, List.length_nil, List.replicate, List.cons_append, List.nil_append, List.getElem?_cons_succ, List.getElem?_cons_zero]
  refine ⟨by decide, trivial, n, ts, cs, rfl, ⟨hw, hc⟩, bad, _, rfl, ok, ?_⟩
  rw [e_dCB, e_aCons, e_dVar]
  simp only [List.set_cons_succ, List.set_cons_zero, List.getElem?_cons_succ, List.getElem?_cons_zero]
  rw [e_aNil, repr_of ok, WL.eq_str, e_finD, List.take_length]
  exact h
theorem pd_reprU {X : Cx} {e : Expr} {es : List Expr} {p pos : Pos} (hu : X.A.units + 128 < cLine) (hgd : X.A.guards = some []) {a : DA} (ha : PDA X (e :: es) a) (hm : X.mg "repr" = none) (hg : Gl X "repr" := by rfl)
    (he : starEach (e :: es) X.env = (false, eval e X.env) :: starEach es X.env := by rfl) (hpl : (backTo pos (starEach es X.env)).any (·.1) = false := by rfl) : PD X (.Call (.Name "repr" p) (e :: es) [] pos) (dCB fRepr a) := by
  refine pd_cb (cr_repr hu hgd) (fun xs μ Q' h W H vs r hs Q q => ?_) (by decide +kernel) ha hm hg (by decide) (by decide) he hpl
  obtain ⟨x, d, rfl, e1, h⟩ := arg1_of h
  obtain ⟨v, rfl, hx⟩ := slAll1 hs
  exact ⟨v, d, rfl, rd_dp r hx e1, h.1, q.str r h.2⟩
theorem ow_law_is_refused (hm : ∃ f fd, Fun K "_law_is_refused" "_law_is_refused" s_law_is_refused f fd ∧ mg "_law_is_refused" = some (.ref f)) (z_repr : mg "repr" = none) (T : Err K mg C fI) (o : OwnX P w K mg base "holders" s_holders ["web", "cuts"] 8 2 "value" C phX_holders) :
    Own P w K mg base "_law_is_refused" s_law_is_refused ["web", "cuts"] 9 2 ph_law_is_refused := by
  obtain ⟨f, fd, F, hf⟩ := hm
  exact ⟨f, fd, F, okD F sc_law_is_refused rfl (fun cdv A outer s H E hr => (pds_cons (pd_tryR o T (hr.mono (by decide)) (fun _ _ _ _ _ _ us hl => match us, hl with | [_, _], _ => rfl) (fun pn xe => pa_cons (pv 0) (pa_cons (pv 1) pa_nil)) (la_cons (le_var 0) (la_cons (le_var 1) la_nil)) sc_law_is_refused.nd z_repr (fun a pn => pd_reprU hr.u128 hr.g (pda_cons (pd_var 1) pda_nil) z_repr) rfl) (pds_one (pd_ret pd_bl)))) pu_law_is_refused, hf⟩
end
end K24
namespace K24
open PySem PySem.Spec PyProof.Rows L2 Evl DL
open WL
open PySem.W (minD)
section
variable {μ ν M : Mu} {Q : DQ} {n : Int} {ts : List T3} {c s : List Int} {cs some_ : List (List Int)} {sl : Sl} {ds : List PyData} {D : DEnds} {i j k a t : Nat}
theorem pu_law_draw : Pure ["pot", "size", "digit"] 2 WL.ph_law_draw ds_law_draw := draw_gen (c1 := 40014) (c2 := 9623) (m1 := 2147483563) (m2 := 2147483629) (d := 19) (by constructor <;> decide)
theorem pu_law_pot : Pure ["script", "k", "cell", "low"] 2 WL.ph_law_pot ds_law_pot := pot_gen (a := 1171) (b := 677) (m1 := 2147483549) (c1 := 48271) (c2 := 9623) (c3 := 107) (m2 := 2147483563) (by constructor <;> decide)
theorem Mem.app (h : Mem μ M j cs) {xs : List Cell} : Mem μ (M ++ xs) j cs := by
  have l := (List.getElem?_eq_some_iff.mp h.at_).1
  have f := h.far
  exact ⟨by rw [List.take_append_of_le_length (by omega)]; exact h.old, h.far, by rw [List.getElem?_append_left l]; exact h.at_⟩
theorem Mem.set (h : Mem μ M j cs) (hne : t ≠ j) (ht : μ.length ≤ t) {x : Cell} : Mem μ (M.set t x) j cs := by
  refine ⟨?_, h.far, by rw [List.getElem?_set_ne hne]; exact h.at_⟩
  rw [List.take_set_of_le ht]
  exact h.old
theorem repr_c {d : PyData} (h : rd ν sl = some d) (ok : okR d) : fRepr [sl] ν Q = Q (.dat (.str d.shown)) ν := by
  unfold fRepr arg1
  simp only [h]
  exact propext ⟨fun z => z.2, fun z => ⟨ok, z⟩⟩
theorem tup_c (hv : isV sl = false) (h : rd ν sl = some (.list (cs.map rowI))) : fTuple [sl] ν Q = Q (.dat (.tuple (cs.map rowI))) ν := by
  unfold fTuple arg1
  simp only [h, hv]
  rfl
theorem sq_tup : Sq ν (.dat (.tuple (cs.map rowI))) (cs.map rowI) := ⟨rfl, .inr rfl⟩
theorem u_lam (hw : WebOk n ts) (hc : CutsOk n cs) (hs : Sq ν sl (cs.map rowI)) (h : Q (.dat (.bool (firstX cs).isNone)) ν) : ph_is_laminar [.dat (webD n ts), sl] ν Q := ⟨n, ts, sl, cs, rfl, ⟨hw, hc⟩, hs, h⟩
theorem u_made_dat (hw : WebOk n ts) (hc : CutsOk n cs) (hs : Sq ν sl (cs.map rowI)) (h : Q (.dat (.list ((lamL cs).map rowI))) ν) : ph_made_laminar [.dat (webD n ts), sl] ν Q := ⟨n, ts, sl, cs, rfl, ⟨hw, hc⟩, hs, .inl h⟩
theorem u_made_cell (hw : WebOk n ts) (hc : CutsOk n cs) (hs : Sq ν sl (cs.map rowI)) (h : Q (.cell ν.length) (ν ++ [.lst ((lamL cs).map rowI)])) : ph_made_laminar [.dat (webD n ts), sl] ν Q := ⟨n, ts, sl, cs, rfl, ⟨hw, hc⟩, hs, .inr h⟩
theorem u_refused (hw : WebOk n ts) (hc : CutsOk n cs) (bad : ¬ Calm cs) (h : Q (.dat (.bool true)) ν) : ph_law_is_refused [.dat (webD n ts), .dat (.list (cs.map rowI))] ν Q := ⟨n, ts, cs, rfl, ⟨hw, hc, bad⟩, h⟩
theorem ne_rowsC {s : Sl} (h : rd ν s = some (.list (cs.map rowI))) : DL.rNe s (.dat (.list (cs.map rowI))) ν Q = Q (.dat (.bool false)) ν := eqD_same sh_rows (by decide) h rfl
theorem is_yes {o : Option (Nat × Nat)} : DL.rIs false (.dat (optD o)) (.dat .none) ν Q = Q (.dat (.bool o.isNone)) ν := by cases o <;> rfl
theorem rising_up : ∀ {cs : List (List Int)}, cs.Pairwise (fun a b => ltL a b = true) → risingB (cs.map rowI) = true
  | [], _ => rfl
  | [_], _ => rfl
  | x :: y :: r, h => by
    have h1 := (List.pairwise_cons.mp h).1 y (List.mem_cons_self ..)
    have ih := rising_up (cs := y :: r) (List.pairwise_cons.mp h).2
    show (PySem.W.dataLt (rowI x) (rowI y) && risingB ((y :: r).map rowI)) = true
    rw [lt_row, h1, ih]
    rfl
theorem up_nd (h : cs.Pairwise (fun a b => ltL a b = true)) : cs.Nodup := h.imp fun {a b} h e => by
  subst e
  unfold ltL at h
  exact List.lt_irrefl _ (of_decide_eq_true h)
theorem rising_back (h : cs.Pairwise (fun a b => ltL a b = true)) (hl : 1 < cs.length) : risingB (cs.reverse.map rowI) = false := by
  have hr : cs.reverse.Pairwise (fun a b => ltL b a = true) := List.pairwise_reverse.mpr h
  have hl2 : 1 < cs.reverse.length := by rw [List.length_reverse]; exact hl
  generalize cs.reverse = l at *
  match l, hr, hl2 with
  | x :: y :: r, hr, _ =>
    have h1 := (List.pairwise_cons.mp hr).1 y (List.mem_cons_self ..)
    show (PySem.W.dataLt (rowI x) (rowI y) && risingB ((y :: r).map rowI)) = false
    rw [lt_row]
    have : ltL x y = false := by
      cases e : ltL x y with
      | false => rfl
      | true =>
        unfold ltL at e h1
        exact absurd (List.lt_trans (of_decide_eq_true e) (of_decide_eq_true h1)) (List.lt_irrefl _)
    rw [this]
    rfl
theorem set_ok (hc : CutsOk n cs) {ms : List (List Int)} (h : IsUpR cs ms) : CutsOk n ms := by
  refine ⟨fun c hcm => hc.all c ((h.2 c).mp hcm), ?_⟩
  have := nodupLen (up_nd h.1) fun x hx => (h.2 x).mp hx
  have := hc.few
  omega
theorem set_calm {ms : List (List Int)} (h : IsUpR cs ms) (hf : firstX cs = none) : Calm ms := by
  refine ⟨rising_up h.1, ?_⟩
  cases e : firstX ms with
  | none => rfl
  | some p => exact absurd hf (first_sets (fun c => (h.2 c).symm) (by rw [e]; exact fun z => by cases z))
theorem set_bad {ms : List (List Int)} (h : IsUpR cs ms) (hf : firstX cs ≠ none) : ¬ Calm ms := fun z => first_sets h.2 hf z.2
theorem rev_ok (hc : CutsOk n cs) : CutsOk n cs.reverse := ⟨fun c h => hc.all c (List.mem_reverse.mp h), by rw [List.length_reverse]; exact hc.few⟩
theorem hold_sh (l : List (List Int)) (hl : ∀ c ∈ l, c.length ≤ 1000) : ∀ d ∈ cs.map (holdD l), Sh 0 d := by
  intro d hd
  obtain ⟨c, _, rfl⟩ := List.mem_map.mp hd
  unfold holdD
  cases e : (widP l c).map WL.pairD with
  | nil => exact sh_none
  | cons d ds =>
    have hm : minD d ds ∈ (widP l c).map WL.pairD := by rw [e]; exact DL.minD_mem d ds
    obtain ⟨q, _, eq⟩ := List.mem_map.mp hm
    show Sh 0 (secD (minD d ds))
    rw [← eq]
    exact Sh.int
theorem ne_hold {l : List (List Int)} (hl : ∀ c ∈ l, c.length ≤ 1000) : DL.rNe (.dat (.list (cs.map (holdD l)))) (.dat (.list (cs.map (holdD l)))) ν Q = Q (.dat (.bool false)) ν := DL.ne_same (Sh.list (hold_sh (cs := cs) l hl)) (by decide)
def E19 : DS := dRet (dOrV (dOp (DL.rIs false) (dCall 1 ph_law_first (aCons (dVar 4) aNil)) (dC .none)) (dCall 2 ph_law_is_refused (aCons (dVar 2) (aCons (dUn WL.fUpSetR (dVar 4)) aNil))))
def E18 : DS := dSeq (dIfS (dAnd (dTest (dOp wGt (dCB fLen (aCons (dVar 10) aNil)) (dC (.int 1)))) (dNot (dTru (dCall 2 ph_law_is_refused (aCons (dVar 2) (aCons (dUn rRevL (dVar 10)) aNil)))))) (dRet (dC (.bool false))) dNext) E19
def E17 : DS := dSeq (dIfS (dOr (dTest (dOp DL.rNe (dCall 2 ph_holders (aCons (dVar 2) (aCons (dVar 10) aNil))) (dVar 11))) (dTest (dOp DL.rNe (dCallK 0 [1, 0] 2 ph_holders aNil (aCons (dCB fTuple (aCons (dVar 10) aNil)) (aCons (dVar 2) aNil))) (dVar 11)))) (dRet (dC (.bool false))) dNext) E18
def E15 : DS := dSeq (dAsg (dUn WL.fUpSetR (dVar 7)) 10) (dSeq (dAsg (dLc (iSeq (dVar 10)) (gN 12) dYes (dCall 2 ph_law_holder (aCons (dVar 10) (aCons (dVar 12) aNil))) [12]) 11) E17)
theorem upset_of (hv : isV sl = false) (hr : rd ν sl = some (.list (cs.map rowI))) (hc : CutsOk n cs) (h : ∀ ms, IsUpR cs ms → Q (.dat (.list (ms.map rowI))) ν) : fUpSetR sl ν Q := by
  unfold fUpSetR
  rw [hr]
  refine ⟨cs, rfl, by have := hc.few; omega, fun c hcm => (hc.all c hcm).2.2, fun ms hm => ?_⟩
  rw [hv]
  exact h ms hm
theorem e19 (hw : WebOk n ts) (hc : CutsOk n some_) (hM : Mem ν M a some_) {v0 v1 v3 v5 v6 v7 v8 v9 v10 v11 v12 : Option Sl} (h : D.rt (.dat (.bool true)) M) :
    E19 D [v0, v1, some (.dat (webD n ts)), v3, some (.cell a), v5, v6, v7, v8, v9, v10, v11, v12] M := by
  unfold E19
  rw [e_dRet, e_dOrV, e_dOp, e_dCall, e_aCons, e_dVar]
  simp only [List.getElem?_cons_zero, List.getElem?_cons_succ]
  rw [e_aNil]
  refine ⟨rfl, u_law_first (nd_of hw.hi hc) hM.sq ?_⟩
  rw [e_dC, is_yes]
  dsimp only
  cases e : firstX some_ with
  | none =>
    rw [if_pos (show (none : Option (Nat × Nat)).isNone = true from rfl)]
    exact h
  | some p =>
    rw [if_neg (show ¬ (some p : Option (Nat × Nat)).isNone = true from fun z => by cases z), e_dCall, e_aCons, e_dVar]
    simp only [List.getElem?_cons_zero, List.getElem?_cons_succ]
    rw [e_aCons, e_dUn, e_dVar]
    simp only [List.getElem?_cons_zero, List.getElem?_cons_succ]
    refine upset_of rfl hM.rd hc fun ms hm => ?_
    rw [e_aNil]
    exact ⟨rfl, u_refused hw (set_ok hc hm) (set_bad hm (by rw [e]; exact fun z => by cases z)) h⟩
theorem e18 (hw : WebOk n ts) (hc : CutsOk n some_) (hM : Mem ν M a some_) {ms : List (List Int)} (hm : CutsOk n ms) (hu : ms.Pairwise (fun a b => ltL a b = true)) {v0 v1 v3 v5 v6 v7 v8 v9 v11 v12 : Option Sl} (h : D.rt (.dat (.bool true)) M) :
    E18 D [v0, v1, some (.dat (webD n ts)), v3, some (.cell a), v5, v6, v7, v8, v9, some (.dat (.list (ms.map rowI))), v11, v12] M := by
  have gt : ∀ (i j : Int) (ν : Mu) (Q : DQ), wGt (.dat (.int i)) (.dat (.int j)) ν Q = Q (.dat (.bool (decide (j < i)))) ν := fun i j ν Q => rfl
  unfold E18
  rw [e_dSeq, e_dIfS, e_dAnd, e_dTest, e_dOp, e_dCB, e_aCons, e_dVar]
  simp only [List.getElem?_cons_zero, List.getElem?_cons_succ]
  rw [e_aNil, sq_len sq_dat, e_dC, gt]
  dsimp only
  by_cases z : 1 < ms.length
  · rw [decide_eq_true (show (1 : Int) < (((ms.map rowI).length : Nat) : Int) by rw [List.length_map]; omega), if_pos rfl, e_dNot]
    rw [e_dTru, e_dCall, e_aCons, e_dVar]
    simp only [List.getElem?_cons_zero, List.getElem?_cons_succ]
    rw [e_aCons, e_dUn, e_dVar]
    simp only [List.getElem?_cons_zero, List.getElem?_cons_succ]
    have rv : ∀ (Q : DQ), rRevL (.dat (.list (ms.map rowI))) M Q = Q (.dat (.list (ms.reverse.map rowI))) M := fun Q => by
      rw [List.map_reverse]
      rfl
    rw [rv, e_aNil]
    refine ⟨rfl, u_refused hw (rev_ok hm) (fun z2 => ?_) ?_⟩
    · have := z2.1
      rw [rising_back hu z] at this
      cases this
    refine ⟨trivial, ?_⟩
    show if (!true) = true then _ else _
    rw [if_neg (by decide), e_dNext]
    exact e19 hw hc hM h
  · rw [decide_eq_false (show ¬ (1 : Int) < (((ms.map rowI).length : Nat) : Int) by rw [List.length_map]; omega), if_neg (by decide)]
    rw [if_neg (by decide), e_dNext]
    exact e19 hw hc hM h
theorem e17 (hw : WebOk n ts) (hc : CutsOk n some_) (hM : Mem ν M a some_) {ms : List (List Int)} (hm : CutsOk n ms) (hk : Calm ms) (hu : ms.Pairwise (fun a b => ltL a b = true)) {v0 v1 v3 v5 v6 v7 v8 v9 v12 : Option Sl} (h : D.rt (.dat (.bool true)) M) :
    E17 D [v0, v1, some (.dat (webD n ts)), v3, some (.cell a), v5, v6, v7, v8, v9, some (.dat (.list (ms.map rowI))), some (.dat (.list (ms.map (holdD ms)))), v12] M := by
  have lm : ∀ c ∈ ms, c.length ≤ 1000 := fun c hcm => by have := cut_len (hm.all c hcm) hw.hi; omega
  unfold E17
  rw [e_dSeq, e_dIfS, e_dOr, e_dTest, e_dOp, e_dCall, e_aCons, e_dVar]
  simp only [List.getElem?_cons_zero, List.getElem?_cons_succ]
  rw [e_aCons, e_dVar]
  simp only [List.getElem?_cons_zero, List.getElem?_cons_succ]
  rw [e_aNil]
  refine ⟨rfl, u_holders hw hm hk (.inl rfl) ?_⟩
  rw [e_dVar]
  simp only [List.getElem?_cons_zero, List.getElem?_cons_succ]
  rw [ne_hold lm]
  dsimp only
  rw [if_neg (by decide), e_dTest, e_dOp, e_dCallK, e_aNil, e_aCons, e_dCB, e_aCons, e_dVar]
  simp only [List.getElem?_cons_zero, List.getElem?_cons_succ]
  rw [e_aNil, tup_c rfl rfl, e_aCons, e_dVar]
  simp only [List.getElem?_cons_zero, List.getElem?_cons_succ]
  rw [e_aNil]
  show (2 = 2 ∧ ph_holders [.dat (webD n ts), .dat (.tuple (ms.map rowI))] _ _)
  refine ⟨rfl, u_holders hw hm hk (.inr rfl) ?_⟩
  rw [e_dVar]
  simp only [List.getElem?_cons_zero, List.getElem?_cons_succ]
  rw [ne_hold lm]
  dsimp only
  rw [if_neg (by decide), e_dNext]
  exact e18 hw hc hM hm hu h
theorem e15 (hw : WebOk n ts) (hc : CutsOk n some_) (hM : Mem ν M a some_) {v0 v1 v3 v5 v6 v8 v9 v10 v11 v12 : Option Sl} (h : D.rt (.dat (.bool true)) M) :
    E15 D [v0, v1, some (.dat (webD n ts)), v3, some (.cell a), v5, v6, some (.dat (.list ((lamL some_).map rowI))), v8, v9, v10, v11, v12] M := by
  obtain ⟨l1, l2, l3, l4⟩ := lam_spec hw.hi hc
  unfold E15
  rw [e_dSeq, e_dAsg, e_dUn, e_dVar]
  simp only [List.getElem?_cons_zero, List.getElem?_cons_succ]
  refine upset_of rfl rfl l1 fun ms hm => ?_
  simp only [List.set_cons_succ, List.set_cons_zero]
  have hs := set_ok l1 hm
  obtain ⟨C, c0, c1, ci⟩ := iSeq_ok (i := 10) (ρ := [v0, v1, some (.dat (webD n ts)), v3, some (.cell a), v5, v6, some (.dat (.list ((lamL some_).map rowI))), v8, v9, some (.dat (.list (ms.map rowI))), v11, v12]) (μ := M) rfl .dl
  have L := fun Q => lc_gen (β := Unit) rowI (fun _ => true) (holdD ms) (g := gN 12) (t := dYes) (e := dCall 2 ph_law_holder (aCons (dVar 10) (aCons (dVar 12) aNil))) (vs := [12]) (Q := Q) (xs := ms) ci (fun _ => c1 _) (sz (by have := hs.few; omega)) (fun x hx acc R => by
    simp [wipeD, dYes, c_law_holder hw.hi hs (hs.all x hx)])
  rw [List.filter_eq_self.mpr (fun _ _ => rfl)] at L
  rw [e_dSeq, e_dAsg, L]
  simp only [List.set_cons_succ, List.set_cons_zero]
  exact e17 hw hc hM hs (set_calm hm l2) hm.1 h
end
end K24
namespace K24
open PySem PySem.Spec PyProof.Rows L2 Evl DL
open WL
open PySem.W (minD)
section
variable {μ ν M : Mu} {Q : DQ} {n : Int} {ts : List T3} {c s : List Int} {cs some_ : List (List Int)} {sl : Sl} {ds : List PyData} {D : DEnds} {i j k a b t : Nat}
def nilE : DE := dLst (aCons (dCall 2 ph_is_laminar (aCons (dVar 2) (aCons (dLst aNil) aNil))) (aCons (dCall 2 ph_made_laminar (aCons (dVar 2) (aCons (dTup aNil) aNil))) (aCons (dCall 2 ph_holders (aCons (dVar 2) (aCons (dLst aNil) aNil))) aNil)))
def nilE2 : DE := dLst (aCons (dC (.bool true)) (aCons (dLst aNil) (aCons (dLst aNil) aNil)))
def E14 : DS := dSeq (dIfS (dTest (dOp DL.rNe nilE nilE2)) (dRet (dC (.bool false))) dNext) E15
theorem ok_nil : CutsOk n [] := ⟨fun c h => by (cases h), Nat.zero_le _⟩
theorem lam_nil : lamL [] = [] := by unfold lamL; exact goL_none _ rfl
theorem calm_nil : Calm [] := ⟨rfl, rfl⟩
def nilD : PyData := .list [.bool true, .list [], .list []]
theorem sh_nilD : Sh 2 nilD := Sh.list fun x hx => by
  simp only [List.mem_cons, List.not_mem_nil, or_false] at hx
  rcases hx with rfl | rfl | rfl
  · exact Sh.bool
  · exact Sh.list (n := 0) fun x hx => by cases hx
  · exact Sh.list (n := 0) fun x hx => by cases hx
theorem nil_e (hw : WebOk n ts) {v0 v1 v3 v4 v5 v6 v7 v8 v9 v10 v11 v12 : Option Sl} (h : Q (.dat nilD) M) : nilE [v0, v1, some (.dat (webD n ts)), v3, v4, v5, v6, v7, v8, v9, v10, v11, v12] M Q := by
  unfold nilE
  rw [e_dLst, e_aCons, e_dCall, e_aCons, e_dVar]
  simp only [List.getElem?_cons_zero, List.getElem?_cons_succ]
  rw [e_aCons, e_dLst, e_aNil]
  simp only [e_datsNil]
  refine ⟨Nat.zero_le _, ?_⟩
  rw [e_aNil]
  refine ⟨rfl, u_lam (cs := []) hw ok_nil ⟨rfl, .inl rfl⟩ ?_⟩
  rw [e_aCons, e_dCall, e_aCons, e_dVar]
  simp only [List.getElem?_cons_zero, List.getElem?_cons_succ]
  rw [e_aCons, e_dTup, e_aNil]
  simp only [e_datsNil]
  refine ⟨Nat.zero_le _, ?_⟩
  rw [e_aNil]
  refine ⟨rfl, u_made_dat (cs := []) hw ok_nil ⟨rfl, .inr rfl⟩ ?_⟩
  rw [lam_nil, e_aCons, e_dCall, e_aCons, e_dVar]
  simp only [List.getElem?_cons_zero, List.getElem?_cons_succ]
  rw [e_aCons, e_dLst, e_aNil]
  simp only [e_datsNil]
  refine ⟨Nat.zero_le _, ?_⟩
  rw [e_aNil]
  refine ⟨rfl, u_holders (cs := []) hw ok_nil calm_nil (.inl rfl) ?_⟩
  rw [e_aNil]
  simp only [e_datsCons, e_datsNil]
  exact ⟨sz (by simp), h⟩
theorem nil_e2 {ρ : Rho} (h : Q (.dat nilD) M) : nilE2 ρ M Q := by
  unfold nilE2
  rw [e_dLst, e_aCons, e_dC, e_aCons, e_dLst, e_aNil]
  simp only [e_datsNil]
  refine ⟨Nat.zero_le _, ?_⟩
  rw [e_aCons, e_dLst, e_aNil]
  simp only [e_datsNil]
  refine ⟨Nat.zero_le _, ?_⟩
  rw [e_aNil]
  simp only [e_datsCons, e_datsNil]
  exact ⟨sz (by simp), h⟩
theorem e14 (hw : WebOk n ts) (hc : CutsOk n some_) (hM : Mem ν M a some_) {v0 v1 v3 v5 v6 v8 v9 v10 v11 v12 : Option Sl} (h : D.rt (.dat (.bool true)) M) :
    E14 D [v0, v1, some (.dat (webD n ts)), v3, some (.cell a), v5, v6, some (.dat (.list ((lamL some_).map rowI))), v8, v9, v10, v11, v12] M := by
  unfold E14
  rw [e_dSeq, e_dIfS, e_dTest, e_dOp]
  refine nil_e hw (nil_e2 ?_)
  rw [DL.ne_same sh_nilD (by decide)]
  dsimp only
  rw [if_neg (by decide), e_dNext]
  exact e15 hw hc hM h
def sayD (cs : List (List Int)) : PyData := .str (PyData.list (cs.map rowI)).shown
def t13 : DT := dOr (dTest (dOp DL.rNe (dCB fRepr (aCons (dVar 4) aNil)) (dVar 6))) (dTest (dOp DL.rNe (dCall 2 ph_made_laminar (aCons (dVar 2) (aCons (dVar 4) aNil))) (dVar 7)))
def E13 : DS := dSeq (dIfS t13 (dRet (dC (.bool false))) dNext) E14
theorem e13 (hw : WebOk n ts) (hc : CutsOk n some_) (hM : Mem ν M a some_) {v0 v1 v3 v5 v8 v9 v10 v11 v12 : Option Sl} (h : D.rt (.dat (.bool true)) M) :
    E13 D [v0, v1, some (.dat (webD n ts)), v3, some (.cell a), v5, some (.dat (sayD some_)), some (.dat (.list ((lamL some_).map rowI))), v8, v9, v10, v11, v12] M := by
  unfold E13
  rw [e_dSeq, e_dIfS]
  unfold t13
  rw [e_dOr, e_dTest, e_dOp, e_dCB, e_aCons, e_dVar]
  simp only [List.getElem?_cons_zero, List.getElem?_cons_succ]
  rw [e_aNil, repr_c hM.rd (rows_ok hw.hi hc), e_dVar]
  simp only [List.getElem?_cons_zero, List.getElem?_cons_succ]
  unfold sayD
  rw [WL.ne_str]
  dsimp only
  rw [if_neg (by decide), e_dTest, e_dOp, e_dCall, e_aCons, e_dVar]
  simp only [List.getElem?_cons_zero, List.getElem?_cons_succ]
  rw [e_aCons, e_dVar]
  simp only [List.getElem?_cons_zero, List.getElem?_cons_succ]
  rw [e_aNil]
  refine ⟨rfl, u_made_dat hw hc hM.sq ?_⟩
  rw [e_dVar]
  simp only [List.getElem?_cons_zero, List.getElem?_cons_succ]
  rw [ne_rowsC rfl]
  dsimp only
  rw [if_neg (by decide), e_dNext]
  exact e14 hw hc hM h
def E12 : DS := dSeq (dDrop (dMtL mApp (dVar 8) (aCons (dC .none) aNil))) E13
theorem e12 (hw : WebOk n ts) (hc : CutsOk n some_) (hM : Mem ν M a some_) (hne : a ≠ b) (hb : ν.length ≤ b) {X : List PyData} (e : M[b]? = some (.lst X)) (hX : X.length ≤ 1000) {v0 v1 v3 v5 v9 v10 v11 v12 : Option Sl} (h : ∀ M', Mem ν M' a some_ → D.rt (.dat (.bool true)) M') :
    E12 D [v0, v1, some (.dat (webD n ts)), v3, some (.cell a), v5, some (.dat (sayD some_)), some (.dat (.list ((lamL some_).map rowI))), some (.cell b), v9, v10, v11, v12] M := by
  unfold E12
  rw [e_dSeq, e_dDrop, e_dMtL, e_dVar]
  simp only [List.getElem?_cons_zero, List.getElem?_cons_succ]
  rw [e_aCons, e_dC, e_aNil]
  refine ⟨⟨X, by rw [e_rdC, e]; rfl⟩, ?_⟩
  have ap : ∀ Q : DQ, mApp (.cell b) [.dat .none] M Q = Q (.dat .none) (M.set b (.lst (X ++ [.none]))) := fun Q => by
    simp only [mApp, e]
    exact propext ⟨fun z => z.2, fun z => ⟨Nat.lt_of_le_of_lt hX (by decide), z⟩⟩
  rw [ap]
  have m2 := hM.set (t := b) (fun z => hne z.symm) hb (x := .lst (X ++ [.none]))
  exact e13 hw hc m2 (h _ m2)
def countE (i : Nat) : DE := dCB fLen (aCons (dLc (iSeq (dVar i)) (gN 12) (dTest (dOp (wIn id) (dVar 9) (dVar 12))) (dC (.int 1)) [12]) aNil)
def placeB : DS := dIfS (dTest (dOp DL.rNe (countE 8) (countE 4))) (dRet (dC (.bool false))) dNext
theorem count_e {v0 v1 v2 v3 v4 v5 v6 v7 v8 v10 v11 v12 : Option Sl} {p : Int} (h0 : [v0, v1, v2, v3, v4, v5, v6, v7, v8, some (.dat (.int p)), v10, v11, v12][i]? = some (some sl)) (hs : Sq M sl (cs.map rowI)) (hc : CutsOk n cs) (hn : n ≤ 8) :
    countE i [v0, v1, v2, v3, v4, v5, v6, v7, v8, some (.dat (.int p)), v10, v11, v12] M Q = Q (.dat (.int (cntL p cs))) M := by
  obtain ⟨C, c0, c1, ci⟩ := iSeq_ok h0 hs
  have L := fun Q => lc_gen (β := Unit) rowI (fun c => decide (p ∈ c)) (fun _ => .int 1) (g := gN 12) (t := dTest (dOp (wIn id) (dVar 9) (dVar 12))) (e := dC (.int 1)) (vs := [12]) (Q := Q) (xs := cs) ci (fun _ => c1 _) (sz (by have := hc.few; omega)) (fun x hx acc R => by
    simp [wipeD])
  unfold countE
  rw [e_dCB, e_aCons, L, e_aNil, sq_len (ds := (cs.filter fun c => decide (p ∈ c)).map fun _ => PyData.int 1) ⟨rfl, .inl rfl⟩, List.length_map]
  rfl
theorem place_loop (hw : WebOk n ts) (hM : Mem ν M a some_) (hc : CutsOk n some_) (hb : Sq M (.cell b) ((lamL some_).map rowI)) {v0 v1 v2 v3 v5 v6 v7 v9 v10 v11 v12 : Option Sl} (h : ∀ v9, D.nx [v0, v1, v2, v3, some (.cell a), v5, v6, v7, some (.cell b), v9, v10, v11, v12] M) {m : Nat} :
    forD (fun _ => True) (gN 9) placeB D (rgI 0 m) [v0, v1, v2, v3, some (.cell a), v5, v6, v7, some (.cell b), v9, v10, v11, v12] M := by
  obtain ⟨l1, l2, l3, l4⟩ := lam_spec hw.hi hc
  refine for_rg (fun i v => [v0, v1, v2, v3, some (.cell a), v5, v6, v7, some (.cell b), v, v10, v11, v12]) trivial (fun i hi v => ⟨some (.dat (.int (0 + (i : Int)))), fun N hN => ?_⟩) h v9
  rw [e_gN]
  simp only [List.set_cons_succ, List.set_cons_zero]
  unfold placeB
  rw [e_dIfS, e_dTest, e_dOp, count_e (sl := .cell b) rfl hb l1 hw.hi, count_e (sl := .cell a) rfl hM.sq hc hw.hi, l4, o_neI, decide_eq_true rfl]
  dsimp only
  rw [if_neg (by decide), e_dNext]
  exact hN
def E11 : DS := dSeq (dFor (iRg1 (aCons (dVar 1) aNil)) (gN 9) placeB) E12
theorem e11 (hw : WebOk n ts) (hc : CutsOk n some_) (hM : Mem ν M a some_) (hne : a ≠ b) (hb : ν.length ≤ b) (e : M[b]? = some (.lst ((lamL some_).map rowI))) {v0 v3 v5 v9 v10 v11 v12 : Option Sl} (h : ∀ M', Mem ν M' a some_ → D.rt (.dat (.bool true)) M') :
    E11 D [v0, some (.dat (.int n)), some (.dat (webD n ts)), v3, some (.cell a), v5, some (.dat (sayD some_)), some (.dat (.list ((lamL some_).map rowI))), some (.cell b), v9, v10, v11, v12] M := by
  have l1 := (lam_spec hw.hi hc).1
  have lo := hw.lo
  have hi := hw.hi
  unfold E11
  rw [e_dSeq]
  show iRg1 _ _ _ _
  unfold iRg1
  simp only [e_aCons, e_dVar, e_aNil, List.getElem?_cons_zero, List.getElem?_cons_succ]
  refine ⟨by omega, ?_⟩
  refine place_loop hw hM hc ⟨rfl, .inl (by rw [e_rdC, e]; rfl)⟩ fun v9 => ?_
  dsimp only
  exact e12 hw hc hM hne hb e (by rw [List.length_map]; have := l1.few; omega) h
def t10 : DT := dOr (dTest (dOp DL.rNe (dVar 8) (dVar 7))) (dOr (dTest (dOp DL.rNe (dCallK 0 [1, 0] 2 ph_made_laminar aNil (aCons (dCB fTuple (aCons (dVar 4) aNil)) (aCons (dVar 2) aNil))) (dVar 7))) (dTest (dOp DL.rNe (dCB fRepr (aCons (dVar 4) aNil)) (dVar 6))))
def E10 : DS := dSeq (dIfS t10 (dRet (dC (.bool false))) dNext) E11
theorem e10 (hw : WebOk n ts) (hc : CutsOk n some_) (hM : Mem ν M a some_) (hne : a ≠ b) (hb : ν.length ≤ b) (e : M[b]? = some (.lst ((lamL some_).map rowI))) {v0 v3 v5 v9 v10 v11 v12 : Option Sl} (h : ∀ M', Mem ν M' a some_ → D.rt (.dat (.bool true)) M') :
    E10 D [v0, some (.dat (.int n)), some (.dat (webD n ts)), v3, some (.cell a), v5, some (.dat (sayD some_)), some (.dat (.list ((lamL some_).map rowI))), some (.cell b), v9, v10, v11, v12] M := by
  have rb : rd M (.cell b) = some (.list ((lamL some_).map rowI)) := by rw [e_rdC, e]; rfl
  unfold E10
  rw [e_dSeq, e_dIfS]
  unfold t10
  rw [e_dOr, e_dTest, e_dOp, e_dVar]
  simp only [List.getElem?_cons_zero, List.getElem?_cons_succ]
  rw [e_dVar]
  simp only [List.getElem?_cons_zero, List.getElem?_cons_succ]
  rw [ne_rowsC rb]
  dsimp only
  rw [if_neg (by decide), e_dOr, e_dTest, e_dOp, e_dCallK, e_aNil, e_aCons, e_dCB, e_aCons, e_dVar]
  simp only [List.getElem?_cons_zero, List.getElem?_cons_succ]
  rw [e_aNil, tup_c rfl hM.rd, e_aCons, e_dVar]
  simp only [List.getElem?_cons_zero, List.getElem?_cons_succ]
  rw [e_aNil]
  show (2 = 2 ∧ ph_made_laminar [.dat (webD n ts), .dat (.tuple (some_.map rowI))] _ _)
  refine ⟨rfl, u_made_dat hw hc sq_tup ?_⟩
  rw [e_dVar]
  simp only [List.getElem?_cons_zero, List.getElem?_cons_succ]
  rw [ne_rowsC rfl]
  dsimp only
  rw [if_neg (by decide), e_dTest, e_dOp, e_dCB, e_aCons, e_dVar]
  simp only [List.getElem?_cons_zero, List.getElem?_cons_succ]
  rw [e_aNil, repr_c hM.rd (rows_ok hw.hi hc), e_dVar]
  simp only [List.getElem?_cons_zero, List.getElem?_cons_succ]
  unfold sayD
  rw [WL.ne_str]
  dsimp only
  rw [if_neg (by decide), e_dNext]
  exact e11 hw hc hM hne hb e h
def E9 : DS := dSeq (dAsg (dCall 2 ph_made_laminar (aCons (dVar 2) (aCons (dVar 4) aNil))) 8) E10
theorem e9 (hw : WebOk n ts) (hc : CutsOk n some_) (hM : Mem ν M a some_) (ha : a < M.length) {v0 v3 v5 v8 v9 v10 v11 v12 : Option Sl} (h : ∀ M', Mem ν M' a some_ → D.rt (.dat (.bool true)) M') :
    E9 D [v0, some (.dat (.int n)), some (.dat (webD n ts)), v3, some (.cell a), v5, some (.dat (sayD some_)), some (.dat (.list ((lamL some_).map rowI))), v8, v9, v10, v11, v12] M := by
  unfold E9
  rw [e_dSeq, e_dAsg, e_dCall, e_aCons, e_dVar]
  simp only [List.getElem?_cons_zero, List.getElem?_cons_succ]
  rw [e_aCons, e_dVar]
  simp only [List.getElem?_cons_zero, List.getElem?_cons_succ]
  rw [e_aNil]
  refine ⟨rfl, u_made_cell hw hc hM.sq ?_⟩
  simp only [List.set_cons_succ, List.set_cons_zero]
  have f := hM.far
  exact e10 hw hc hM.app (by omega) (by omega) (cell0 rfl) h
def askE : DE := dLstC (aCons (dCall 2 ph_is_laminar (aCons (dVar 2) (aCons (dVar 4) aNil))) (aCons (dCallK 0 [1, 0] 2 ph_is_laminar aNil (aCons (dCB fTuple (aCons (dVar 4) aNil)) (aCons (dVar 2) aNil))) (aCons (dCall 2 ph_is_laminar (aCons (dVar 2) (aCons (dVar 7) aNil))) aNil)))
def t8 : DT := dTest (dOp DL.rNe (dCB fRepr (aCons (dVar 8) aNil)) (dCB fRepr (aCons (dOp DL.rAdd (dOp rMulC (dLstC (aCons (dOp (DL.rIs false) (dCall 1 ph_law_first (aCons (dVar 4) aNil)) (dC .none)) aNil)) (dC (.int 2))) (dLst (aCons (dC (.bool true)) aNil))) aNil)))
def E7 : DS := dSeq (dAsg askE 8) (dSeq (dIfS t8 (dRet (dC (.bool false))) dNext) E9)
theorem t8_ok (hw : WebOk n ts) (hc : CutsOk n some_) (hM : Mem ν M a some_) {x : Bool} (hx : x = (firstX some_).isNone) (e : M[b]? = some (.lst [.bool x, .bool x, .bool true])) {v0 v1 v2 v3 v5 v6 v7 v9 v10 v11 v12 : Option Sl} {R : Bool → Mu → Prop} (h : ∀ xs, R false (M ++ xs)) :
    t8 [v0, v1, v2, v3, some (.cell a), v5, v6, v7, some (.cell b), v9, v10, v11, v12] M R := by
  have ok3 : okR (.list [.bool x, .bool x, .bool true]) := ok_bools (bs := [x, x, true]) (by simp)
  have rb : rd M (.cell b) = some (.list [.bool x, .bool x, .bool true]) := by rw [e_rdC, e]; rfl
  unfold t8
  rw [e_dTest, e_dOp, e_dCB, e_aCons, e_dVar]
  simp only [List.getElem?_cons_zero, List.getElem?_cons_succ]
  rw [e_aNil, repr_c rb ok3, e_dCB, e_aCons, e_dOp, e_dOp, e_dLstC, e_aCons, e_dOp, e_dCall, e_aCons, e_dVar]
  simp only [List.getElem?_cons_zero, List.getElem?_cons_succ]
  rw [e_aNil]
  refine ⟨rfl, u_law_first (nd_of hw.hi hc) hM.sq ?_⟩
  rw [e_dC, is_yes, ← hx, e_aNil]
  simp only [e_datsCons, e_datsNil]
  refine ⟨sz (by simp), ?_⟩
  rw [e_dC]
  have e0 : (M ++ [Cell.lst [.bool x]])[M.length]? = some (.lst [.bool x]) := cell0 rfl
  rw [e_mulC e0 (by simp) (by decide)]
  show dLst (aCons (dC (.bool true)) aNil) _ _ _
  rw [e_dLst, e_aCons, e_dC, e_aNil]
  simp only [e_datsCons, e_datsNil]
  refine ⟨sz (by simp), ?_⟩
  show (DL.rAdd (.dat (.list [.bool x, .bool x])) (.dat (.list [.bool true]))) _ _
  rw [add_lists (by simp), e_aNil]
  show fRepr [.dat (.list [.bool x, .bool x, .bool true])] _ _
  rw [repr_of ok3, WL.ne_str]
  exact h _
theorem e7 (hw : WebOk n ts) (hc : CutsOk n some_) (hM : Mem ν M a some_) (ha : a < M.length) {v0 v3 v5 v8 v9 v10 v11 v12 : Option Sl} (h : ∀ M', Mem ν M' a some_ → D.rt (.dat (.bool true)) M') :
    E7 D [v0, some (.dat (.int n)), some (.dat (webD n ts)), v3, some (.cell a), v5, some (.dat (sayD some_)), some (.dat (.list ((lamL some_).map rowI))), v8, v9, v10, v11, v12] M := by
  obtain ⟨l1, l2, l3, l4⟩ := lam_spec hw.hi hc
  unfold E7
  rw [e_dSeq, e_dAsg]
  unfold askE
  rw [e_dLstC, e_aCons, e_dCall, e_aCons, e_dVar]
  simp only [List.getElem?_cons_zero, List.getElem?_cons_succ]
  rw [e_aCons, e_dVar]
  simp only [List.getElem?_cons_zero, List.getElem?_cons_succ]
  rw [e_aNil]
  refine ⟨rfl, u_lam hw hc hM.sq ?_⟩
  rw [e_aCons, e_dCallK, e_aNil, e_aCons, e_dCB, e_aCons, e_dVar]
  simp only [List.getElem?_cons_zero, List.getElem?_cons_succ]
  rw [e_aNil, tup_c rfl hM.rd, e_aCons, e_dVar]
  simp only [List.getElem?_cons_zero, List.getElem?_cons_succ]
  rw [e_aNil]
  show (2 = 2 ∧ ph_is_laminar [.dat (webD n ts), .dat (.tuple (some_.map rowI))] _ _)
  refine ⟨rfl, u_lam hw hc sq_tup ?_⟩
  rw [e_aCons, e_dCall, e_aCons, e_dVar]
  simp only [List.getElem?_cons_zero, List.getElem?_cons_succ]
  rw [e_aCons, e_dVar]
  simp only [List.getElem?_cons_zero, List.getElem?_cons_succ]
  rw [e_aNil]
  refine ⟨rfl, u_lam hw l1 sq_dat ?_⟩
  rw [l2, e_aNil]
  simp only [e_datsCons, e_datsNil]
  refine ⟨sz (by simp), ?_⟩
  simp only [List.set_cons_succ, List.set_cons_zero]
  rw [e_dSeq, e_dIfS]
  refine t8_ok hw hc hM.app rfl (cell0 rfl) fun xs => ?_
  rw [if_neg (by decide), e_dNext]
  exact e9 hw hc hM.app.app (by rw [List.length_append, List.length_append]; omega) h
def E6 : DS := dSeq (dPar 6 7 (aCons (dCB fRepr (aCons (dVar 4) aNil)) (aCons (dCall 1 ph_law_laminar (aCons (dVar 4) aNil)) aNil))) E7
theorem e6 (hw : WebOk n ts) (hc : CutsOk n some_) (hM : Mem ν M a some_) (ha : a < M.length) {v0 v3 v5 v6 v7 v8 v9 v10 v11 v12 : Option Sl} (h : ∀ M', Mem ν M' a some_ → D.rt (.dat (.bool true)) M') :
    E6 D [v0, some (.dat (.int n)), some (.dat (webD n ts)), v3, some (.cell a), v5, v6, v7, v8, v9, v10, v11, v12] M := by
  unfold E6
  rw [e_dSeq, e_dPar, e_aCons, e_dCB, e_aCons, e_dVar]
  simp only [List.getElem?_cons_zero, List.getElem?_cons_succ]
  rw [e_aNil, repr_c hM.rd (rows_ok hw.hi hc), e_aCons, e_dCall, e_aCons, e_dVar]
  simp only [List.getElem?_cons_zero, List.getElem?_cons_succ]
  rw [e_aNil]
  refine ⟨rfl, n, .cell a, some_, rfl, ⟨hw.hi, hc⟩, ⟨rfl, hM.rd⟩, ?_⟩
  dsimp only
  rw [e_aNil]
  dsimp only
  simp only [List.set_cons_succ, List.set_cons_zero]
  exact e7 hw hc hM ha h
end
end K24
namespace K24
open PySem PySem.Spec PyProof.Rows L2 Evl DL
open WL
section
variable {μ ν M : Mu} {Q : DQ} {n : Int} {ts : List T3} {c s : List Int} {cs xs some_ : List (List Int)} {sl : Sl} {ds : List PyData} {D : DEnds} {i j k a b t : Nat}
theorem u_pick_d (hp : Pot μ k) (h0 : 0 < cs.length) (h1 : cs.length ≤ 1000) (h : ∀ c μ', c ∈ cs → Ch k μ μ' → Q (.dat (rowI c)) μ') : ph_law_pick [.cell k, .dat (.list (cs.map rowI))] μ Q :=
  ⟨k, _, cs.map rowI, rfl, hp, fun _ _ => ⟨rfl, rfl⟩, ⟨by rw [List.length_map]; exact h0, by rw [List.length_map]; exact h1⟩, fun x μ' hx c => by
    obtain ⟨y, hy, rfl⟩ := List.mem_map.mp hx
    exact h y μ' hy c⟩
theorem u_pick_c (hp : Pot μ k) (hne : a ≠ k) (e : μ[a]? = some (.lst (cs.map rowI))) (h0 : 0 < cs.length) (h1 : cs.length ≤ 1000) (h : ∀ c μ', c ∈ cs → Ch k μ μ' → Q (.dat (rowI c)) μ') : ph_law_pick [.cell k, .cell a] μ Q :=
  ⟨k, _, cs.map rowI, rfl, hp, fun μ' c => ⟨by rw [e_rdC, c.2.2 a hne, e]; rfl, rfl⟩, ⟨by rw [List.length_map]; exact h0, by rw [List.length_map]; exact h1⟩, fun x μ' hx c => by
    obtain ⟨y, hy, rfl⟩ := List.mem_map.mp hx
    exact h y μ' hy c⟩
theorem Ch.refl (hp : Pot ν k) : Ch k ν ν := ⟨hp, rfl, fun _ _ => rfl⟩
def pickB : DS := dDrop (dMtL mApp (dVar 4) (aCons (dCall 2 ph_law_pick (aCons (dVar 0) (aCons (dVar 3) aNil))) aNil))
theorem pick_loop (h0 : 0 < cs.length) (h1 : cs.length ≤ 1000) {C : Mu → Prop} (hC : ∀ ν, C ν) {v1 v2 v6 v7 v8 v9 v10 v11 v12 : Option Sl} : ∀ (its : List Sl) (xs : List (List Int)) (v5 : Option Sl) (ν : Mu), Pot ν k → ν.length = a → xs.length + its.length ≤ 100 →
    (∀ (ν' : Mu) (xs' : List (List Int)) (v5 : Option Sl), Ch k ν ν' → (∀ c ∈ xs', c ∈ xs ∨ c ∈ cs) → xs'.length = xs.length + its.length → D.nx [some (.cell k), v1, v2, some (.dat (.list (cs.map rowI))), some (.cell a), v5, v6, v7, v8, v9, v10, v11, v12] (ν' ++ [.lst (xs'.map rowI)])) →
    forD C (gN 5) pickB D its [some (.cell k), v1, v2, some (.dat (.list (cs.map rowI))), some (.cell a), v5, v6, v7, v8, v9, v10, v11, v12] (ν ++ [.lst (xs.map rowI)])
  | [], xs, v5, ν, hp, hl, hx, h => ⟨hC _, h ν xs v5 (Ch.refl hp) (fun c z => .inl z) rfl⟩
  | t :: its, xs, v5, ν, hp, hl, hx, h => by
    rw [List.length_cons] at hx
    refine ⟨hC _, ?_⟩
    simp only [e_gN, List.set_cons_succ, List.set_cons_zero]
    unfold pickB
    rw [e_dDrop, e_dMtL, e_dVar]
    simp only [List.getElem?_cons_zero, List.getElem?_cons_succ]
    rw [e_aCons, e_dCall, e_aCons, e_dVar]
    simp only [List.getElem?_cons_zero, List.getElem?_cons_succ]
    rw [e_aCons, e_dVar]
    simp only [List.getElem?_cons_zero, List.getElem?_cons_succ]
    rw [e_aNil]
    refine ⟨⟨_, rd0 hl⟩, rfl, u_pick_d (pot_app hp) h0 h1 fun c ν' hc g => ?_⟩
    obtain ⟨ν1, rfl, c1⟩ := ch_split g hp.lt
    try dsimp only
    rw [e_aNil]
    have l1 : ν1.length = a := by rw [c1.2.1]; exact hl
    rw [app0 l1 (by rw [List.length_map]; omega)]
    have e1 : xs.map rowI ++ [rowI c] = (xs ++ [c]).map rowI := by rw [List.map_append]; rfl
    rw [e1]
    refine pick_loop h0 h1 hC its (xs ++ [c]) _ ν1 c1.1 l1 (by rw [List.length_append, List.length_singleton]; omega) fun ν2 xs' v5 c2 hm hn => h ν2 xs' v5 (c1.trans c2) (fun d hd => ?_) ?_
    · rcases hm d hd with z | z
      · rcases List.mem_append.mp z with z | z
        · exact .inl z
        · rw [List.mem_singleton.mp z]
          exact .inr hc
      · exact .inr z
    · rw [hn, List.length_append, List.length_singleton, List.length_cons]
      omega
def twoB : DS := dIfS (dNot (dTru (dCall 3 ph_law_two_right (aCons (dVar 2) (aCons (dCall 2 ph_law_pick (aCons (dVar 0) (aCons (dVar 3) aNil))) (aCons (dCall 2 ph_law_pick (aCons (dVar 0) (aCons (dVar 4) aNil))) aNil)))))) (dRet (dC (.bool false))) dNext
theorem two_loop (hw : WebOk n ts) (h0 : 0 < cs.length) (h1 : cs.length ≤ 1000) (hc : ∀ c ∈ cs, Cut n c) (g0 : 0 < some_.length) (hs : CutsOk n some_) {C : Mu → Prop} (hC : ∀ ν, C ν) {v1 v6 v7 v8 v9 v10 v11 v12 : Option Sl} : ∀ (its : List Sl) (v5 : Option Sl) (ν : Mu), Pot ν k → ν.length = a →
    (∀ ν' v5, Ch k ν ν' → D.nx [some (.cell k), v1, some (.dat (webD n ts)), some (.dat (.list (cs.map rowI))), some (.cell a), v5, v6, v7, v8, v9, v10, v11, v12] (ν' ++ [.lst (some_.map rowI)])) →
    forD C (gN 5) twoB D its [some (.cell k), v1, some (.dat (webD n ts)), some (.dat (.list (cs.map rowI))), some (.cell a), v5, v6, v7, v8, v9, v10, v11, v12] (ν ++ [.lst (some_.map rowI)])
  | [], v5, ν, hp, hl, h => ⟨hC _, h ν v5 (Ch.refl hp)⟩
  | t :: its, v5, ν, hp, hl, h => by
    have hk := hp.lt
    refine ⟨hC _, ?_⟩
    simp only [e_gN, List.set_cons_succ, List.set_cons_zero]
    unfold twoB
    rw [e_dIfS, e_dNot, e_dTru, e_dCall, e_aCons, e_dVar]
    simp only [List.getElem?_cons_zero, List.getElem?_cons_succ]
    rw [e_aCons, e_dCall, e_aCons, e_dVar]
    simp only [List.getElem?_cons_zero, List.getElem?_cons_succ]
    rw [e_aCons, e_dVar]
    simp only [List.getElem?_cons_zero, List.getElem?_cons_succ]
    rw [e_aNil]
    refine ⟨rfl, u_pick_d (pot_app hp) h0 h1 fun c ν' hcm g => ?_⟩
    obtain ⟨ν1, rfl, c1⟩ := ch_split g hk
    have l1 : ν1.length = a := by rw [c1.2.1]; exact hl
    try dsimp only
    rw [e_aCons, e_dCall, e_aCons, e_dVar]
    simp only [List.getElem?_cons_zero, List.getElem?_cons_succ]
    rw [e_aCons, e_dVar]
    simp only [List.getElem?_cons_zero, List.getElem?_cons_succ]
    rw [e_aNil]
    refine ⟨rfl, u_pick_c (pot_app c1.1) (by omega) (cell0 l1) g0 (by have := hs.few; omega) fun d ν' hdm g => ?_⟩
    obtain ⟨ν2, rfl, c2⟩ := ch_split g (by omega)
    try dsimp only
    rw [e_aNil]
    refine ⟨rfl, u_two_right hw (hc c hcm) (hs.all d hdm) ?_⟩
    refine ⟨trivial, ?_⟩
    show if (!true) = true then _ else _
    rw [if_neg (by decide), e_dNext]
    exact two_loop hw h0 h1 hc g0 hs hC its _ ν2 c2.1 (by rw [c2.2.1]; exact l1) fun ν3 v5 c3 => h ν3 v5 ((c1.trans c2).trans c3)
def E5 : DS := dSeq (dFor (iRg1 (aCons (dC (.int 4)) aNil)) (gN 5) twoB) E6
theorem cuts_few : ∀ m : Nat, m ≤ 8 → (cutsL m).length ≤ 1000 := by
  intro m hm
  unfold cutsL
  rw [(sortL_perm _).length_eq]
  refine Nat.le_trans (List.length_filter_le _ _) ?_
  rw [lots_len]
  exact Nat.le_trans (Nat.pow_le_pow_right (by decide) (show m - 1 ≤ 7 by omega)) (by decide)
theorem cuts_pos {m : Nat} (hm : 2 ≤ m) : 0 < (cutsL m).length := by
  have : [1] ∈ cutsL m := (mem_cutsL (by omega)).mpr ⟨List.pairwise_singleton _ _, fun p hp => by rw [List.mem_singleton.mp hp]; omega, by simp⟩
  exact List.length_pos_of_mem this
def pickN : DE := dOp DL.rAdd (dC (.int 1)) (dCall 2 WL.ph_law_draw (aCons (dVar 0) (aCons (dC (.int 7)) aNil)))
def E4 : DS := dSeq (dFor (iRg1 (aCons pickN aNil)) (gN 5) pickB) E5
def E3 : DS := dSeq (dPar 3 4 (aCons (dCall 1 WL.ph_law_cuts (aCons (dVar 1) aNil)) (aCons (dLstC aNil) aNil))) E4
def E2 : DS := dSeq (dAsg (dCall 4 WL.ph_law_web (aCons (dVar 0) (aCons (dVar 1) (aCons (dC (.int 4)) (aCons (dC (.int 5)) aNil))))) 2) E3
def E1 : DS := dSeq (dAsg (dOp DL.rAdd (dC (.int 3)) (dCall 2 WL.ph_law_draw (aCons (dVar 0) (aCons (dC (.int 4)) aNil)))) 1) E2
theorem right_eq : ds_law_right = E1 := rfl
theorem e4 (hp : Pot ν k) (hw : WebOk n ts) {v5 v6 v7 v8 v9 v10 v11 v12 : Option Sl} (h : ∀ ν' M', Ch k ν ν' → M'.take ν.length = ν' → D.rt (.dat (.bool true)) M') :
    E4 D [some (.cell k), some (.dat (.int n)), some (.dat (webD n ts)), some (.dat (.list ((cutsL n.toNat).map rowI))), some (.cell ν.length), v5, v6, v7, v8, v9, v10, v11, v12] (ν ++ [.lst []]) := by
  have lo := hw.lo
  have hi := hw.hi
  have hk := hp.lt
  have h0 : 0 < (cutsL n.toNat).length := cuts_pos (by omega)
  have h1 := cuts_few n.toNat (by omega)
  have hcut : ∀ c ∈ cutsL n.toNat, Cut n c := fun c hc => by
    have := (mem_cutsL (by omega)).mp hc
    rwa [Int.toNat_of_nonneg (by omega)] at this
  have ad1 : ∀ (i j : Int) (ν : Mu) (Q : DQ), DL.rAdd (.dat (.int i)) (.dat (.int j)) ν Q = Q (.dat (.int (i + j))) ν := fun i j ν Q => by simp
  unfold E4
  rw [e_dSeq]
  show iRg1 _ _ _ _
  unfold iRg1
  rw [e_aCons]
  unfold pickN
  rw [e_dOp, e_dC, e_dCall, e_aCons, e_dVar]
  simp only [List.getElem?_cons_zero, List.getElem?_cons_succ]
  rw [e_aCons, e_dC, e_aNil]
  refine ⟨rfl, k, _, rfl, pot_app hp, by decide, fun x ν' x0 x1 g => ?_⟩
  obtain ⟨ν1, rfl, c1⟩ := ch_split g hk
  have l1 : ν1.length = ν.length := c1.2.1
  try dsimp only
  rw [ad1, e_aNil]
  refine ⟨by omega, ?_⟩
  have ln : ∀ m : Nat, (rgI 0 m).length = m := fun m => by unfold rgI; simp
  refine pick_loop h0 h1 (fun _ => trivial) _ [] _ ν1 c1.1 l1 (by rw [ln]; simp; omega) fun ν2 xs v5 c2 hm hn => ?_
  rw [ln] at hn
  simp only [List.length_nil] at hn
  have hs : CutsOk n xs := ⟨fun c hc => by
    rcases hm c hc with z | z
    · cases z
    · exact hcut c z, by omega⟩
  try dsimp only
  unfold E5
  rw [e_dSeq]
  show iRg1 _ _ _ _
  unfold iRg1
  simp only [e_aCons, e_dC, e_aNil]
  refine ⟨by decide, ?_⟩
  have l2 : ν2.length = ν.length := by rw [c2.2.1]; exact l1
  refine two_loop hw h0 h1 hcut (by omega) hs (fun _ => trivial) _ _ ν2 c2.1 l2 fun ν3 v5 c3 => ?_
  have l3 : ν3.length = ν.length := by rw [c3.2.1]; exact l2
  try dsimp only
  have hM : Mem ν3 (ν3 ++ [.lst (xs.map rowI)]) ν.length xs := by
    rw [← l3]
    exact Mem.new (List.take_length ..) xs
  refine e6 hw hs hM (by rw [List.length_append, List.length_singleton]; omega) fun M' m => h ν3 M' ((c1.trans c2).trans c3) ?_
  rw [← l3]
  exact m.old
theorem pu_law_right : Pure ["pot", "many", "web", "cuts", "some", "turn", "shown", "due", "told", "place", "unlike", "rows", "cut"] 1 ph_law_right ds_law_right := by
  intro ss μ Q' hl h
  obtain ⟨k, rfl, hp, h⟩ := h
  have hk := hp.lt
  have ad1 : ∀ (i j : Int) (ν : Mu) (Q : DQ), DL.rAdd (.dat (.int i)) (.dat (.int j)) ν Q = Q (.dat (.int (i + j))) ν := fun i j ν Q => by simp
  rw [right_eq]
  simp only [startD, List.map_cons, List.map_nil, List.length_cons, List.length_nil, List.replicate, List.cons_append, List.nil_append]
  unfold E1
  rw [e_dSeq, e_dAsg, e_dOp, e_dC, e_dCall, e_aCons, e_dVar]
  simp only [List.getElem?_cons_zero, List.getElem?_cons_succ]
  rw [e_aCons, e_dC, e_aNil]
  refine ⟨rfl, k, _, rfl, hp, by decide, fun x ν1 x0 x1 c1 => ?_⟩
  try dsimp only
  rw [ad1]
  simp only [List.set_cons_succ, List.set_cons_zero]
  unfold E2
  rw [e_dSeq, e_dAsg, e_dCall, e_aCons, e_dVar]
  simp only [List.getElem?_cons_zero, List.getElem?_cons_succ]
  rw [e_aCons, e_dVar]
  simp only [List.getElem?_cons_zero, List.getElem?_cons_succ]
  rw [e_aCons, e_dC, e_aCons, e_dC, e_aNil]
  refine ⟨rfl, k, 3 + x, 4, 5, rfl, c1.1, ⟨⟨by omega, by omega⟩, ⟨by decide, by omega⟩, by decide, by decide⟩, fun ts ν2 hw _ c2 => ?_⟩
  try dsimp only
  simp only [List.set_cons_succ, List.set_cons_zero]
  generalize 3 + x = n at *
  have lo := hw.lo
  have hi := hw.hi
  unfold E3
  rw [e_dSeq, e_dPar, e_aCons, e_dCall, e_aCons, e_dVar]
  simp only [List.getElem?_cons_zero, List.getElem?_cons_succ]
  rw [e_aNil]
  refine ⟨rfl, n.toNat, by rw [Int.toNat_of_nonneg (by omega)], ⟨by omega, by omega⟩, ?_⟩
  try dsimp only
  rw [e_aCons, e_dLstC, e_aNil]
  simp only [e_datsNil]
  refine ⟨Nat.zero_le _, ?_⟩
  rw [e_aNil]
  try dsimp only
  simp only [List.set_cons_succ, List.set_cons_zero]
  refine e4 c2.1 hw fun ν' M' c hM' => ?_
  have c13 := (c1.trans c2).trans c
  have l2 : ν2.length = μ.length := (c1.trans c2).2.1
  show finQ μ.length Q' (.dat (.bool true)) M'
  rw [e_finD, ← l2, hM']
  exact h ν' c13
theorem pu_law : Pure ["script"] 1 ph_law ds_law := by
  intro ss μ Q' hl h
  obtain ⟨ns, hn, rfl, rfl, h⟩ := h
  simp only [ds_law, startD, List.map_cons, List.map_nil, List.length_cons, List.length_nil, List.replicate, List.cons_append, List.nil_append, List.append_nil]
  rw [e_dRet, e_dCall, e_aCons, e_dCall, e_aCons, e_dVar]
  simp only [List.getElem?_cons_zero]
  rw [e_aCons, e_dC, e_aNil]
  refine ⟨rfl, ?_⟩
  rw [c_law_pot]
  refine ⟨by decide, fun p0 p1 h0 h1 hp => ?_⟩
  have hpot : Pot [Cell.lst [.int p0, .int p1]] 0 := ⟨p0, p1, rfl, h0, h1, hp⟩
  rw [e_aNil]
  exact ⟨rfl, 0, rfl, hpot, fun μ' _ => h⟩
end
end K24
namespace K24
open PySem PySem.Spec PyProof.Rows L2 Evl DL
theorem all_law {P : Program} {w : World} {K : PySem.W.Frag} {mg : Str → Option Value} {fa C fI : Addr} (T : Err K mg C fI) (hfa : mg "law" = some (.ref fa)) (m_is_integer : ∃ f fd, Fun K "is_integer" "is_integer" s_is_integer f fd ∧ mg "is_integer" = some (.ref f)) (m_is_within : ∃ f fd, Fun K "is_within" "is_within" s_is_within f fd ∧ mg "is_within" = some (.ref f)) (m_is_listed : ∃ f fd, Fun K "is_listed" "is_listed" s_is_listed f fd ∧ mg "is_listed" = some (.ref f)) (m_is_tuple_of : ∃ f fd, Fun K "is_tuple_of" "is_tuple_of" s_is_tuple_of f fd ∧ mg "is_tuple_of" = some (.ref f)) (m_is_headed : ∃ f fd, Fun K "is_headed" "is_headed" s_is_headed f fd ∧ mg "is_headed" = some (.ref f)) (m_are_integers : ∃ f fd, Fun K "are_integers" "are_integers" s_are_integers f fd ∧ mg "are_integers" = some (.ref f)) (m_is_rising : ∃ f fd, Fun K "is_rising" "is_rising" s_is_rising f fd ∧ mg "is_rising" = some (.ref f)) (m_is_cut_of_many : ∃ f fd, Fun K "is_cut_of_many" "is_cut_of_many" s_is_cut_of_many f fd ∧ mg "is_cut_of_many" = some (.ref f)) (m_is_cut : ∃ f fd, Fun K "is_cut" "is_cut" s_is_cut f fd ∧ mg "is_cut" = some (.ref f)) (m_check_cut : ∃ f fd, Fun K "check_cut" "check_cut" s_check_cut f fd ∧ mg "check_cut" = some (.ref f)) (m_far_end : ∃ f fd, Fun K "far_end" "far_end" s_far_end f fd ∧ mg "far_end" = some (.ref f)) (m_come_to : ∃ f fd, Fun K "come_to" "come_to" s_come_to f fd ∧ mg "come_to" = some (.ref f)) (m_are_joined : ∃ f fd, Fun K "are_joined" "are_joined" s_are_joined f fd ∧ mg "are_joined" = some (.ref f)) (m_is_pair : ∃ f fd, Fun K "is_pair" "is_pair" s_is_pair f fd ∧ mg "is_pair" = some (.ref f)) (m_are_rows : ∃ f fd, Fun K "are_rows" "are_rows" s_are_rows f fd ∧ mg "are_rows" = some (.ref f)) (m_is_web : ∃ f fd, Fun K "is_web" "is_web" s_is_web f fd ∧ mg "is_web" = some (.ref f)) (m_check_web : ∃ f fd, Fun K "check_web" "check_web" s_check_web f fd ∧ mg "check_web" = some (.ref f)) (m_has_more : ∃ f fd, Fun K "has_more" "has_more" s_has_more f fd ∧ mg "has_more" = some (.ref f)) (m_do_cross : ∃ f fd, Fun K "do_cross" "do_cross" s_do_cross f fd ∧ mg "do_cross" = some (.ref f)) (m_become : ∃ f fd, Fun K "become" "become" s_become f fd ∧ mg "become" = some (.ref f)) (m_check_two_cuts : ∃ f fd, Fun K "check_two_cuts" "check_two_cuts" s_check_two_cuts f fd ∧ mg "check_two_cuts" = some (.ref f)) (m_check_cuts : ∃ f fd, Fun K "check_cuts" "check_cuts" s_check_cuts f fd ∧ mg "check_cuts" = some (.ref f)) (m_cuts_cross : ∃ f fd, Fun K "cuts_cross" "cuts_cross" s_cuts_cross f fd ∧ mg "cuts_cross" = some (.ref f)) (m_uncrossed : ∃ f fd, Fun K "uncrossed" "uncrossed" s_uncrossed f fd ∧ mg "uncrossed" = some (.ref f)) (m_first_crossing : ∃ f fd, Fun K "first_crossing" "first_crossing" s_first_crossing f fd ∧ mg "first_crossing" = some (.ref f)) (m_is_laminar : ∃ f fd, Fun K "is_laminar" "is_laminar" s_is_laminar f fd ∧ mg "is_laminar" = some (.ref f)) (m_made_laminar : ∃ f fd, Fun K "made_laminar" "made_laminar" s_made_laminar f fd ∧ mg "made_laminar" = some (.ref f)) (m_holder : ∃ f fd, Fun K "holder" "holder" s_holder f fd ∧ mg "holder" = some (.ref f)) (m_holders : ∃ f fd, Fun K "holders" "holders" s_holders f fd ∧ mg "holders" = some (.ref f)) (m_law_pot : ∃ f fd, Fun K "_law_pot" "_law_pot" s_law_pot f fd ∧ mg "_law_pot" = some (.ref f)) (m_law_draw : ∃ f fd, Fun K "_law_draw" "_law_draw" s_law_draw f fd ∧ mg "_law_draw" = some (.ref f)) (m_law_pick : ∃ f fd, Fun K "_law_pick" "_law_pick" s_law_pick f fd ∧ mg "_law_pick" = some (.ref f)) (m_law_web : ∃ f fd, Fun K "_law_web" "_law_web" s_law_web f fd ∧ mg "_law_web" = some (.ref f)) (m_law_cuts : ∃ f fd, Fun K "_law_cuts" "_law_cuts" s_law_cuts f fd ∧ mg "_law_cuts" = some (.ref f)) (m_law_over : ∃ f fd, Fun K "_law_over" "_law_over" s_law_over f fd ∧ mg "_law_over" = some (.ref f)) (m_law_do_cross : ∃ f fd, Fun K "_law_do_cross" "_law_do_cross" s_law_do_cross f fd ∧ mg "_law_do_cross" = some (.ref f)) (m_law_uncrossed : ∃ f fd, Fun K "_law_uncrossed" "_law_uncrossed" s_law_uncrossed f fd ∧ mg "_law_uncrossed" = some (.ref f)) (m_law_first : ∃ f fd, Fun K "_law_first" "_law_first" s_law_first f fd ∧ mg "_law_first" = some (.ref f)) (m_law_laminar : ∃ f fd, Fun K "_law_laminar" "_law_laminar" s_law_laminar f fd ∧ mg "_law_laminar" = some (.ref f)) (m_law_holder : ∃ f fd, Fun K "_law_holder" "_law_holder" s_law_holder f fd ∧ mg "_law_holder" = some (.ref f)) (m_law_two_right : ∃ f fd, Fun K "_law_two_right" "_law_two_right" s_law_two_right f fd ∧ mg "_law_two_right" = some (.ref f)) (m_law_is_refused : ∃ f fd, Fun K "_law_is_refused" "_law_is_refused" s_law_is_refused f fd ∧ mg "_law_is_refused" = some (.ref f)) (m_law_right : ∃ f fd, Fun K "_law_right" "_law_right" s_law_right f fd ∧ mg "_law_right" = some (.ref f)) (m_law : ∃ f fd, Fun K "law" "law" s_law f fd ∧ mg "law" = some (.ref f)) (z_MOST_CUTS : ∃ t, mg "MOST_CUTS" = some (.int 12 t)) (z_MOST_PLACES : ∃ t, mg "MOST_PLACES" = some (.int 8 t)) (z_MOST_ROOM : ∃ t, mg "MOST_ROOM" = some (.int 20 t)) (z_MOST_TIES : ∃ t, mg "MOST_TIES" = some (.int 14 t)) (z_abs : mg "abs" = none) (z_all : mg "all" = none) (z_any : mg "any" = none) (z_bool : mg "bool" = none) (z_divmod : mg "divmod" = none) (z_enumerate : mg "enumerate" = none) (z_int : mg "int" = none) (z_isinstance : mg "isinstance" = none) (z_len : mg "len" = none) (z_list : mg "list" = none) (z_max : mg "max" = none) (z_min : mg "min" = none) (z_range : mg "range" = none) (z_repr : mg "repr" = none) (z_set : mg "set" = none) (z_sorted : mg "sorted" = none) (z_str : mg "str" = none) (z_sum : mg "sum" = none) (z_tuple : mg "tuple" = none) (z_zip : mg "zip" = none) :
    ∃ fd : FuncData, (∀ (s : Shared) (u : Value), BindsTo s fd ⟨[u], []⟩ [("script", u)]) ∧ ∀ base : Heap, FnG P w K mg base CX0 11 fa fd ["script"] (SpD K 1 lawF) := by
  obtain ⟨f, fd, F, hf⟩ := m_law
  cases hfa.symm.trans hf
  refine ⟨fd, ?_, fun base => ?_⟩
  · obtain ⟨oc, od, kV, doc, pm, an, cdv, ct, osl, rfl, lk, hcd⟩ := F.ex
    exact fun s v => .of_eq rfl
  have o_is_integer := ow_is_integer (P := P) (w := w) (base := base) m_is_integer z_bool z_int z_isinstance  WL.pu_is_integer
  have o_is_listed := ow_is_listed (P := P) (w := w) (base := base) m_is_listed z_isinstance z_list z_tuple  pu_is_listed
  have o_is_tuple_of := ow_is_tuple_of (P := P) (w := w) (base := base) m_is_tuple_of z_isinstance z_len z_tuple  WL.pu_is_tuple_of
  have o_is_rising := ow_is_rising (P := P) (w := w) (base := base) m_is_rising z_all z_zip  WL.pu_is_rising
  have o_far_end := ow_far_end (P := P) (w := w) (base := base) m_far_end   WL.pu_far_end
  have o_has_more := ow_has_more (P := P) (w := w) (base := base) m_has_more z_any  pu_has_more
  have o_become := ow_become (P := P) (w := w) (base := base) m_become z_list z_sorted z_tuple  pu_become
  have o_law_pot := ow_law_pot (P := P) (w := w) (base := base) m_law_pot z_abs z_int z_len z_max  pu_law_pot
  have o_law_draw := ow_law_draw (P := P) (w := w) (base := base) m_law_draw z_divmod z_int  pu_law_draw
  have o_law_cuts := ow_law_cuts (P := P) (w := w) (base := base) m_law_cuts z_range z_sorted  WL.pu_law_cuts
  have o_law_over := ow_law_over (P := P) (w := w) (base := base) m_law_over z_sum  WL.pu_law_over
  have o_law_do_cross := ow_law_do_cross (P := P) (w := w) (base := base) m_law_do_cross z_len  pu_law_do_cross
  have o_law_holder := ow_law_holder (P := P) (w := w) (base := base) m_law_holder z_all z_enumerate z_len z_min  pu_law_holder
  have o_is_within := ow_is_within (P := P) (w := w) (base := base) m_is_within  o_is_integer WL.pu_is_within
  have o_is_headed := ow_is_headed (P := P) (w := w) (base := base) m_is_headed z_isinstance z_str o_is_tuple_of WL.pu_is_headed
  have o_are_integers := ow_are_integers (P := P) (w := w) (base := base) m_are_integers z_all o_is_integer WL.pu_are_integers
  have o_come_to := ow_come_to (P := P) (w := w) (base := base) m_come_to z_sorted o_far_end WL.pu_come_to
  have o_do_cross := ow_do_cross (P := P) (w := w) (base := base) m_do_cross  o_has_more pu_do_cross
  have o_holder := ow_holder (P := P) (w := w) (base := base) m_holder z_enumerate z_len z_min o_has_more pu_holder
  have o_law_pick := ow_law_pick (P := P) (w := w) (base := base) m_law_pick z_len o_law_draw pu_law_pick
  have o_law_web := ow_law_web (P := P) (w := w) (base := base) m_law_web z_list z_range z_sorted z_tuple o_law_draw WL.pu_law_web
  have o_law_uncrossed := ow_law_uncrossed (P := P) (w := w) (base := base) m_law_uncrossed z_set z_sorted z_tuple o_law_do_cross pu_law_uncrossed
  have o_law_first := ow_law_first (P := P) (w := w) (base := base) m_law_first z_len z_range o_law_do_cross pu_law_first
  have o_is_cut_of_many := ow_is_cut_of_many (P := P) (w := w) (base := base) m_is_cut_of_many z_isinstance z_len z_tuple o_are_integers o_is_rising WL.pu_is_cut_of_many
  have o_are_joined := ow_are_joined (P := P) (w := w) (base := base) m_are_joined z_len o_come_to WL.pu_are_joined
  have o_is_pair := ow_is_pair (P := P) (w := w) (base := base) m_is_pair  o_is_within WL.pu_is_pair
  have o_first_crossing := ow_first_crossing (P := P) (w := w) (base := base) m_first_crossing z_enumerate z_len z_range o_do_cross pu_first_crossing
  have o_law_laminar := ow_law_laminar (P := P) (w := w) (base := base) m_law_laminar z_enumerate z_list z_sorted o_law_uncrossed o_law_first pu_law_laminar
  have o_is_cut := ow_is_cut (P := P) (w := w) (base := base) m_is_cut  o_is_cut_of_many WL.pu_is_cut
  have o_are_rows := ow_are_rows (P := P) (w := w) (base := base) m_are_rows z_MOST_ROOM z_isinstance z_len z_tuple o_is_within o_is_tuple_of o_is_rising o_is_pair WL.pu_are_rows
  have o_check_cut := ow_check_cut (P := P) (w := w) (base := base) m_check_cut  o_is_cut WL.pu_check_cut
  have o_is_web := ow_is_web (P := P) (w := w) (base := base) m_is_web z_MOST_PLACES z_MOST_TIES z_list z_range o_is_within o_is_headed o_are_joined o_are_rows WL.pu_is_web
  have o_check_web := ow_check_web (P := P) (w := w) (base := base) m_check_web  o_is_web WL.pu_check_web
  have o_check_two_cuts := ow_check_two_cuts (P := P) (w := w) (base := base) m_check_two_cuts  o_check_cut o_check_web pu_check_two_cuts
  have o_check_cuts := ow_check_cuts (P := P) (w := w) (base := base) m_check_cuts z_MOST_CUTS z_all z_len o_is_listed o_is_cut o_check_web pu_check_cuts
  have o_cuts_cross := ow_cuts_cross (P := P) (w := w) (base := base) m_cuts_cross  o_do_cross o_check_two_cuts pu_cuts_cross
  have o_uncrossed := ow_uncrossed (P := P) (w := w) (base := base) m_uncrossed  o_do_cross o_become o_check_two_cuts pu_uncrossed
  have o_is_laminar := ow_is_laminar (P := P) (w := w) (base := base) m_is_laminar  o_check_cuts o_first_crossing pu_is_laminar
  have o_made_laminar := ow_made_laminar (P := P) (w := w) (base := base) m_made_laminar z_list z_sorted o_become o_check_cuts o_first_crossing pu_made_laminar
  have o_holders := ow_holders (P := P) (w := w) (base := base) m_holders z_len z_range o_is_rising o_check_cuts o_first_crossing o_holder pu_holders
  have o_law_two_right := ow_law_two_right (P := P) (w := w) (base := base) m_law_two_right z_repr o_cuts_cross o_uncrossed o_law_over o_law_do_cross o_law_uncrossed pu_law_two_right
  have o_law_is_refused := ow_law_is_refused (P := P) (w := w) (base := base) m_law_is_refused z_repr T (own_holders m_holders z_len z_range T o_check_cuts o_is_rising o_first_crossing o_holder)
  have o_law_right := ow_law_right (P := P) (w := w) (base := base) m_law_right z_len z_range z_repr z_set z_sorted z_tuple o_is_laminar o_made_laminar o_holders o_law_draw o_law_pick o_law_web o_law_cuts o_law_first o_law_laminar o_law_holder o_law_two_right o_law_is_refused pu_law_right
  exact fn_law F  o_law_pot o_law_right pu_law
end K24
open PySem PySem.W PyProof.Rows
set_option maxHeartbeats 0 in
theorem PySem.Challenge.cw_wishways_k24_whole_uncrossing_holds : PySem.Challenge.rw_wishways_k24_whole_uncrossing.Holds := by
  w_on; o_law; k_head; (case hw => w_witness2)
  k_fill
  refine DL.walkG (l := PySem.Challenge.rw_wishways_k24_whole_uncrossing) (n := 63) (k := 11) (x := "script") (sp := fun K => DL.SpD K 1 DL.lawF) rfl (by decide) rfl ⟨⟨rfl, by decide, by decide⟩, rfl⟩ (fun w h Y => PySem.W.kIn_of Y) ?F (fun K H a ns hl hS => DL.law_spD K H a ns hl hS)
  case F =>
    intro w mg fa h KX G hmg
    refine' DL.step_of (x := "is_integer") (st := K24.s_is_integer) KX G ?a ?l ?c ?k (fun m_is_integer => ?_)
    (case a => k_is); (case l => k_is); (case c => k_is); (case k => k_is)
    refine' DL.step_of (x := "is_within") (st := K24.s_is_within) KX G ?a ?l ?c ?k (fun m_is_within => ?_)
    (case a => k_is); (case l => k_is); (case c => k_is); (case k => k_is)
    refine' DL.step_of (x := "is_listed") (st := K24.s_is_listed) KX G ?a ?l ?c ?k (fun m_is_listed => ?_)
    (case a => k_is); (case l => k_is); (case c => k_is); (case k => k_is)
    refine' DL.step_of (x := "is_tuple_of") (st := K24.s_is_tuple_of) KX G ?a ?l ?c ?k (fun m_is_tuple_of => ?_)
    (case a => k_is); (case l => k_is); (case c => k_is); (case k => k_is)
    refine' DL.step_of (x := "is_headed") (st := K24.s_is_headed) KX G ?a ?l ?c ?k (fun m_is_headed => ?_)
    (case a => k_is); (case l => k_is); (case c => k_is); (case k => k_is)
    refine' DL.step_of (x := "are_integers") (st := K24.s_are_integers) KX G ?a ?l ?c ?k (fun m_are_integers => ?_)
    (case a => k_is); (case l => k_is); (case c => k_is); (case k => k_is)
    refine' DL.step_of (x := "is_rising") (st := K24.s_is_rising) KX G ?a ?l ?c ?k (fun m_is_rising => ?_)
    (case a => k_is); (case l => k_is); (case c => k_is); (case k => k_is)
    refine' DL.step_of (x := "is_cut_of_many") (st := K24.s_is_cut_of_many) KX G ?a ?l ?c ?k (fun m_is_cut_of_many => ?_)
    (case a => k_is); (case l => k_is); (case c => k_is); (case k => k_is)
    refine' DL.step_of (x := "is_cut") (st := K24.s_is_cut) KX G ?a ?l ?c ?k (fun m_is_cut => ?_)
    (case a => k_is); (case l => k_is); (case c => k_is); (case k => k_is)
    refine' DL.step_of (x := "check_cut") (st := K24.s_check_cut) KX G ?a ?l ?c ?k (fun m_check_cut => ?_)
    (case a => k_is); (case l => k_is); (case c => k_is); (case k => k_is)
    refine' DL.step_of (x := "far_end") (st := K24.s_far_end) KX G ?a ?l ?c ?k (fun m_far_end => ?_)
    (case a => k_is); (case l => k_is); (case c => k_is); (case k => k_is)
    refine' DL.step_of (x := "come_to") (st := K24.s_come_to) KX G ?a ?l ?c ?k (fun m_come_to => ?_)
    (case a => k_is); (case l => k_is); (case c => k_is); (case k => k_is)
    refine' DL.step_of (x := "are_joined") (st := K24.s_are_joined) KX G ?a ?l ?c ?k (fun m_are_joined => ?_)
    (case a => k_is); (case l => k_is); (case c => k_is); (case k => k_is)
    refine' DL.step_of (x := "is_pair") (st := K24.s_is_pair) KX G ?a ?l ?c ?k (fun m_is_pair => ?_)
    (case a => k_is); (case l => k_is); (case c => k_is); (case k => k_is)
    refine' DL.step_of (x := "are_rows") (st := K24.s_are_rows) KX G ?a ?l ?c ?k (fun m_are_rows => ?_)
    (case a => k_is); (case l => k_is); (case c => k_is); (case k => k_is)
    refine' DL.step_of (x := "is_web") (st := K24.s_is_web) KX G ?a ?l ?c ?k (fun m_is_web => ?_)
    (case a => k_is); (case l => k_is); (case c => k_is); (case k => k_is)
    refine' DL.step_of (x := "check_web") (st := K24.s_check_web) KX G ?a ?l ?c ?k (fun m_check_web => ?_)
    (case a => k_is); (case l => k_is); (case c => k_is); (case k => k_is)
    refine' DL.step_of (x := "has_more") (st := K24.s_has_more) KX G ?a ?l ?c ?k (fun m_has_more => ?_)
    (case a => k_is); (case l => k_is); (case c => k_is); (case k => k_is)
    refine' DL.step_of (x := "do_cross") (st := K24.s_do_cross) KX G ?a ?l ?c ?k (fun m_do_cross => ?_)
    (case a => k_is); (case l => k_is); (case c => k_is); (case k => k_is)
    refine' DL.step_of (x := "become") (st := K24.s_become) KX G ?a ?l ?c ?k (fun m_become => ?_)
    (case a => k_is); (case l => k_is); (case c => k_is); (case k => k_is)
    refine' DL.step_of (x := "check_two_cuts") (st := K24.s_check_two_cuts) KX G ?a ?l ?c ?k (fun m_check_two_cuts => ?_)
    (case a => k_is); (case l => k_is); (case c => k_is); (case k => k_is)
    refine' DL.step_of (x := "check_cuts") (st := K24.s_check_cuts) KX G ?a ?l ?c ?k (fun m_check_cuts => ?_)
    (case a => k_is); (case l => k_is); (case c => k_is); (case k => k_is)
    refine' DL.step_of (x := "cuts_cross") (st := K24.s_cuts_cross) KX G ?a ?l ?c ?k (fun m_cuts_cross => ?_)
    (case a => k_is); (case l => k_is); (case c => k_is); (case k => k_is)
    refine' DL.step_of (x := "uncrossed") (st := K24.s_uncrossed) KX G ?a ?l ?c ?k (fun m_uncrossed => ?_)
    (case a => k_is); (case l => k_is); (case c => k_is); (case k => k_is)
    refine' DL.step_of (x := "first_crossing") (st := K24.s_first_crossing) KX G ?a ?l ?c ?k (fun m_first_crossing => ?_)
    (case a => k_is); (case l => k_is); (case c => k_is); (case k => k_is)
    refine' DL.step_of (x := "is_laminar") (st := K24.s_is_laminar) KX G ?a ?l ?c ?k (fun m_is_laminar => ?_)
    (case a => k_is); (case l => k_is); (case c => k_is); (case k => k_is)
    refine' DL.step_of (x := "made_laminar") (st := K24.s_made_laminar) KX G ?a ?l ?c ?k (fun m_made_laminar => ?_)
    (case a => k_is); (case l => k_is); (case c => k_is); (case k => k_is)
    refine' DL.step_of (x := "holder") (st := K24.s_holder) KX G ?a ?l ?c ?k (fun m_holder => ?_)
    (case a => k_is); (case l => k_is); (case c => k_is); (case k => k_is)
    refine' DL.step_of (x := "holders") (st := K24.s_holders) KX G ?a ?l ?c ?k (fun m_holders => ?_)
    (case a => k_is); (case l => k_is); (case c => k_is); (case k => k_is)
    refine' DL.step_of (x := "_law_pot") (st := K24.s_law_pot) KX G ?a ?l ?c ?k (fun m_law_pot => ?_)
    (case a => k_is); (case l => k_is); (case c => k_is); (case k => k_is)
    refine' DL.step_of (x := "_law_draw") (st := K24.s_law_draw) KX G ?a ?l ?c ?k (fun m_law_draw => ?_)
    (case a => k_is); (case l => k_is); (case c => k_is); (case k => k_is)
    refine' DL.step_of (x := "_law_pick") (st := K24.s_law_pick) KX G ?a ?l ?c ?k (fun m_law_pick => ?_)
    (case a => k_is); (case l => k_is); (case c => k_is); (case k => k_is)
    refine' DL.step_of (x := "_law_web") (st := K24.s_law_web) KX G ?a ?l ?c ?k (fun m_law_web => ?_)
    (case a => k_is); (case l => k_is); (case c => k_is); (case k => k_is)
    refine' DL.step_of (x := "_law_cuts") (st := K24.s_law_cuts) KX G ?a ?l ?c ?k (fun m_law_cuts => ?_)
    (case a => k_is); (case l => k_is); (case c => k_is); (case k => k_is)
    refine' DL.step_of (x := "_law_over") (st := K24.s_law_over) KX G ?a ?l ?c ?k (fun m_law_over => ?_)
    (case a => k_is); (case l => k_is); (case c => k_is); (case k => k_is)
    refine' DL.step_of (x := "_law_do_cross") (st := K24.s_law_do_cross) KX G ?a ?l ?c ?k (fun m_law_do_cross => ?_)
    (case a => k_is); (case l => k_is); (case c => k_is); (case k => k_is)
    refine' DL.step_of (x := "_law_uncrossed") (st := K24.s_law_uncrossed) KX G ?a ?l ?c ?k (fun m_law_uncrossed => ?_)
    (case a => k_is); (case l => k_is); (case c => k_is); (case k => k_is)
    refine' DL.step_of (x := "_law_first") (st := K24.s_law_first) KX G ?a ?l ?c ?k (fun m_law_first => ?_)
    (case a => k_is); (case l => k_is); (case c => k_is); (case k => k_is)
    refine' DL.step_of (x := "_law_laminar") (st := K24.s_law_laminar) KX G ?a ?l ?c ?k (fun m_law_laminar => ?_)
    (case a => k_is); (case l => k_is); (case c => k_is); (case k => k_is)
    refine' DL.step_of (x := "_law_holder") (st := K24.s_law_holder) KX G ?a ?l ?c ?k (fun m_law_holder => ?_)
    (case a => k_is); (case l => k_is); (case c => k_is); (case k => k_is)
    refine' DL.step_of (x := "_law_two_right") (st := K24.s_law_two_right) KX G ?a ?l ?c ?k (fun m_law_two_right => ?_)
    (case a => k_is); (case l => k_is); (case c => k_is); (case k => k_is)
    refine' DL.step_of (x := "_law_is_refused") (st := K24.s_law_is_refused) KX G ?a ?l ?c ?k (fun m_law_is_refused => ?_)
    (case a => k_is); (case l => k_is); (case c => k_is); (case k => k_is)
    refine' DL.step_of (x := "_law_right") (st := K24.s_law_right) KX G ?a ?l ?c ?k (fun m_law_right => ?_)
    (case a => k_is); (case l => k_is); (case c => k_is); (case k => k_is)
    refine' DL.step_of (x := "law") (st := K24.s_law) KX G ?a ?l ?c ?k (fun m_law => ?_)
    (case a => k_is); (case l => k_is); (case c => k_is); (case k => k_is)
    have z_MOST_CUTS : ∃ t, mg "MOST_CUTS" = some (.int 12 t) := by
      apply Exists.intro
      apply PySem.W.mg_of KX G
      k_is
    have z_MOST_PLACES : ∃ t, mg "MOST_PLACES" = some (.int 8 t) := by
      apply Exists.intro
      apply PySem.W.mg_of KX G
      k_is
    have z_MOST_ROOM : ∃ t, mg "MOST_ROOM" = some (.int 20 t) := by
      apply Exists.intro
      apply PySem.W.mg_of KX G
      k_is
    have z_MOST_TIES : ∃ t, mg "MOST_TIES" = some (.int 14 t) := by
      apply Exists.intro
      apply PySem.W.mg_of KX G
      k_is
    have z_abs : mg "abs" = none := by
      refine' PySem.W.mg_none_of KX G ?a
      (case a => k_is)
    have z_all : mg "all" = none := by
      refine' PySem.W.mg_none_of KX G ?a
      (case a => k_is)
    have z_any : mg "any" = none := by
      refine' PySem.W.mg_none_of KX G ?a
      (case a => k_is)
    have z_bool : mg "bool" = none := by
      refine' PySem.W.mg_none_of KX G ?a
      (case a => k_is)
    have z_divmod : mg "divmod" = none := by
      refine' PySem.W.mg_none_of KX G ?a
      (case a => k_is)
    have z_enumerate : mg "enumerate" = none := by
      refine' PySem.W.mg_none_of KX G ?a
      (case a => k_is)
    have z_int : mg "int" = none := by
      refine' PySem.W.mg_none_of KX G ?a
      (case a => k_is)
    have z_isinstance : mg "isinstance" = none := by
      refine' PySem.W.mg_none_of KX G ?a
      (case a => k_is)
    have z_len : mg "len" = none := by
      refine' PySem.W.mg_none_of KX G ?a
      (case a => k_is)
    have z_list : mg "list" = none := by
      refine' PySem.W.mg_none_of KX G ?a
      (case a => k_is)
    have z_max : mg "max" = none := by
      refine' PySem.W.mg_none_of KX G ?a
      (case a => k_is)
    have z_min : mg "min" = none := by
      refine' PySem.W.mg_none_of KX G ?a
      (case a => k_is)
    have z_range : mg "range" = none := by
      refine' PySem.W.mg_none_of KX G ?a
      (case a => k_is)
    have z_repr : mg "repr" = none := by
      refine' PySem.W.mg_none_of KX G ?a
      (case a => k_is)
    have z_set : mg "set" = none := by
      refine' PySem.W.mg_none_of KX G ?a
      (case a => k_is)
    have z_sorted : mg "sorted" = none := by
      refine' PySem.W.mg_none_of KX G ?a
      (case a => k_is)
    have z_str : mg "str" = none := by
      refine' PySem.W.mg_none_of KX G ?a
      (case a => k_is)
    have z_sum : mg "sum" = none := by
      refine' PySem.W.mg_none_of KX G ?a
      (case a => k_is)
    have z_tuple : mg "tuple" = none := by
      refine' PySem.W.mg_none_of KX G ?a
      (case a => k_is)
    have z_zip : mg "zip" = none := by
      refine' PySem.W.mg_none_of KX G ?a
      (case a => k_is)
    refine' DL.err_of (x := "InvalidCuts") (f := "value") (q := "InvalidCuts.__init__") (st := K24.s_init) KX G ?aC ?xL ?bm ?sa ?ga ?gg ?nb ?a1 ?t1 ?l1 ?c1 ?kf ?kC ?eC ?tC ?hC ?sC (fun T => ?_)
    (case aC => k_is); (case xL => k_is); (case bm => decide +kernel); (case sa => k_is); (case ga => k_is); (case gg => k_is); (case nb => k_is)
    (case a1 => k_is); (case t1 => k_is); (case l1 => k_is); (case c1 => k_is); (case kf => k_is)
    (case kC => k_is); (case eC => k_is); (case tC => k_is); (case hC => k_is); (case sC => first | rfl | k_is)
    obtain ⟨fd, hb, hF⟩ := K24.all_law T hmg m_is_integer m_is_within m_is_listed m_is_tuple_of m_is_headed m_are_integers m_is_rising m_is_cut_of_many m_is_cut m_check_cut m_far_end m_come_to m_are_joined m_is_pair m_are_rows m_is_web m_check_web m_has_more m_do_cross m_become m_check_two_cuts m_check_cuts m_cuts_cross m_uncrossed m_first_crossing m_is_laminar m_made_laminar m_holder m_holders m_law_pot m_law_draw m_law_pick m_law_web m_law_cuts m_law_over m_law_do_cross m_law_uncrossed m_law_first m_law_laminar m_law_holder m_law_two_right m_law_is_refused m_law_right m_law z_MOST_CUTS z_MOST_PLACES z_MOST_ROOM z_MOST_TIES z_abs z_all z_any z_bool z_divmod z_enumerate z_int z_isinstance z_len z_list z_max z_min z_range z_repr z_set z_sorted z_str z_sum z_tuple z_zip
    exact ⟨fd, hb, fun base _ _ => hF base⟩
