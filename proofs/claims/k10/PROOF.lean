import PyProof.Rows.All
import Wide.All
import OpenK.AllK
import Wide.FinOn
import HandS.ForMost
import HandS.Evl
import HandS.Exc
import HandS.IsInst
import HandS.Zip
import HandS.Gcd
import HandS.Wide
import HandS.WideBits
import HandS.Deep
import HandS.TupAny
import HandS.Lambda
import HandS.TupMul
import HandS.TupLe
import HandS.Style
import PyProof.ReprRoads
import PyProof.CallFns
import KE.DataEq
import KE.SortData
import KE.DataMinMax
import HandS.SortOrd
import HandS.Conv
import HandS.DictTup
import HandS.More
import PyProof.AutoSeq1
import HandS.DictComp
import KE.GoesEnum
import HandS.Flow
import KE.KEqDict
import KE.KDictZip
import KE.KDictItemsList
import KE.KTupSum
import HandS.ExcInit
import HandS.ExcField
import HandS.ExcOwn
import HandS.WordsExc
import HandS.ExcIs
import HandS.TupSets
import KE.GoesZip
import PyProof.Rows.IntBool
import HandS.SetFor
import KE.KDictCopyH
import KE.DataMinKey
import HandS.FltList
import HandS.EndTab
import KE.KNest
import KE.KDictPairs
import KE.GoesMore
import KE.KDictWalk
import HandS.StrMore
import PyProof.StrBlock2
import HandS.Nested
import HandS.CallLocal
import PyProof.ReprLen
import PyProof.ExcBaseAll.RuntimeError
import PyProof.ExcBaseAll.LookupError
import PyProof.ExcBaseAll.ArithmeticError
import PySem.Challenge.RW_wishways_k10_numbers_refused
set_option Elab.async false
set_option linter.all false
set_option maxRecDepth 100000
set_option maxHeartbeats 4000000
namespace DL
open PySem PySem.Spec PyProof.Rows L2 Evl
mutual
inductive Dv (K : PySem.W.Frag) (H : Hp) : V → PyData → Prop
  | non : Dv K H .non .none
  | bl (b : Bool) : Dv K H (.bl b) (.bool b)
  | int (i : Int) : Dv K H (.int i) (.int i)
  | str (z : Str) : Dv K H (.str z) (.str z)
  | lst {p : Addr} {vs : List V} {ds : List PyData} : SqL K H p vs → DvAll K H vs ds → Dv K H (.ref p) (.list ds)
  | tup {p : Addr} {vs : List V} {ds : List PyData} : H p = some (.tup vs) → DvAll K H vs ds → Dv K H (.ref p) (.tuple ds)
  | emp {p : Addr} : H p = some (.dK []) → Dv K H (.ref p) (.dict [])
inductive DvAll (K : PySem.W.Frag) (H : Hp) : List V → List PyData → Prop
  | nil : DvAll K H [] []
  | cons {v : V} {vs : List V} {d : PyData} {ds : List PyData} : Dv K H v d → DvAll K H vs ds → DvAll K H (v :: vs) (d :: ds)
end
mutual
theorem Dv.dp {K : PySem.W.Frag} {H : Hp} : ∀ (d : PyData) (v : V), Dv K H v d → d.canLay0 = true → L2.Dp K H v d
  | .none, _, h, _ => by cases h; exact .non
  | .bool _, _, h, _ => by cases h; exact .bl _
  | .int _, _, h, _ => by cases h; exact .int _
  | .str _, _, h, _ => by cases h; exact .str _
  | .list ds, _, h, c => by
    cases h with
    | lst hs ha => exact .lst hs (DvAll.dp ds _ ha (by simpa [PyData.canLay0] using c))
  | .tuple ds, _, h, c => by
    cases h with
    | tup hs ha => exact .tup (SqT.of hs) (DvAll.dp ds _ ha (by simpa [PyData.canLay0] using c))
  | .dict _, _, _, c => by simp [PyData.canLay0] at c
theorem DvAll.dp {K : PySem.W.Frag} {H : Hp} : ∀ (ds : List PyData) (vs : List V), DvAll K H vs ds → PyData.canLayAll0 ds = true → L2.DpAll K H vs ds
  | [], _, h, _ => by cases h; exact .nil
  | d :: ds, _, h, c => by
    have c' : d.canLay0 = true ∧ PyData.canLayAll0 ds = true := by simpa [PyData.canLayAll0] using c
    cases h with
    | cons h1 h2 => exact .cons (Dv.dp d _ h1 c'.1) (DvAll.dp ds _ h2 c'.2)
end
theorem Dv.dpS {K : PySem.W.Frag} {H : Hp} {v : V} {d : PyData} (h : Dv K H v d) (c : SeqAt.shaped d = true) : L2.Dp K H v d := Dv.dp d v h (SeqAt.canLay_of_shaped c)
section
variable {X : Cx} {pins : List (Addr × Obj)} {σ : L2.St} {H : Hp} {s : Shared}
theorem dict_reads (I : Inv X pins σ H s) {p : Addr} (h : H p = some (.dK [])) : Reads s.heap (.ref p) (.dict []) [p] ∧ p ≠ sysModules := by
  obtain ⟨_, ne, vs, kv, o, es, ep, ho, hx, hd, _, hp, _⟩ := I.hok p _ h
  cases kv
  have e : es.toList = [] := List.eq_nil_of_length_eq_zero hp.length
  refine ⟨Reads.dict (as := []) (bs := []) ho hx.1 hd (by rw [e]; exact .nil) (by rw [e]; exact .nil), fun z => ?_⟩
  subst z
  simp at ne
mutual
theorem Dv.reads (I : Inv X pins σ H s) : ∀ (d : PyData) (v : V) (u : Value), Dv X.K H v d → RelV v u → ∃ as, Reads s.heap u d as
  | .none, _, _, h, r => by cases h; cases r; exact ⟨_, Reads.none⟩
  | .bool b, _, _, h, r => by cases h; cases r; exact ⟨_, Reads.bool b⟩
  | .int i, _, _, h, r => by cases h; obtain ⟨t, rfl⟩ := r; exact ⟨_, Reads.int i t⟩
  | .str x, _, _, h, r => by cases h; obtain ⟨t, rfl⟩ := r; exact ⟨_, Reads.str x t⟩
  | .list ds, _, _, h, r => by
    cases h with
    | lst hs ha =>
      cases r
      have ⟨its, rv, q, _⟩ := I.list hs
      have ⟨o, n, ho, hc, _, hd⟩ := q
      have ⟨as, hr⟩ := Dv.readsAll I ds _ its ha rv
      exact ⟨_, Reads.list ho hc hd hr⟩
  | .tuple ds, _, _, h, r => by
    cases h with
    | tup hs ha =>
      cases r
      have ⟨its, rv, q, _⟩ := I.tuple (SqT.of hs)
      have ⟨o, ho, hc, n, hd⟩ := q
      have ⟨as, hr⟩ := Dv.readsAll I ds _ its ha rv
      exact ⟨_, Reads.tuple ho hc hd hr⟩
  | .dict _, _, _, h, r => by
    cases h with
    | emp hs => cases r; exact ⟨_, (dict_reads I hs).1⟩
theorem Dv.readsAll (I : Inv X pins σ H s) : ∀ (ds : List PyData) (vs : List V) (us : List Value), DvAll X.K H vs ds → Vals vs us → ∃ as, ReadsAll s.heap us ds as
  | [], _, _, h, r => by cases h; cases r; exact ⟨_, ReadsAll.nil⟩
  | d :: ds, _, _, h, r => by
    cases h with
    | cons h1 h2 =>
      cases r with
      | cons r1 r2 =>
        have ⟨as, q1⟩ := Dv.reads I d _ _ h1 r1
        have ⟨bs, q2⟩ := Dv.readsAll I ds _ _ h2 r2
        exact ⟨_, ReadsAll.cons q1 q2⟩
end
end
mutual
theorem dp_mono {K : PySem.W.Frag} {H H' : Hp} (e : Ex H H') : ∀ (d : PyData) (v : V), Dv K H v d → Dv K H' v d
  | .none, _, h => by cases h; exact .non
  | .bool _, _, h => by cases h; exact .bl _
  | .int _, _, h => by cases h; exact .int _
  | .str _, _, h => by cases h; exact .str _
  | .list ds, _, h => by
    cases h with
    | lst hs ha => exact .lst (ex_l e hs) (dpAll_mono e ds _ ha)
  | .tuple ds, _, h => by
    cases h with
    | tup hs ha => exact .tup (e _ _ hs) (dpAll_mono e ds _ ha)
  | .dict _, _, h => by
    cases h with
    | emp hs => exact .emp (e _ _ hs)
theorem dpAll_mono {K : PySem.W.Frag} {H H' : Hp} (e : Ex H H') : ∀ (ds : List PyData) (vs : List V), DvAll K H vs ds → DvAll K H' vs ds
  | [], _, h => by cases h; exact .nil
  | d :: ds, _, h => by
    cases h with
    | cons h1 h2 => exact .cons (dp_mono e d _ h1) (dpAll_mono e ds _ h2)
end
section
variable {K : PySem.W.Frag} {H H' : Hp}
theorem Dv.mono {v : V} {d : PyData} (h : Dv K H v d) (e : Ex H H') : Dv K H' v d := dp_mono e d v h
theorem DvAll.mono {vs : List V} {ds : List PyData} (h : DvAll K H vs ds) (e : Ex H H') : DvAll K H' vs ds := dpAll_mono e ds vs h
theorem DvAll.length : ∀ {vs : List V} {ds : List PyData}, DvAll K H vs ds → vs.length = ds.length
  | _, _, .nil => rfl
  | _, _, .cons _ t => by simp [DvAll.length t]
theorem DvAll.app : ∀ {vs us : List V} {ds es : List PyData}, DvAll K H vs ds → DvAll K H us es → DvAll K H (vs ++ us) (ds ++ es)
  | _, _, _, _, .nil, h => h
  | _, _, _, _, .cons a t, h => .cons a (DvAll.app t h)
theorem DvAll.get : ∀ {vs : List V} {ds : List PyData} {i : Nat} {d : PyData}, DvAll K H vs ds → ds[i]? = some d → ∃ v, vs[i]? = some v ∧ Dv K H v d
  | _, _, _, _, .nil, e => by simp at e
  | _, _, 0, _, .cons a _, e => by simp at e; subst e; exact ⟨_, rfl, a⟩
  | _, _, i + 1, d, .cons _ t, e => by
    obtain ⟨v, h1, h2⟩ := DvAll.get (i := i) (d := d) t (by simpa using e)
    exact ⟨v, by simpa using h1, h2⟩
theorem DvAll.set : ∀ {vs : List V} {ds : List PyData} {v : V} {d : PyData} (i : Nat), DvAll K H vs ds → Dv K H v d → DvAll K H (vs.set i v) (ds.set i d)
  | _, _, _, _, _, .nil, _ => .nil
  | _, _, _, _, 0, .cons _ t, h => .cons h t
  | _, _, _, _, i + 1, .cons a t, h => .cons a (DvAll.set i t h)
theorem DvAll.take : ∀ {vs : List V} {ds : List PyData} (n : Nat), DvAll K H vs ds → DvAll K H (vs.take n) (ds.take n)
  | _, _, 0, _ => by simp; exact .nil
  | _, _, _ + 1, .nil => .nil
  | _, _, n + 1, .cons a t => .cons a (DvAll.take n t)
theorem DvAll.drop : ∀ {vs : List V} {ds : List PyData} (n : Nat), DvAll K H vs ds → DvAll K H (vs.drop n) (ds.drop n)
  | _, _, 0, r => r
  | _, _, _ + 1, .nil => .nil
  | _, _, n + 1, .cons _ t => DvAll.drop n t
theorem DvAll.ints : ∀ (is : List Int), DvAll K H (is.map V.int) (is.map PyData.int)
  | [] => .nil
  | i :: is => .cons (.int i) (DvAll.ints is)
theorem DvAll.of_bools : ∀ (is : List Bool) {vs : List V}, DvAll K H vs (is.map PyData.bool) → vs = is.map V.bl
  | [], _, h => by cases h; rfl
  | i :: is, _, h => by
    cases h with
    | cons a t =>
      cases a
      rw [DvAll.of_bools is t]
      rfl
end
inductive Sl where
  | dat (d : PyData)
  | vw (d : PyData)
  | cell (k : Nat)
  | raw (es : List (Nat ⊕ PyData))
  | rtup (es : List (Nat ⊕ PyData))
inductive TabI where
  | nm (q : Str)
  | fn (p : Heap → Prop) (c : Addr) (oc : HO) (vs : List V) (ds : List PyData)
instance : Coe Str TabI := ⟨.nm⟩
inductive Cell where
  | lst (ds : List PyData)
  | dct (kvs : List (Key × PyData))
  | dctT (kvs : List (List Key × PyData))
  | tab (P : Addr) (q : TabI)
def Cell.isTab : Cell → Bool
  | .tab .. => true
  | _ => false
abbrev Rho := List (Option Sl)
abbrev Mu := List Cell
structure Wd where
  G : Hp
  F : Hp
  ad : List Addr
structure Le (W W' : Wd) : Prop where
  g : Ex W.G W'.G
  f : Ex W.F W'.F
  n : ∀ b, W.F b ≠ none → W.G b = none → (∀ xs, W.F b ≠ some (.tup xs)) → W'.G b = none
  a : ∀ (k : Nat) (x : Addr), W.ad[k]? = some x → W'.ad[k]? = some x
theorem Le.refl (W : Wd) : Le W W := ⟨Ex.refl _, Ex.refl _, fun _ _ h _ => h, fun _ _ h => h⟩
theorem Le.trans {W W1 W2 : Wd} (a : Le W W1) (b : Le W1 W2) : Le W W2 :=
  ⟨a.g.trans b.g, a.f.trans b.f, fun x h1 h2 h3 => b.n x (fun z => by
      cases q : W.F x with
      | none => exact h1 q
      | some o => rw [a.f x o q] at z; cases z) (a.n x h1 h2 h3) (fun xs z => by
      cases q : W.F x with
      | none => exact h1 q
      | some o => rw [a.f x o q] at z; cases z; exact h3 xs q), fun k x h => b.a k x (a.a k x h)⟩
def TblOk (G : Hp) (q : Str) (ps : Array Value) : Prop := TriplesOk ps.toList ∧ ∀ (pos : Pos) (cv : Value), codeAmong pos ps.toList = some cv → ∃ c, cv = .ref c ∧ G c = some (LamX.CodeO c q)
theorem TblOk.mono {G G' : Hp} (e : Ex G G') {q : Str} {ps : Array Value} (h : TblOk G q ps) : TblOk G' q ps := ⟨h.1, fun pos cv hc => let ⟨c, h1, h2⟩ := h.2 pos cv hc; ⟨c, h1, e _ _ h2⟩⟩
def CellOk (K : PySem.W.Frag) (G : Hp) : HO → Cell → Prop
  | .lst xs, .lst ds => DvAll K G xs ds
  | .dK kvs, .dct es => Paired (fun (p : Key × V) (q : Key × PyData) => p.1 = q.1 ∧ Dv K G p.2 q.2) kvs es
  | .dT kvs, .dctT es => Paired (fun (p : List Key × V) (q : List Key × PyData) => p.1 = q.1 ∧ Dv K G p.2 q.2) kvs es
  | .tbl ps, .tab _ (.nm q) => TblOk G q ps
  | .ext p, .tab _ (.fn p' c oc vs ds) => p = p' ∧ G c = some oc ∧ DvAll K G vs ds
  | _, _ => False
theorem CellOk.mono {K : PySem.W.Frag} {G G' : Hp} (e : Ex G G') {o : HO} {c : Cell} (h : CellOk K G o c) : CellOk K G' o c := by
  cases c with
  | tab P q =>
    cases q with
    | nm q => cases o <;> first | exact TblOk.mono e h | exact False.elim h
    | fn p' c oc vs ds =>
      cases o <;> first | exact False.elim h | skip
      replace h : _ = p' ∧ G c = some oc ∧ DvAll K G vs ds := h
      exact ⟨h.1, e _ _ h.2.1, h.2.2.mono e⟩
  | lst ds => cases o <;> first | exact DvAll.mono (show DvAll K G _ ds from h) e | exact False.elim h
  | dct es => cases o <;> first | exact Paired.mapP (show Paired _ _ es from h) (fun p q z => ⟨z.1, z.2.mono e⟩) | exact False.elim h
  | dctT es => cases o <;> first | exact Paired.mapP (show Paired _ _ es from h) (fun p q z => ⟨z.1, z.2.mono e⟩) | exact False.elim h
structure Rep (K : PySem.W.Frag) (W : Wd) (H : Hp) (μ : Mu) : Prop where
  gf : Ex W.G W.F
  fh : Ex W.F H
  len : W.ad.length = μ.length
  nd : ∀ (i j : Nat) (a : Addr), W.ad[i]? = some a → W.ad[j]? = some a → i = j
  cell : ∀ (k : Nat) (a : Addr) (c : Cell), W.ad[k]? = some a → μ[k]? = some c → W.F a = none ∧ ∃ o, H a = some o ∧ CellOk K W.G o c
  tab : ∀ (k : Nat) (P : Addr) (q : TabI), μ[k]? = some (.tab P q) → W.ad[k]? = some P
theorem Rep.gh {K : PySem.W.Frag} {W : Wd} {H : Hp} {μ : Mu} (r : Rep K W H μ) : Ex W.G H := r.gf.trans r.fh
def ItOk1 (K : PySem.W.Frag) (W : Wd) (v : V) : Nat ⊕ PyData → Prop
  | .inl k => ∃ a, W.ad[k]? = some a ∧ v = .ref a
  | .inr d => Dv K W.G v d
theorem ItOk1.mono {K : PySem.W.Frag} {W W' : Wd} (l : Le W W') {v : V} {e : Nat ⊕ PyData} (h : ItOk1 K W v e) : ItOk1 K W' v e := by
  cases e with
  | inl k => obtain ⟨a, h1, h2⟩ := h; exact ⟨a, l.a k a h1, h2⟩
  | inr d => exact Dv.mono (show Dv K W.G v d from h) l.g
def RefsAll (K : PySem.W.Frag) (W : Wd) (xs : List V) (es : List (Nat ⊕ PyData)) : Prop := xs.length = es.length ∧ ∀ (i : Nat) (e : Nat ⊕ PyData), es[i]? = some e → ∃ u, xs[i]? = some u ∧ ItOk1 K W u e
theorem RefsAll.le {K : PySem.W.Frag} {W W' : Wd} {xs : List V} {es : List (Nat ⊕ PyData)} (h : RefsAll K W xs es) (l : Le W W') : RefsAll K W' xs es := ⟨h.1, fun i e z => let ⟨u, z1, z2⟩ := h.2 i e z; ⟨u, z1, z2.mono l⟩⟩
def SlOk (K : PySem.W.Frag) (W : Wd) (v : V) : Sl → Prop
  | .dat d => Dv K W.G v d
  | .vw d => Dv K W.F v d
  | .cell k => ∃ a, W.ad[k]? = some a ∧ v = .ref a
  | .raw es => ∃ p xs, v = .ref p ∧ W.F p = some (.lst xs) ∧ RefsAll K W xs es
  | .rtup es => ∃ p xs, v = .ref p ∧ W.F p = some (.tup xs) ∧ RefsAll K W xs es
theorem SlOk.mono {K : PySem.W.Frag} {W W' : Wd} (l : Le W W') {v : V} {s : Sl} (h : SlOk K W v s) : SlOk K W' v s := by
  cases s with
  | dat d => exact Dv.mono (show Dv K W.G v d from h) l.g
  | vw d => exact Dv.mono (show Dv K W.F v d from h) l.f
  | cell k => obtain ⟨a, h1, h2⟩ := h; exact ⟨a, l.a k a h1, h2⟩
  | raw es => obtain ⟨p, xs, h1, h2, h3⟩ := h; exact ⟨p, xs, h1, l.f _ _ h2, h3.le l⟩
  | rtup es => obtain ⟨p, xs, h1, h2, h3⟩ := h; exact ⟨p, xs, h1, l.f _ _ h2, h3.le l⟩
inductive SlAll (K : PySem.W.Frag) (W : Wd) : List V → List Sl → Prop
  | nil : SlAll K W [] []
  | cons {v : V} {vs : List V} {s : Sl} {ss : List Sl} : SlOk K W v s → SlAll K W vs ss → SlAll K W (v :: vs) (s :: ss)
theorem SlAll.mono {K : PySem.W.Frag} {W W' : Wd} (l : Le W W') : ∀ {vs : List V} {ss : List Sl}, SlAll K W vs ss → SlAll K W' vs ss
  | _, _, .nil => .nil
  | _, _, .cons a t => .cons (a.mono l) (SlAll.mono l t)
theorem SlAll.length {K : PySem.W.Frag} {W : Wd} : ∀ {vs : List V} {ss : List Sl}, SlAll K W vs ss → vs.length = ss.length
  | _, _, .nil => rfl
  | _, _, .cons _ t => by simp [SlAll.length t]
theorem SlAll.get {K : PySem.W.Frag} {W : Wd} : ∀ {vs : List V} {ss : List Sl} {i : Nat} {s : Sl}, SlAll K W vs ss → ss[i]? = some s → ∃ v, vs[i]? = some v ∧ SlOk K W v s
  | _, _, _, _, .nil, e => by simp at e
  | _, _, 0, _, .cons a _, e => by simp at e; subst e; exact ⟨_, rfl, a⟩
  | _, _, i + 1, d, .cons _ t, e => by
    obtain ⟨v, h1, h2⟩ := SlAll.get (i := i) (s := d) t (by simpa using e)
    exact ⟨v, by simpa using h1, h2⟩
structure EnvOk (K : PySem.W.Frag) (W : Wd) (σ : L2.St) (ρ : Rho) : Prop where
  len : σ.length = ρ.length
  get : ∀ (i : Nat) (s : Sl), ρ[i]? = some (some s) → ∃ v, σ[i]? = some (some v) ∧ SlOk K W v s
theorem EnvOk.mono {K : PySem.W.Frag} {W W' : Wd} {σ : L2.St} {ρ : Rho} (h : EnvOk K W σ ρ) (l : Le W W') : EnvOk K W' σ ρ :=
  ⟨h.len, fun i s e => let ⟨v, h1, h2⟩ := h.get i s e; ⟨v, h1, h2.mono l⟩⟩
theorem EnvOk.set {K : PySem.W.Frag} {W : Wd} {σ : L2.St} {ρ : Rho} (h : EnvOk K W σ ρ) (i : Nat) {v : V} {s : Sl} (hs : SlOk K W v s) : EnvOk K W (σ.set i (some v)) (ρ.set i (some s)) := by
  refine ⟨by simp [h.len], fun j t e => ?_⟩
  by_cases hij : i = j
  · subst hij
    have hl : i < ρ.length := by
      have := (List.getElem?_eq_some_iff.mp e).1
      simpa using this
    rw [List.getElem?_set_self hl] at e
    cases e
    refine ⟨v, ?_, hs⟩
    rw [List.getElem?_set_self (by rw [h.len]; exact hl)]
  · rw [List.getElem?_set_ne hij] at e
    obtain ⟨w, h1, h2⟩ := h.get j t e
    refine ⟨w, ?_, h2⟩
    rw [List.getElem?_set_ne hij]
    exact h1
def rdC : Option Cell → Option PyData
  | some (.lst ds) => some (.list ds)
  | _ => none
def rd (μ : Mu) : Sl → Option PyData
  | .dat d => some d
  | .vw d => some d
  | .cell k => rdC μ[k]?
  | .raw _ => none
  | .rtup _ => none
def mkVw : PyData → Sl
  | .none => .dat .none
  | .bool b => .dat (.bool b)
  | .int i => .dat (.int i)
  | .str z => .dat (.str z)
  | d => .vw d
def isV : Sl → Bool
  | .vw _ => true
  | _ => false
def mk (b : Bool) (d : PyData) : Sl := if b then mkVw d else .dat d
def elt (s : Sl) (d : PyData) : Sl := mk (isV s) d
def bh (W : Wd) (b : Bool) : Hp := if b then W.F else W.G
theorem slOk_mkVw {K : PySem.W.Frag} {W : Wd} {v : V} {d : PyData} (h : Dv K W.F v d) : SlOk K W v (mkVw d) := by
  cases d with
  | none => cases h; exact Dv.non
  | bool b => cases h; exact Dv.bl b
  | int i => cases h; exact Dv.int i
  | str z => cases h; exact Dv.str z
  | list ds => exact h
  | tuple ds => exact h
  | dict kvs => exact h
section
variable {K : PySem.W.Frag} {W : Wd} {H : Hp} {μ : Mu} {v : V} {s : Sl} {d : PyData}
theorem rd_dp (r : Rep K W H μ) (h : SlOk K W v s) (e : rd μ s = some d) : Dv K H v d := by
  cases s with
  | dat d' => cases e; exact Dv.mono (show Dv K W.G v _ from h) r.gh
  | vw d' => cases e; exact Dv.mono (show Dv K W.F v _ from h) r.fh
  | raw w => cases e
  | rtup w => cases e
  | cell k =>
    obtain ⟨a, h1, rfl⟩ := h
    replace e : rdC μ[k]? = _ := e
    cases q : μ[k]? with
    | none => rw [q] at e; cases e
    | some c =>
      rw [q] at e
      cases c with
      | lst ds =>
        cases e
        obtain ⟨_, o, ho, hc⟩ := r.cell k a _ h1 q
        cases o <;> first | exact False.elim hc | skip
        exact .lst (.inl (.inl ho)) (DvAll.mono hc r.gh)
      | dct es => cases e
      | dctT es => cases e
      | tab P q => cases e
theorem slOk_mk {b : Bool} (h : Dv K (bh W b) v d) : SlOk K W v (mk b d) := by
  cases b with
  | true => exact slOk_mkVw h
  | false => exact h
theorem bh_ff {b : Bool} (e : Ex W.G W.F) : Ex (bh W b) W.F := by
  cases b with
  | true => exact Ex.refl _
  | false => exact e
theorem bh_or1 {b c : Bool} (e : Ex W.G W.F) : Ex (bh W b) (bh W (b || c)) := by
  cases b with
  | true => exact Ex.refl _
  | false =>
    cases c with
    | true => exact e
    | false => exact Ex.refl _
theorem bh_or2 {b c : Bool} (e : Ex W.G W.F) : Ex (bh W c) (bh W (b || c)) := by
  rw [Bool.or_comm]
  exact bh_or1 e
theorem bh_le {W' : Wd} (l : Le W W') (b : Bool) : Ex (bh W b) (bh W' b) := by
  cases b with
  | true => exact l.f
  | false => exact l.g
def Its (K : PySem.W.Frag) (W : Wd) (s : Sl) (xs : List V) (ds : List PyData) : Prop := DvAll K (bh W (isV s)) xs ds
theorem Its.get {xs : List V} {ds : List PyData} {i : Nat} (h : Its K W s xs ds) (e : ds[i]? = some d) : ∃ v, xs[i]? = some v ∧ SlOk K W v (elt s d) := by
  obtain ⟨v, h1, h2⟩ := DvAll.get h e
  exact ⟨v, h1, slOk_mk h2⟩
theorem Its.length {xs : List V} {ds : List PyData} (h : Its K W s xs ds) : xs.length = ds.length := DvAll.length h
theorem Its.mono {W' : Wd} (l : Le W W') {xs : List V} {ds : List PyData} (h : Its K W s xs ds) : Its K W' s xs ds := DvAll.mono h (bh_le l _)
theorem rd_lst {ds : List PyData} (r : Rep K W H μ) (h : SlOk K W v s) (e : rd μ s = some (.list ds)) : ∃ a xs, v = .ref a ∧ SqL K H a xs ∧ Its K W s xs ds := by
  cases s with
  | dat d' =>
    cases e
    cases (show Dv K W.G v (.list ds) from h) with
    | lst hs ha => exact ⟨_, _, rfl, ex_l r.gh hs, ha⟩
  | vw d' =>
    cases e
    cases (show Dv K W.F v (.list ds) from h) with
    | lst hs ha => exact ⟨_, _, rfl, ex_l r.fh hs, ha⟩
  | raw w => cases e
  | rtup w => cases e
  | cell k =>
    obtain ⟨a, h1, rfl⟩ := h
    replace e : rdC μ[k]? = _ := e
    cases q : μ[k]? with
    | none => rw [q] at e; cases e
    | some c =>
      rw [q] at e
      cases c with
      | lst ds' =>
        cases e
        obtain ⟨_, o, ho, hc⟩ := r.cell k a _ h1 q
        cases o <;> first | exact False.elim hc | skip
        exact ⟨a, _, rfl, .inl (.inl ho), hc⟩
      | dct es => cases e
      | dctT es => cases e
      | tab P q => cases e
theorem rd_tup {ds : List PyData} (r : Rep K W H μ) (h : SlOk K W v s) (e : rd μ s = some (.tuple ds)) : ∃ a xs, v = .ref a ∧ SqT K H a xs ∧ Its K W s xs ds := by
  cases s with
  | dat d' =>
    cases e
    cases (show Dv K W.G v (.tuple ds) from h) with
    | tup hs ha => exact ⟨_, _, rfl, SqT.of (r.gh _ _ hs), ha⟩
  | vw d' =>
    cases e
    cases (show Dv K W.F v (.tuple ds) from h) with
    | tup hs ha => exact ⟨_, _, rfl, SqT.of (r.fh _ _ hs), ha⟩
  | raw w => cases e
  | rtup w => cases e
  | cell k =>
    replace e : rdC μ[k]? = _ := e
    cases q : μ[k]? with
    | none => rw [q] at e; cases e
    | some c => rw [q] at e; cases c <;> cases e
theorem rd_int {i : Int} (r : Rep K W H μ) (h : SlOk K W v s) (e : rd μ s = some (.int i)) : v = .int i := by cases rd_dp r h e; rfl
theorem rd_bool {i : Bool} (r : Rep K W H μ) (h : SlOk K W v s) (e : rd μ s = some (.bool i)) : v = .bl i := by cases rd_dp r h e; rfl
theorem rd_str {i : Str} (r : Rep K W H μ) (h : SlOk K W v s) (e : rd μ s = some (.str i)) : v = .str i := by cases rd_dp r h e; rfl
theorem rd_none (r : Rep K W H μ) (h : SlOk K W v s) (e : rd μ s = some .none) : v = .non := by cases rd_dp r h e; rfl
end
def Wd.new (W : Wd) (p : Addr) (o : HO) : Wd := ⟨upd W.G p o, upd W.F p o, W.ad⟩
section
variable {K : PySem.W.Frag} {W : Wd} {H : Hp} {μ : Mu} {p : Addr} {o : HO}
theorem Rep.fresh (r : Rep K W H μ) (hp : H p = none) : W.F p = none ∧ W.G p = none := by
  have h1 := fresh_back r.fh hp
  exact ⟨h1, fresh_back r.gf h1⟩
theorem Le.new (r : Rep K W H μ) (hp : H p = none) : Le W (W.new p o) := by
  obtain ⟨h1, h2⟩ := r.fresh hp
  refine ⟨Ex.new h2, Ex.new h1, fun b hb hg _ => ?_, fun _ _ h => h⟩
  show upd W.G p o b = none
  rw [upd_ne (show b ≠ p from fun z => hb (z ▸ h1))]
  exact hg
theorem ex_upd {A B : Hp} (e : Ex A B) : Ex (upd A p o) (upd B p o) := fun a u h => by
  by_cases q : a = p
  · subst q; rw [upd_same] at h ⊢; exact h
  · rw [upd_ne q] at h ⊢; exact e a u h
theorem Rep.new (r : Rep K W H μ) (hp : H p = none) : Rep K (W.new p o) (upd H p o) μ := by
  obtain ⟨h1, h2⟩ := r.fresh hp
  refine ⟨ex_upd r.gf, ex_upd r.fh, r.len, r.nd, fun k a c ha hc => ?_, r.tab⟩
  obtain ⟨q1, o', q2, q3⟩ := r.cell k a c ha hc
  have ne : a ≠ p := fun z => by rw [z, hp] at q2; cases q2
  refine ⟨?_, o', ?_, q3.mono (Ex.new h2)⟩
  · show upd W.F p o a = none
    rw [upd_ne ne]; exact q1
  · rw [upd_ne ne]; exact q2
end
end DL
namespace DL
open PySem PySem.Spec PyProof.Rows L2 Evl
abbrev DQ := Sl → Mu → Prop
abbrev DE := Rho → Mu → DQ → Prop
abbrev DT := Rho → Mu → (Bool → Mu → Prop) → Prop
abbrev DA := Rho → Mu → (List Sl → Mu → Prop) → Prop
structure DEnds where
  nx : Rho → Mu → Prop
  rt : Sl → Mu → Prop
  bk : Rho → Mu → Prop := fun _ _ => False
  ct : Rho → Mu → Prop := fun _ _ => False
abbrev DS := DEnds → Rho → Mu → Prop
section
variable (K : PySem.W.Frag)
def VOk (W : Wd) (Q' : DQ) (Q : VK) : Prop := ∀ v s W' H' μ', Le W W' → Rep K W' H' μ' → SlOk K W' v s → Q' s μ' → Q v H'
def BOk (W : Wd) (Q' : Bool → Mu → Prop) (Q : Bool → Hp → Prop) : Prop := ∀ b W' H' μ', Le W W' → Rep K W' H' μ' → Q' b μ' → Q b H'
def AOk (W : Wd) (Q' : List Sl → Mu → Prop) (Q : List V → Hp → Prop) : Prop := ∀ vs ss W' H' μ', Le W W' → Rep K W' H' μ' → SlAll K W' vs ss → Q' ss μ' → Q vs H'
def NOk (W : Wd) (Q' : Rho → Mu → Prop) (Q : L2.St → Hp → Prop) : Prop := ∀ σ' ρ' W' H' μ', Le W W' → Rep K W' H' μ' → EnvOk K W' σ' ρ' → Q' ρ' μ' → Q σ' H'
structure EndsOk (W : Wd) (D' : DEnds) (D : Ends) : Prop where
  nx : NOk K W D'.nx D.nx
  rt : VOk K W D'.rt D.rt
  bk : NOk K W D'.bk D.bk
  ct : NOk K W D'.ct D.ct
def LE (t : TE) (d : DE) : Prop := ∀ ρ μ Q', d ρ μ Q' → ∀ W σ H, EnvOk K W σ ρ → Rep K W H μ → ∀ Q : VK, VOk K W Q' Q → t σ H Q
def LT (t : TT) (d : DT) : Prop := ∀ ρ μ Q', d ρ μ Q' → ∀ W σ H, EnvOk K W σ ρ → Rep K W H μ → ∀ Q : Bool → Hp → Prop, BOk K W Q' Q → t σ H Q
def LA (t : TA) (d : DA) : Prop := ∀ ρ μ Q', d ρ μ Q' → ∀ W σ H, EnvOk K W σ ρ → Rep K W H μ → ∀ Q : List V → Hp → Prop, AOk K W Q' Q → t σ H Q
def LS (t : TS) (d : DS) : Prop := ∀ D' ρ μ, d D' ρ μ → ∀ W σ H, EnvOk K W σ ρ → Rep K W H μ → ∀ D : Ends, EndsOk K W D' D → t D σ H
end
section
variable {K : PySem.W.Frag} {W W' : Wd}
theorem VOk.le (l : Le W W') {Q' : DQ} {Q : VK} (h : VOk K W Q' Q) : VOk K W' Q' Q := fun v s W2 H2 μ2 l2 => h v s W2 H2 μ2 (l.trans l2)
theorem BOk.le (l : Le W W') {Q' : Bool → Mu → Prop} {Q : Bool → Hp → Prop} (h : BOk K W Q' Q) : BOk K W' Q' Q := fun b W2 H2 μ2 l2 => h b W2 H2 μ2 (l.trans l2)
theorem AOk.le (l : Le W W') {Q' : List Sl → Mu → Prop} {Q : List V → Hp → Prop} (h : AOk K W Q' Q) : AOk K W' Q' Q := fun v s W2 H2 μ2 l2 => h v s W2 H2 μ2 (l.trans l2)
theorem NOk.le (l : Le W W') {Q' : Rho → Mu → Prop} {Q : L2.St → Hp → Prop} (h : NOk K W Q' Q) : NOk K W' Q' Q := fun v s W2 H2 μ2 l2 => h v s W2 H2 μ2 (l.trans l2)
theorem EndsOk.le (l : Le W W') {D' : DEnds} {D : Ends} (h : EndsOk K W D' D) : EndsOk K W' D' D := ⟨h.nx.le l, h.rt.le l, h.bk.le l, h.ct.le l⟩
end
structure PD (X : Cx) (e : Expr) (d : DE) : Prop where
  ex : ∃ t, PE X e t ∧ LE X.K t d
structure PDT (X : Cx) (e : Expr) (d : DT) : Prop where
  ex : ∃ t, PT X e t ∧ LT X.K t d
structure PDW (X : Cx) (e : Expr) (d : DT) : Prop where
  ex : ∃ t, PW X e t ∧ LT X.K t d
structure PDA (X : Cx) (es : List Expr) (d : DA) : Prop where
  ex : ∃ t, PA X es t ∧ LA X.K t d
structure PDS (X : Cx) (st : Stmt) (d : DS) : Prop where
  ex : ∃ t, PS X st t ∧ LS X.K t d
structure PDSs (X : Cx) (st : List Stmt) (d : DS) : Prop where
  ex : ∃ t, PSs X st t ∧ LS X.K t d
section
variable {K : PySem.W.Frag} {W : Wd} {H : Hp} {μ : Mu} {Q' : DQ} {Q : VK}
theorem VOk.dat (h : VOk K W Q' Q) (r : Rep K W H μ) {v : V} {d : PyData} (hd : Dv K W.G v d) (q : Q' (.dat d) μ) : Q v H := h v (.dat d) W H μ (Le.refl W) r hd q
theorem VOk.int (h : VOk K W Q' Q) (r : Rep K W H μ) {i : Int} (q : Q' (.dat (.int i)) μ) : Q (.int i) H := h.dat r (.int i) q
theorem VOk.bl (h : VOk K W Q' Q) (r : Rep K W H μ) {i : Bool} (q : Q' (.dat (.bool i)) μ) : Q (.bl i) H := h.dat r (.bl i) q
theorem VOk.str (h : VOk K W Q' Q) (r : Rep K W H μ) {i : Str} (q : Q' (.dat (.str i)) μ) : Q (.str i) H := h.dat r (.str i) q
theorem VOk.here (h : VOk K W Q' Q) (r : Rep K W H μ) {v : V} {s : Sl} (hs : SlOk K W v s) (q : Q' s μ) : Q v H := h v s W H μ (Le.refl W) r hs q
theorem VOk.newT (h : VOk K W Q' Q) (r : Rep K W H μ) {b : Bool} {xs : List V} {ds : List PyData} (hx : DvAll K (bh W b) xs ds) (q : Q' (mk b (.tuple ds)) μ) (p : Addr) (hp : H p = none) : Q (.ref p) (upd H p (.tup xs)) := by
  refine h _ _ (W.new p (.tup xs)) _ μ (Le.new r hp) (r.new hp) (slOk_mk ?_) q
  have l : Le W (W.new p (.tup xs)) := Le.new r hp
  refine .tup ?_ (hx.mono (bh_le l b))
  cases b with
  | true => exact upd_same
  | false => exact upd_same
theorem VOk.newL (h : VOk K W Q' Q) (r : Rep K W H μ) {b : Bool} {xs : List V} {ds : List PyData} (hx : DvAll K (bh W b) xs ds) (q : Q' (mk b (.list ds)) μ) (p : Addr) (hp : H p = none) : Q (.ref p) (upd H p (.lst xs)) := by
  refine h _ _ (W.new p (.lst xs)) _ μ (Le.new r hp) (r.new hp) (slOk_mk ?_) q
  have l : Le W (W.new p (.lst xs)) := Le.new r hp
  refine .lst (.inl (.inl ?_)) (hx.mono (bh_le l b))
  cases b with
  | true => exact upd_same
  | false => exact upd_same
def Wd.cellNew (W : Wd) (p : Addr) : Wd := ⟨W.G, W.F, W.ad ++ [p]⟩
theorem Le.cellNew (W : Wd) (p : Addr) : Le W (W.cellNew p) := ⟨Ex.refl _, Ex.refl _, fun _ _ h _ => h, fun k x h => by
  show (W.ad ++ [p])[k]? = some x
  rw [List.getElem?_append_left (List.getElem?_eq_some_iff.mp h).1]
  exact h⟩
theorem Rep.cellNew (r : Rep K W H μ) {p : Addr} (hp : H p = none) {o : HO} {c : Cell} (hc : CellOk K W.G o c) (hn : c.isTab = false := by rfl) : Rep K (W.cellNew p) (upd H p o) (μ ++ [c]) := by
  obtain ⟨h1, h2⟩ := r.fresh hp
  refine ⟨r.gf, r.fh.trans (Ex.new hp), ?_, ?_, ?_, fun k P q hk => ?_⟩
  · show (W.ad ++ [p]).length = (μ ++ [c]).length
    rw [List.length_append, List.length_append, r.len]
    rfl
  · have old : ∀ (k : Nat), W.ad[k]? = some p → False := fun k hk => by
      have hl : k < μ.length := by rw [← r.len]; exact (List.getElem?_eq_some_iff.mp hk).1
      obtain ⟨_, o', q, _⟩ := r.cell k p _ hk (List.getElem?_eq_getElem hl)
      rw [hp] at q; cases q
    intro i j a hi hj
    have split : ∀ (k : Nat) (a : Addr), (W.ad ++ [p])[k]? = some a → (W.ad[k]? = some a) ∨ (k = W.ad.length ∧ a = p) := fun k a hk => by
      by_cases hl : k < W.ad.length
      · rw [List.getElem?_append_left hl] at hk; exact .inl hk
      · rw [List.getElem?_append_right (by omega)] at hk
        have e := (List.getElem?_eq_some_iff.mp hk).1
        have e' : k - W.ad.length = 0 := by simpa using e
        rw [e'] at hk
        exact .inr ⟨by omega, (Option.some.inj hk).symm⟩
    rcases split i a hi with q1 | ⟨q1, q2⟩
    · rcases split j a hj with q3 | ⟨q3, q4⟩
      · exact r.nd i j a q1 q3
      · subst q4; exact (old i q1).elim
    · subst q2
      rcases split j a hj with q3 | ⟨q3, q4⟩
      · exact (old j q3).elim
      · omega
  · intro k a c' ha hc'
    by_cases hl : k < W.ad.length
    · rw [show (W.cellNew p).ad = W.ad ++ [p] from rfl, List.getElem?_append_left hl] at ha
      rw [List.getElem?_append_left (by rw [← r.len]; exact hl)] at hc'
      obtain ⟨q1, o', q2, q3⟩ := r.cell k a c' ha hc'
      have ne : a ≠ p := fun z => by rw [z, hp] at q2; cases q2
      exact ⟨q1, o', by rw [upd_ne ne]; exact q2, q3⟩
    · rw [show (W.cellNew p).ad = W.ad ++ [p] from rfl, List.getElem?_append_right (by omega)] at ha
      rw [List.getElem?_append_right (by rw [← r.len]; omega)] at hc'
      have e := (List.getElem?_eq_some_iff.mp ha).1
      have e' : k - W.ad.length = 0 := by simpa using e
      rw [e'] at ha
      rw [show k - μ.length = 0 by rw [← r.len]; exact e'] at hc'
      have ea : p = a := Option.some.inj ha
      have ec : c = c' := Option.some.inj hc'
      subst ea; subst ec
      exact ⟨h1, o, upd_same, hc⟩
  · by_cases hl : k < μ.length
    · rw [List.getElem?_append_left hl] at hk
      show (W.ad ++ [p])[k]? = some P
      rw [List.getElem?_append_left (by rw [r.len]; exact hl)]
      exact r.tab k P q hk
    · rw [List.getElem?_append_right (by omega)] at hk
      have e := (List.getElem?_eq_some_iff.mp hk).1
      rw [show k - μ.length = 0 by simpa using e] at hk
      cases hk
      cases hn
theorem VOk.newCell (h : VOk K W Q' Q) (r : Rep K W H μ) {xs : List V} {ds : List PyData} (hx : DvAll K W.G xs ds) (q : Q' (.cell μ.length) (μ ++ [.lst ds])) (p : Addr) (hp : H p = none) : Q (.ref p) (upd H p (.lst xs)) := by
  refine h _ (.cell μ.length) (W.cellNew p) _ (μ ++ [.lst ds]) (Le.cellNew W p) (r.cellNew hp (show CellOk K W.G (.lst xs) (.lst ds) from hx)) ⟨p, ?_, rfl⟩ q
  show (W.ad ++ [p])[μ.length]? = some p
  rw [List.getElem?_append_right (by rw [r.len]; exact Nat.le_refl _), r.len, Nat.sub_self]
  rfl
theorem Rep.write (r : Rep K W H μ) {k : Nat} {a : Addr} (ha : W.ad[k]? = some a) {o : HO} {c : Cell} (hc : CellOk K W.G o c) (hn : c.isTab = false := by rfl) : Rep K W (upd H a o) (μ.set k c) := by
  have hk : k < μ.length := by rw [← r.len]; exact (List.getElem?_eq_some_iff.mp ha).1
  obtain ⟨q1, o1, q2, _⟩ := r.cell k a _ ha (List.getElem?_eq_getElem hk)
  refine ⟨r.gf, Ex.mut r.fh q1, by rw [List.length_set]; exact r.len, r.nd, fun j b c' hb hc' => ?_, fun j P q hj => ?_⟩
  rotate_left
  · by_cases e : k = j
    · subst e
      rw [List.getElem?_set_self hk] at hj
      cases hj
      cases hn
    · rw [List.getElem?_set_ne e] at hj
      exact r.tab j P q hj
  by_cases hj : k = j
  · subst hj
    rw [ha] at hb; cases hb
    rw [List.getElem?_set_self hk] at hc'; cases hc'
    exact ⟨q1, o, upd_same, hc⟩
  · rw [List.getElem?_set_ne hj] at hc'
    obtain ⟨q3, o3, q4, q5⟩ := r.cell j b c' hb hc'
    have ne : b ≠ a := fun z => hj (r.nd k j a ha (z ▸ hb))
    exact ⟨q3, o3, by rw [upd_ne ne]; exact q4, q5⟩
end
section
variable {X : Cx} {K : PySem.W.Frag}
def dVar (i : Nat) : DE := fun ρ μ Q => match ρ[i]? with
  | some (some s) => Q s μ
  | _ => False
def dC (d : PyData) : DE := fun _ μ Q => Q (.dat d) μ
theorem le_var (i : Nat) : LE K (tVar i) (dVar i) := fun ρ μ Q' h W σ H he r Q q => by
  unfold dVar at h
  cases e : ρ[i]? with
  | none => rw [e] at h; exact h.elim
  | some o =>
    rw [e] at h
    cases o with
    | none => exact h.elim
    | some s =>
      obtain ⟨v, h1, h2⟩ := he.get i s e
      exact ⟨v, h1, q.here r h2 h⟩
theorem pd_var (i : Nat) {x : Str} {pos : Pos} (hN : X.N[i]? = some x := by rfl) (hv : Vis X.env.scope x := by first | exact Or.inl rfl | exact Or.inr (Or.inl rfl) | exact Or.inr (Or.inr rfl)) (hd : (x == ("__debug__" : Str)) = false := by decide)
    (hcd : (x == ("__classdict__" : Str)) = false := by decide) : PD X (.Name x pos) (dVar i) := ⟨_, pe_var hN hv hd hcd, le_var i⟩
theorem le_c {v : V} {d : PyData} (hd : ∀ G, Dv K G v d) : LE K (tC v) (dC d) := fun ρ μ Q' h W σ H he r Q q => q.dat r (hd _) h
theorem pd_int {i : Int} {j pos} : PD X (.Constant (.int i) j pos) (dC (.int i)) := ⟨_, pe_int, le_c fun _ => .int i⟩
theorem pd_bl {b : Bool} {j pos} : PD X (.Constant (.bool b) j pos) (dC (.bool b)) := ⟨_, pe_bl, le_c fun _ => .bl b⟩
theorem pd_non {j pos} : PD X (.Constant .none j pos) (dC .none) := ⟨_, pe_non, le_c fun _ => .non⟩
theorem pd_str {x : String} {j pos} : PD X (.Constant (.str x) j pos) (dC (.str x)) := ⟨_, pe_str, le_c fun _ => .str _⟩
end
section
variable {X : Cx} {K : PySem.W.Frag}
def aNil : DA := fun _ μ Q => Q [] μ
def aCons (d : DE) (a : DA) : DA := fun ρ μ Q => d ρ μ fun s μ1 => a ρ μ1 fun ss μ2 => Q (s :: ss) μ2
theorem la_nil : LA K tNil aNil := fun ρ μ Q' h W σ H he r Q q => q [] [] W H μ (Le.refl W) r .nil h
theorem la_cons {te : TE} {ta : TA} {d : DE} {a : DA} (h1 : LE K te d) (h2 : LA K ta a) : LA K (tCons te ta) (aCons d a) := fun ρ μ Q' h W σ H he r Q q =>
  h1 ρ μ _ h W σ H he r _ fun v s W1 H1 μ1 l1 r1 hs h' => h2 ρ μ1 _ h' W1 σ H1 (he.mono l1) r1 _ fun vs ss W2 H2 μ2 l2 r2 hss h'' =>
    q (v :: vs) (s :: ss) W2 H2 μ2 (l1.trans l2) r2 (.cons (hs.mono l2) hss) h''
theorem pda_nil : PDA X [] aNil := ⟨_, pa_nil, la_nil⟩
theorem pda_cons {e : Expr} {es : List Expr} {d : DE} {a : DA} (h1 : PD X e d) (h2 : PDA X es a) (hs : starEach (e :: es) X.env = (false, eval e X.env) :: starEach es X.env := by rfl) : PDA X (e :: es) (aCons d a) := by
  obtain ⟨t1, p1, l1⟩ := h1
  obtain ⟨t2, p2, l2⟩ := h2
  exact ⟨_, pa_cons p1 p2 hs, la_cons l1 l2⟩
end
abbrev DR2 := Sl → Sl → Mu → DQ → Prop
abbrev DR1 := Sl → Mu → DQ → Prop
abbrev DRA := List Sl → Mu → DQ → Prop
def LR2 (K : PySem.W.Frag) (r : R2) (d : DR2) : Prop := ∀ x y μ Q', d x y μ Q' → ∀ W H vx vy, Rep K W H μ → SlOk K W vx x → SlOk K W vy y → ∀ Q : VK, VOk K W Q' Q → r vx vy H Q
def LR1 (K : PySem.W.Frag) (r : V → Hp → VK → Prop) (d : DR1) : Prop := ∀ x μ Q', d x μ Q' → ∀ W H vx, Rep K W H μ → SlOk K W vx x → ∀ Q : VK, VOk K W Q' Q → r vx H Q
def LRA (K : PySem.W.Frag) (r : List V → Hp → VK → Prop) (d : DRA) : Prop := ∀ xs μ Q', d xs μ Q' → ∀ W H vs, Rep K W H μ → SlAll K W vs xs → ∀ Q : VK, VOk K W Q' Q → r vs H Q
section
variable {X : Cx} {K : PySem.W.Frag} {a b : Expr} {pos : Pos}
def dOp (r : DR2) (da db : DE) : DE := fun ρ μ Q => da ρ μ fun x μ1 => db ρ μ1 fun y μ2 => r x y μ2 Q
def dUn (r : DR1) (da : DE) : DE := fun ρ μ Q => da ρ μ fun x μ1 => r x μ1 Q
def dCB (r : DRA) (da : DA) : DE := fun ρ μ Q => da ρ μ fun xs μ1 => r xs μ1 Q
theorem le_op {r : R2} {d : DR2} {ta tb : TE} {da db : DE} (hr : LR2 K r d) (ha : LE K ta da) (hb : LE K tb db) : LE K (tOp r ta tb) (dOp d da db) := fun ρ μ Q' h W σ H he rp Q q =>
  ha ρ μ _ h W σ H he rp _ fun vx x W1 H1 μ1 l1 r1 hx h1 => hb ρ μ1 _ h1 W1 σ H1 (he.mono l1) r1 _ fun vy y W2 H2 μ2 l2 r2 hy h2 =>
    hr x y μ2 Q' h2 W2 H2 vx vy r2 (hx.mono l2) hy Q (q.le (l1.trans l2))
theorem le_un {r : V → Hp → VK → Prop} {d : DR1} {ta : TE} {da : DE} (hr : LR1 K r d) (ha : LE K ta da) : LE K (tUn r ta) (dUn d da) := fun ρ μ Q' h W σ H he rp Q q =>
  ha ρ μ _ h W σ H he rp _ fun vx x W1 H1 μ1 l1 r1 hx h1 => hr x μ1 Q' h1 W1 H1 vx r1 hx Q (q.le l1)
theorem le_cb {r : List V → Hp → VK → Prop} {d : DRA} {ta : TA} {da : DA} (hr : LRA K r d) (ha : LA K ta da) : LE K (tCB r ta) (dCB d da) := fun ρ μ Q' h W σ H he rp Q q =>
  ha ρ μ _ h W σ H he rp _ fun vs xs W1 H1 μ1 l1 r1 hx h1 => hr xs μ1 Q' h1 W1 H1 vs r1 hx Q (q.le l1)
theorem pd_op {op : Operator} {r : R2} {d : DR2} {da db : DE} (ho : OpR X (binaryOp op) r) (hr : LR2 X.K r d) (ha : PD X a da) (hb : PD X b db) : PD X (.BinOp a op b pos) (dOp d da db) := by
  obtain ⟨ta, p1, l1⟩ := ha
  obtain ⟨tb, p2, l2⟩ := hb
  exact ⟨_, pe_op ho p1 p2, le_op hr l1 l2⟩
theorem pd_un {op : UnaryOp} {r : V → Hp → VK → Prop} {d : DR1} {da : DE} (ho : UnR X (unaryOp op) r) (hr : LR1 X.K r d) (ha : PD X a da) : PD X (.UnaryOp op a pos) (dUn d da) := by
  obtain ⟨ta, p1, l1⟩ := ha
  exact ⟨_, pe_un ho p1, le_un hr l1⟩
theorem pd_cmp {op : CmpOp} {r : R2} {d : DR2} {da db : DE} (ho : OpR X (compareOp op) r) (hr : LR2 X.K r d) (ha : PD X a da) (hb : PD X b db) (hm : behindInMarks op b = false) : PD X (.Compare a [op] [b] pos) (dOp d da db) := by
  obtain ⟨ta, p1, l1⟩ := ha
  obtain ⟨tb, p2, l2⟩ := hb
  exact ⟨_, pe_cmpR ho p1 p2 hm, le_op hr l1 l2⟩
def dTest (d : DE) : DT := fun ρ μ Q => d ρ μ fun x μ1 => match x with
  | .dat (.bool b) => Q b μ1
  | _ => False
theorem lt_test {t : TE} {d : DE} (h : LE K t d) : LT K (tTest t) (dTest d) := fun ρ μ Q' hd W σ H he rp Q q =>
  h ρ μ _ hd W σ H he rp _ fun vx x W1 H1 μ1 l1 r1 hx h1 => by
    cases x with
    | dat d' =>
      cases d' with
      | bool b =>
        cases (show Dv K W1.G vx (.bool b) from hx)
        exact ⟨b, rfl, q b W1 H1 μ1 l1 r1 h1⟩
      | _ => exact False.elim h1
    | _ => exact False.elim h1
theorem pdt_cmp {op : CmpOp} {r : R2} {d : DR2} {da db : DE} (ho : OpR X (compareOp op) r) (hr : LR2 X.K r d) (ha : PD X a da) (hb : PD X b db) (hm : behindInMarks op b = false) : PDT X (.Compare a [op] [b] pos) (dTest (dOp d da db)) := by
  obtain ⟨ta, p1, l1⟩ := ha
  obtain ⟨tb, p2, l2⟩ := hb
  exact ⟨_, pt_cmpR ho p1 p2 hm, lt_test (le_op hr l1 l2)⟩
def dChain (r r' : DR2) (da db dc : DE) : DE := fun ρ μ Q => da ρ μ fun x μ1 => db ρ μ1 fun y μ2 => r x y μ2 fun z μ3 => match z with
  | .dat (.bool k) => if k = true then dc ρ μ3 (fun w μ4 => r' y w μ4 Q) else Q (.dat (.bool false)) μ3
  | _ => False
theorem le_chain {r r' : R2} {d d' : DR2} {ta tb tc : TE} {da db dc : DE} (hr : LR2 K r d) (hr' : LR2 K r' d') (ha : LE K ta da) (hb : LE K tb db) (hc : LE K tc dc) : LE K (tChain r r' ta tb tc) (dChain d d' da db dc) := fun ρ μ Q' h W σ H he rp Q q =>
  ha ρ μ _ h W σ H he rp _ fun vx x W1 H1 μ1 l1 r1 hx h1 => hb ρ μ1 _ h1 W1 σ H1 (he.mono l1) r1 _ fun vy y W2 H2 μ2 l2 r2 hy h2 =>
    hr x y μ2 _ h2 W2 H2 vx vy r2 (hx.mono l2) hy _ fun vz z W3 H3 μ3 l3 r3 hz h3 => by
      cases z with
      | dat d' =>
        cases d' with
        | bool b =>
          cases (show Dv K W3.G vz (.bool b) from hz)
          refine ⟨b, rfl, ?_⟩
          cases b with
          | true =>
            exact hc ρ μ3 _ h3 W3 σ H3 (he.mono ((l1.trans l2).trans l3)) r3 _ fun vw w W4 H4 μ4 l4 r4 hw h4 =>
              hr' y w μ4 Q' h4 W4 H4 vy vw r4 ((hy.mono l3).mono l4) hw Q (q.le (((l1.trans l2).trans l3).trans l4))
          | false => exact (q.le ((l1.trans l2).trans l3)).bl r3 h3
        | _ => exact False.elim h3
      | _ => exact False.elim h3
theorem pdt_chain {c : Expr} {op op' : CmpOp} {r r' : R2} {d d' : DR2} {da db dc : DE} (ho : OpR X (compareOp op) r) (ho' : OpR X (compareOp op') r') (hr : LR2 X.K r d) (hr' : LR2 X.K r' d') (ha : PD X a da) (hb : PD X b db) (hc : PD X c dc)
    (hm : lastMarks [op, op'] [b, c] = false := by with_unfolding_all rfl) : PDT X (.Compare a [op, op'] [b, c] pos) (dTest (dChain d d' da db dc)) := by
  obtain ⟨ta, p1, l1⟩ := ha
  obtain ⟨tb, p2, l2⟩ := hb
  obtain ⟨tc, p3, l3⟩ := hc
  exact ⟨_, pt_chain ho ho' p1 p2 p3 hm, lt_test (le_chain hr hr' l1 l2 l3)⟩
theorem pd_chain {c : Expr} {op op' : CmpOp} {r r' : R2} {d d' : DR2} {da db dc : DE} (ho : OpR X (compareOp op) r) (ho' : OpR X (compareOp op') r') (hr : LR2 X.K r d) (hr' : LR2 X.K r' d') (ha : PD X a da) (hb : PD X b db) (hc : PD X c dc)
    (hm : lastMarks [op, op'] [b, c] = false := by with_unfolding_all rfl) : PD X (.Compare a [op, op'] [b, c] pos) (dChain d d' da db dc) := by
  obtain ⟨ta, p1, l1⟩ := ha
  obtain ⟨tb, p2, l2⟩ := hb
  obtain ⟨tc, p3, l3⟩ := hc
  exact ⟨_, pe_chain ho ho' p1 p2 p3 hm, le_chain hr hr' l1 l2 l3⟩
end
end DL
namespace DL
open PySem PySem.Spec PyProof.Rows L2 Evl
section
variable {X : Cx} {K : PySem.W.Frag}
def ints2 (f : Int → Int → PyData) (c : Int → Int → Prop) : DR2 := fun x y μ Q => match rd μ x, rd μ y with
  | some (.int i), some (.int j) => c i j ∧ Q (.dat (f i j)) μ
  | _, _ => False
theorem ints2_of {f : Int → Int → PyData} {c : Int → Int → Prop} {x y : Sl} {μ : Mu} {Q : DQ} (h : ints2 f c x y μ Q) : ∃ i j, rd μ x = some (.int i) ∧ rd μ y = some (.int j) ∧ c i j ∧ Q (.dat (f i j)) μ := by
  unfold ints2 at h
  split at h
  · rename_i i j e1 e2
    exact ⟨i, j, e1, e2, h.1, h.2⟩
  · exact h.elim
theorem lr_I {C : Int → Int → Prop} {g : Int → Int → V} {f : Int → Int → PyData} (hd : ∀ i j G, Dv K G (g i j) (f i j)) : LR2 K (rI C g) (ints2 f C) := fun x y μ Q' h W H vx vy r hx hy Q q => by
  obtain ⟨i, j, e1, e2, hc, h⟩ := ints2_of h
  cases rd_int r hx e1
  cases rd_int r hy e2
  exact ⟨i, j, rfl, rfl, hc, q.dat r (hd i j _) h⟩
theorem lr_I0 {g : Int → Int → V} {f : Int → Int → PyData} (hd : ∀ i j G, Dv K G (g i j) (f i j)) : LR2 K (rI0 g) (ints2 f fun _ _ => True) := fun x y μ Q' h W H vx vy r hx hy Q q => by
  obtain ⟨i, j, e1, e2, hc, h⟩ := ints2_of h
  cases rd_int r hx e1
  cases rd_int r hy e2
  exact ⟨i, j, rfl, rfl, q.dat r (hd i j _) h⟩
def CDv (_ j : Int) : Prop := j ≠ 0 ∧ j.natAbs.log2 < 9000
theorem op_dv : OpR X (binaryOp .FloorDiv) (rI CDv fun i j => .int (i.fdiv j)) := opI fun _ _ _ _ _ _ _ hc q => floordiv_int hc.1 q (.inl (PyProof.noPylong_of_log2 hc.2))
def rSub : DR2 := ints2 (fun i j => .int (i - j)) fun _ _ => True
def rDv : DR2 := ints2 (fun i j => .int (i.fdiv j)) CDv
def rMd : DR2 := ints2 (fun i j => .int (i.fmod j)) fun _ j => j ≠ 0
def rPw : DR2 := ints2 (fun i j => .int (i ^ j.toNat)) CPow
section
variable {a b : Expr} {da db : DE} {pos : Pos}
theorem pd_sub (ha : PD X a da) (hb : PD X b db) : PD X (.BinOp a .Sub b pos) (dOp rSub da db) := pd_op op_sub (lr_I0 fun _ _ _ => .int _) ha hb
theorem pd_dv (ha : PD X a da) (hb : PD X b db) : PD X (.BinOp a .FloorDiv b pos) (dOp rDv da db) := pd_op op_dv (lr_I fun _ _ _ => .int _) ha hb
theorem pd_md (ha : PD X a da) (hb : PD X b db) : PD X (.BinOp a .Mod b pos) (dOp rMd da db) := pd_op op_modN (lr_I fun _ _ _ => .int _) ha hb
theorem pd_pw (ha : PD X a da) (hb : PD X b db) : PD X (.BinOp a .Pow b pos) (dOp rPw da db) := pd_op op_pow (lr_I fun _ _ _ => .int _) ha hb
end
def rAdd : DR2 := fun x y μ Q => match rd μ x, rd μ y with
  | some (.int i), some (.int j) => Q (.dat (.int (i + j))) μ
  | some (.str i), some (.str j) => i.length + j.length ≤ sizeLine ∧ Q (.dat (.str (i ++ j))) μ
  | some (.tuple xs), some (.tuple ys) => xs.length + ys.length ≤ sizeLine ∧ Q (mk (isV x || isV y) (.tuple (xs ++ ys))) μ
  | some (.list xs), some (.list ys) => xs.length + ys.length ≤ sizeLine ∧ Q (mk (isV x || isV y) (.list (xs ++ ys))) μ
  | _, _ => False
def rCatS (K : PySem.W.Frag) : R2 := fun x y H Q => ∃ l b xs zs, x = .ref l ∧ y = .ref b ∧ SqL K H l xs ∧ SqL K H b zs ∧ xs.length + zs.length ≤ sizeLine ∧ ∀ p, H p = none → Q (.ref p) (upd H p (.lst (xs ++ zs)))
theorem op_catS : OpR X (binaryOp .Add) (rCatS X.K) := by
  intro pins s σ H x y v u Q I rx ry h
  obtain ⟨l, b, xs, zs, rfl, rfl, hH, hB, hz, q⟩ := h
  cases rx
  cases ry
  obtain ⟨its, r, ⟨⟨c1, d1, dt1, s1⟩, n, e, hc, hdn, hdt⟩, hl⟩ := I.list hH
  obtain ⟨its2, r2, ⟨⟨c2, d2, dt2, s2⟩, n2, e2, hc2, hdn2, hdt2⟩, hl2⟩ := I.list hB
  simp only at hc hdn hdt hc2 hdn2 hdt2
  subst hc hdn hdt hc2 hdn2 hdt2
  have z1 := r.length
  have z2 := r2.length
  have fits : its.toArray.size + its2.toArray.size ≤ sizeLine := by rw [List.size_toArray, List.size_toArray]; omega
  refine concat_meets ⟨_, e, rfl⟩ ⟨_, e2, rfl⟩ noFill_list_add seq_list_add PySem.F.slot_list_add PySem.F.entry_list_add (PySem.F.args_list_add_2 _ _)
    (list_addW l b its.toArray its2.toArray n n2 none none s1 s2 fits) ⟨e, e2, ?_⟩
  have ea : its.toArray ++ its2.toArray = (its ++ its2).toArray := by simp
  rw [ea]
  exact ⟨.ref _, _, I.lnew (t' := s.toks) (r.append r2) (by rw [List.length_append]; omega), rfl, q _ I.fresh⟩
abbrev rAddV (K : PySem.W.Frag) : R2 := fun x y H Q => rI0 (fun i j => .int (i + j)) x y H Q ∨ ((∃ i j, x = .str i ∧ y = .str j ∧ i.length + j.length ≤ sizeLine ∧ Q (.str (i ++ j)) H) ∨ (rCatA K x y H Q ∨ rCatS K x y H Q))
theorem op_addV : OpR X (binaryOp .Add) (rAddV X.K) := op_add.or (op_add_str.or (op_catA.or op_catS))
theorem its_app {W : Wd} {H : Hp} {μ : Mu} {s t : Sl} {xs ys : List V} {ds es : List PyData} (r : Rep K W H μ) (h1 : Its K W s xs ds) (h2 : Its K W t ys es) : DvAll K (bh W (isV s || isV t)) (xs ++ ys) (ds ++ es) :=
  (DvAll.mono h1 (bh_or1 r.gf)).app (DvAll.mono h2 (bh_or2 r.gf))
theorem lr_add : LR2 K (rAddV K) rAdd := fun x y μ Q' h W H vx vy r hx hy Q q => by
  unfold rAdd at h
  split at h
  · rename_i i j e1 e2
    cases rd_int r hx e1
    cases rd_int r hy e2
    exact .inl ⟨i, j, rfl, rfl, q.int r h⟩
  · rename_i i j e1 e2
    cases rd_str r hx e1
    cases rd_str r hy e2
    exact .inr (.inl ⟨i, j, rfl, rfl, h.1, q.str r h.2⟩)
  · rename_i ds es e1 e2
    obtain ⟨a, xs, rfl, ha, ia⟩ := rd_tup r hx e1
    obtain ⟨b, ys, rfl, hb, ib⟩ := rd_tup r hy e2
    have app := its_app r ia ib
    have l1 := ia.length
    have l2 := ib.length
    refine .inr (.inr (.inl ⟨a, b, xs, ys, rfl, rfl, ha, hb, by rw [l1, l2]; exact h.1, fun z => ?_, fun _ z => ?_, fun _ _ p hp => q.newT r app h.2 p hp⟩))
    · subst z
      have z0 : ds = [] := List.length_eq_zero_iff.mp (by rw [← l1]; rfl)
      subst z0
      refine q _ _ W H μ (Le.refl W) r (slOk_mk ?_) h.2
      rw [List.nil_append]
      have hd := rd_dp r hy e2
      cases y with
      | dat d' => cases e2; exact Dv.mono (show Dv K W.G _ _ from hy) (bh_or2 (b := isV x) (c := false) r.gf)
      | vw d' => cases e2; exact Dv.mono (show Dv K W.F _ _ from hy) (bh_or2 (b := isV x) (c := true) r.gf)
      | raw w => cases e2
      | rtup w => cases e2
      | cell k =>
        replace e2 : rdC μ[k]? = _ := e2
        cases qq : μ[k]? with
        | none => rw [qq] at e2; cases e2
        | some c => rw [qq] at e2; cases c <;> cases e2
    · subst z
      have z0 : es = [] := List.length_eq_zero_iff.mp (by rw [← l2]; rfl)
      subst z0
      refine q _ _ W H μ (Le.refl W) r (slOk_mk ?_) h.2
      rw [List.append_nil]
      cases x with
      | dat d' => cases e1; exact Dv.mono (show Dv K W.G _ _ from hx) (bh_or1 (b := false) (c := isV y) r.gf)
      | vw d' => cases e1; exact Dv.mono (show Dv K W.F _ _ from hx) (bh_or1 (b := true) (c := isV y) r.gf)
      | raw w => cases e1
      | rtup w => cases e1
      | cell k =>
        replace e1 : rdC μ[k]? = _ := e1
        cases qq : μ[k]? with
        | none => rw [qq] at e1; cases e1
        | some c => rw [qq] at e1; cases c <;> cases e1
  · rename_i ds es e1 e2
    obtain ⟨a, xs, rfl, ha, ia⟩ := rd_lst r hx e1
    obtain ⟨b, ys, rfl, hb, ib⟩ := rd_lst r hy e2
    refine .inr (.inr (.inr ⟨a, b, xs, ys, rfl, rfl, ha, hb, by rw [ia.length, ib.length]; exact h.1, fun p hp => q.newL r (its_app r ia ib) h.2 p hp⟩))
  · exact h.elim
theorem pd_add {a b : Expr} {da db : DE} {pos : Pos} (ha : PD X a da) (hb : PD X b db) : PD X (.BinOp a .Add b pos) (dOp rAdd da db) := pd_op op_addV lr_add ha hb
def rMul : DR2 := fun x y μ Q => match rd μ x, rd μ y with
  | some (.int i), some (.int j) => CMulW i j ∧ Q (.dat (.int (i * j))) μ
  | some (.tuple xs), some (.int k) => (xs ≠ [] ∧ 2 ≤ k ∧ k ≤ 1000 ∧ xs.length ≤ 1000) ∧ Q (mk (isV x) (.tuple (List.replicate k.toNat xs).flatten)) μ
  | _, _ => False
theorem dpAll_rep {H : Hp} {xs : List V} {ds : List PyData} (h : DvAll K H xs ds) : ∀ n : Nat, DvAll K H (List.replicate n xs).flatten (List.replicate n ds).flatten
  | 0 => .nil
  | n + 1 => by
    rw [List.replicate_succ, List.replicate_succ, List.flatten_cons, List.flatten_cons]
    exact h.app (dpAll_rep h n)
abbrev rMulV (K : PySem.W.Frag) : R2 := fun x y H Q => rI CMulW (fun i j => .int (i * j)) x y H Q ∨ rRepT K x y H Q
theorem lr_mul : LR2 K (rMulV K) rMul := fun x y μ Q' h W H vx vy r hx hy Q q => by
  unfold rMul at h
  split at h
  · rename_i i j e1 e2
    cases rd_int r hx e1
    cases rd_int r hy e2
    exact .inl ⟨i, j, rfl, rfl, h.1, q.int r h.2⟩
  · rename_i ds k e1 e2
    obtain ⟨a, xs, rfl, ha, ia⟩ := rd_tup r hx e1
    cases rd_int r hy e2
    obtain ⟨⟨h1, h2, h3, h4⟩, h5⟩ := h
    refine .inr ⟨a, k, xs, rfl, rfl, ha, fun z => h1 ?_, h2, h3, by rw [ia.length]; exact h4, fun p hp => q.newT r (dpAll_rep ia k.toNat) h5 p hp⟩
    subst z
    exact List.length_eq_zero_iff.mp (by rw [← ia.length]; rfl)
  · exact h.elim
theorem pd_mul {a b : Expr} {da db : DE} {pos : Pos} (ha : PD X a da) (hb : PD X b db) : PD X (.BinOp a .Mult b pos) (dOp rMul da db) := pd_op (op_mulW.or op_repT) lr_mul ha hb
def rNeg : DR1 := fun x μ Q => match rd μ x with
  | some (.int i) => Q (.dat (.int (-i))) μ
  | _ => False
theorem lr_neg : LR1 K (rU fun i => .int (-i)) rNeg := fun x μ Q' h W H vx r hx Q q => by
  unfold rNeg at h
  split at h
  · rename_i i e
    cases rd_int r hx e
    exact ⟨i, rfl, q.int r h⟩
  · exact h.elim
theorem pd_neg {a : Expr} {da : DE} {pos : Pos} (ha : PD X a da) : PD X (.UnaryOp .USub a pos) (dUn rNeg da) := pd_un un_neg lr_neg ha
def eqD (f : Bool → Bool) : DR2 := fun x y μ Q => match rd μ x, rd μ y with
  | some (.int i), some (.int j) => Q (.dat (.bool (f (decide (i = j))))) μ
  | some (.str i), some (.str j) => Q (.dat (.bool (f (decide (i = j))))) μ
  | some (.bool i), some (.bool j) => Q (.dat (.bool (f (decide (i = j))))) μ
  | some d, some e => (SeqAt.shaped d = true ∧ SeqAt.shaped e = true) ∧ Q (.dat (.bool (f (PyData.eqv d e)))) μ
  | _, _ => False
def rEq : DR2 := eqD fun b => b
def rNe : DR2 := eqD fun b => !b
theorem eqD_of {f : Bool → Bool} {W : Wd} {H : Hp} {μ : Mu} {x y : Sl} {vx vy : V} {Q' : DQ} (h : eqD f x y μ Q') (r : Rep K W H μ) (hx : SlOk K W vx x) (hy : SlOk K W vy y) :
    (scal vx vy = true ∧ Q' (.dat (.bool (f (decide (vx = vy))))) μ) ∨ ∃ d e, Dv K H vx d ∧ Dv K H vy e ∧ (SeqAt.shaped d = true ∧ SeqAt.shaped e = true) ∧ Q' (.dat (.bool (f (PyData.eqv d e)))) μ := by
  unfold eqD at h
  split at h
  · rename_i i j e1 e2
    cases rd_int r hx e1
    cases rd_int r hy e2
    refine .inl ⟨rfl, ?_⟩
    rw [show decide (V.int i = V.int j) = decide (i = j) from decide_eq_decide.mpr ⟨V.int.inj, congrArg V.int⟩]
    exact h
  · rename_i i j e1 e2
    cases rd_str r hx e1
    cases rd_str r hy e2
    refine .inl ⟨rfl, ?_⟩
    rw [show decide (V.str i = V.str j) = decide (i = j) from decide_eq_decide.mpr ⟨V.str.inj, congrArg V.str⟩]
    exact h
  · rename_i i j e1 e2
    cases rd_bool r hx e1
    cases rd_bool r hy e2
    refine .inl ⟨rfl, ?_⟩
    rw [show decide (V.bl i = V.bl j) = decide (i = j) from decide_eq_decide.mpr ⟨V.bl.inj, congrArg V.bl⟩]
    exact h
  · rename_i d e _ _ _ e1 e2
    exact .inr ⟨d, e, rd_dp r hx e1, rd_dp r hy e2, h.1, h.2⟩
  · exact h.elim
theorem lr_eq : LR2 K (fun x y H Q => L2.rEq x y H Q ∨ rEqD K x y H Q) rEq := fun x y μ Q' h W H vx vy r hx hy Q q => by
  rcases eqD_of h r hx hy with ⟨h1, h2⟩ | ⟨d, e, h1, h2, h3, h4⟩
  · exact .inl ⟨h1, q.bl r h2⟩
  · exact .inr ⟨d, e, h1.dpS h3.1, h2.dpS h3.2, h3.1, h3.2, q.bl r h4⟩
theorem lr_ne : LR2 K (fun x y H Q => L2.rNe x y H Q ∨ rNeD K x y H Q) rNe := fun x y μ Q' h W H vx vy r hx hy Q q => by
  rcases eqD_of h r hx hy with ⟨h1, h2⟩ | ⟨d, e, h1, h2, h3, h4⟩
  · exact .inl ⟨h1, q.bl r h2⟩
  · exact .inr ⟨d, e, h1.dpS h3.1, h2.dpS h3.2, h3.1, h3.2, q.bl r h4⟩
theorem op_eqV (hu : X.A.units + 64 < cLine) : OpR X (compareOp .Eq) (fun x y H Q => L2.rEq x y H Q ∨ rEqD X.K x y H Q) := op_eq.or (op_eqD hu)
theorem op_neV (hu : X.A.units + 64 < cLine) : OpR X (compareOp .NotEq) (fun x y H Q => L2.rNe x y H Q ∨ rNeD X.K x y H Q) := op_ne.or (op_neD hu)
def ltS (i j : Str) : Bool := decide (i.cps.toList < j.cps.toList)
def ord2 (f : Int → Int → Bool) (g : Str → Str → Bool) : DR2 := fun x y μ Q => match rd μ x, rd μ y with
  | some (.int i), some (.int j) => Q (.dat (.bool (f i j))) μ
  | some (.str i), some (.str j) => Q (.dat (.bool (g i j))) μ
  | _, _ => False
def rLt : DR2 := ord2 (fun i j => decide (i < j)) ltS
def rLe : DR2 := ord2 (fun i j => decide (i ≤ j)) fun i j => !ltS j i
def rGt : DR2 := ord2 (fun i j => decide (j < i)) fun i j => ltS j i
def rGe : DR2 := ord2 (fun i j => decide (j ≤ i)) fun i j => !ltS i j
theorem op_ltV : OpR X (compareOp .Lt) (fun x y H Q => rI0 (fun i j => .bl (decide (i < j))) x y H Q ∨ ∃ i j, x = .str i ∧ y = .str j ∧ Q (.bl (ltS i j)) H) := op_lt.or op_lt_str
theorem op_leV : OpR X (compareOp .LtE) (fun x y H Q => rI0 (fun i j => .bl (decide (i ≤ j))) x y H Q ∨ ∃ i j, x = .str i ∧ y = .str j ∧ Q (.bl (!ltS j i)) H) := op_le.or op_le_str
theorem op_gtV : OpR X (compareOp .Gt) (fun x y H Q => rI0 (fun i j => .bl (decide (j < i))) x y H Q ∨ ∃ i j, x = .str i ∧ y = .str j ∧ Q (.bl (ltS j i)) H) := op_gt.or op_gt_str
theorem op_geV : OpR X (compareOp .GtE) (fun x y H Q => rI0 (fun i j => .bl (decide (j ≤ i))) x y H Q ∨ ∃ i j, x = .str i ∧ y = .str j ∧ Q (.bl (!ltS i j)) H) := op_ge.or op_ge_str
def isNon : PyData → Bool
  | .none => true
  | _ => false
def rIs (neg : Bool) : DR2 := fun x y μ Q => match rd μ x, y with
  | some d, .dat .none => Q (.dat (.bool (neg != isNon d))) μ
  | some (.bool b), .dat (.bool c) => Q (.dat (.bool (neg != decide (b = c)))) μ
  | _, _ => False
end
end DL
namespace DL
open PySem PySem.Spec PyProof.Rows L2 Evl
def truD : PyData → Bool
  | .none => false
  | .bool b => b
  | .int i => i != 0
  | .str y => (y.length : Int) != 0
  | .list xs => !xs.isEmpty
  | .tuple xs => !xs.isEmpty
  | .dict _ => true
def okT : PyData → Prop
  | .str y => y.length ≤ sizeLine
  | .dict _ => False
  | _ => True
def dTru (d : DE) : DT := fun ρ μ Q => d ρ μ fun x μ1 => match rd μ1 x with
  | some z => okT z ∧ Q (truD z) μ1
  | _ => False
def dAnd (t u : DT) : DT := fun ρ μ Q => t ρ μ fun c μ1 => if c = true then u ρ μ1 Q else Q false μ1
def dOr (t u : DT) : DT := fun ρ μ Q => t ρ μ fun c μ1 => if c = true then Q true μ1 else u ρ μ1 Q
def dNot (t : DT) : DT := fun ρ μ Q => t ρ μ fun c μ1 => Q (!c) μ1
def dIf (t : DT) (a b : DE) : DE := fun ρ μ Q => t ρ μ fun c μ1 => if c = true then a ρ μ1 Q else b ρ μ1 Q
def dAndV (a b : DE) : DE := fun ρ μ Q => a ρ μ fun x μ1 => match x with
  | .dat (.bool c) => if c = true then b ρ μ1 Q else Q (.dat (.bool false)) μ1
  | _ => False
def dOrV (a b : DE) : DE := fun ρ μ Q => a ρ μ fun x μ1 => match x with
  | .dat (.bool c) => if c = true then Q (.dat (.bool true)) μ1 else b ρ μ1 Q
  | _ => False
def dNotV (a : DE) : DE := fun ρ μ Q => a ρ μ fun x μ1 => match x with
  | .dat (.bool c) => Q (.dat (.bool (!c))) μ1
  | _ => False
theorem bool_of {K : PySem.W.Frag} {W : Wd} {v : V} {c : Bool} (h : SlOk K W v (.dat (.bool c))) : v = .bl c := by
  cases (show Dv K W.G v (.bool c) from h)
  rfl
section
variable {X : Cx} {K : PySem.W.Frag} {a b : Expr} {pos : Pos} {rest : List Expr}
theorem isEmpty_len {α β : Type} {xs : List α} {ys : List β} (h : xs.length = ys.length) : xs.isEmpty = ys.isEmpty := by
  cases xs <;> cases ys <;> first | rfl | simp at h
theorem truV_of {W : Wd} {H : Hp} {μ : Mu} {v : V} {s : Sl} {z : PyData} (r : Rep K W H μ) (h : SlOk K W v s) (e : rd μ s = some z) (ho : okT z) : TruV K v H (truD z) := by
  cases z with
  | none => cases rd_none r h e; exact (rfl : false = false)
  | bool b => cases rd_bool r h e; exact (rfl : b = b)
  | int i => cases rd_int r h e; exact (rfl : (i != 0) = (i != 0))
  | str y => cases rd_str r h e; exact ⟨ho, rfl⟩
  | list ds =>
    obtain ⟨p, xs, rfl, hx, hi⟩ := rd_lst r h e
    exact .inl ⟨xs, hx, by rw [isEmpty_len hi.length]; rfl⟩
  | tuple ds =>
    obtain ⟨p, xs, rfl, hx, hi⟩ := rd_tup r h e
    exact .inr (.inl ⟨xs, hx, by rw [isEmpty_len hi.length]; rfl⟩)
  | dict kvs => exact ho.elim
theorem lt_tru {t : TE} {d : DE} (h : LE K t d) : LT K (fun σ H Q => t σ H fun x H' => ∃ k, TruV K x H' k ∧ Q k H') (dTru d) := fun ρ μ Q' hd W σ H he rp Q q =>
  h ρ μ _ hd W σ H he rp _ fun vx x W1 H1 μ1 l1 r1 hx h1 => by
    replace h1 : (match rd μ1 x with | some z => okT z ∧ Q' (truD z) μ1 | _ => False) := h1
    cases e : rd μ1 x with
    | none => rw [e] at h1; exact h1.elim
    | some z =>
      rw [e] at h1
      exact ⟨truD z, truV_of r1 hx e h1.1, q _ W1 H1 μ1 l1 r1 h1.2⟩
theorem pdt_tru {d : DE} (h : PD X a d) (he : ∀ whole, isTrue a X.env whole = (do let v ← whole; standAt a.pos; holding [v] (truthy v)) := by exact fun _ => rfl) : PDT X a (dTru d) := by
  obtain ⟨t, p, l⟩ := h
  exact ⟨_, pt_truth p he, lt_tru l⟩
theorem lt_and {t u : TT} {d e : DT} (h1 : LT K t d) (h2 : LT K u e) : LT K (tAnd t u) (dAnd d e) := fun ρ μ Q' hd W σ H he rp Q q =>
  h1 ρ μ _ hd W σ H he rp _ fun b W1 H1 μ1 l1 r1 q1 => by
    cases b with
    | true => exact h2 ρ μ1 Q' q1 W1 σ H1 (he.mono l1) r1 Q (q.le l1)
    | false => exact q false W1 H1 μ1 l1 r1 q1
theorem lt_or {t u : TT} {d e : DT} (h1 : LT K t d) (h2 : LT K u e) : LT K (tOr t u) (dOr d e) := fun ρ μ Q' hd W σ H he rp Q q =>
  h1 ρ μ _ hd W σ H he rp _ fun b W1 H1 μ1 l1 r1 q1 => by
    cases b with
    | false => exact h2 ρ μ1 Q' q1 W1 σ H1 (he.mono l1) r1 Q (q.le l1)
    | true => exact q true W1 H1 μ1 l1 r1 q1
theorem pdw_and1 {d : DT} (h : PDT X a d) : PDW X (.BoolOp .And [a] pos) d := by
  obtain ⟨t, p, l⟩ := h
  exact ⟨_, pw_and1 p, l⟩
theorem pdw_or1 {d : DT} (h : PDT X a d) : PDW X (.BoolOp .Or [a] pos) d := by
  obtain ⟨t, p, l⟩ := h
  exact ⟨_, pw_or1 p, l⟩
theorem pdw_and {d e : DT} (h : PDT X a d) (h2 : PDW X (.BoolOp .And (b :: rest) pos) e) : PDW X (.BoolOp .And (a :: b :: rest) pos) (dAnd d e) := by
  obtain ⟨t, p, l⟩ := h
  obtain ⟨t2, p2, l2⟩ := h2
  exact ⟨_, pw_and p p2, lt_and l l2⟩
theorem pdw_or {d e : DT} (h : PDT X a d) (h2 : PDW X (.BoolOp .Or (b :: rest) pos) e) : PDW X (.BoolOp .Or (a :: b :: rest) pos) (dOr d e) := by
  obtain ⟨t, p, l⟩ := h
  obtain ⟨t2, p2, l2⟩ := h2
  exact ⟨_, pw_or p p2, lt_or l l2⟩
theorem PDW.pdt {d : DT} (h : PDW X a d) : PDT X a d := by
  obtain ⟨t, p, l⟩ := h
  exact ⟨_, p.pt, l⟩
theorem pdt_not {d : DT} (h : PDT X a d) : PDT X (.UnaryOp .Not a pos) (dNot d) := by
  obtain ⟨t, p, l⟩ := h
  exact ⟨_, pt_not p, fun ρ μ Q' hd W σ H he rp Q q => l ρ μ _ hd W σ H he rp _ fun b W1 H1 μ1 l1 r1 q1 => q _ W1 H1 μ1 l1 r1 q1⟩
theorem pd_ifExp {c : Expr} {d : DT} {da db : DE} (hc : PDT X c d) (ha : PD X a da) (hb : PD X b db) : PD X (.IfExp c a b pos) (dIf d da db) := by
  obtain ⟨t, p, l⟩ := hc
  obtain ⟨ta, p1, l1⟩ := ha
  obtain ⟨tb, p2, l2⟩ := hb
  refine ⟨_, pe_ifExp p p1 p2, fun ρ μ Q' hd W σ H he rp Q q => l ρ μ _ hd W σ H he rp _ fun b W1 H1 μ1 le1 r1 q1 => ?_⟩
  cases b with
  | true => exact l1 ρ μ1 Q' q1 W1 σ H1 (he.mono le1) r1 Q (q.le le1)
  | false => exact l2 ρ μ1 Q' q1 W1 σ H1 (he.mono le1) r1 Q (q.le le1)
theorem pd_one {op} {d : DE} (h : PD X a d) : PD X (.BoolOp op [a] pos) d := by
  obtain ⟨t, p, l⟩ := h
  exact ⟨_, pe_one p, l⟩
theorem pd_and {da db : DE} (ha : PD X a da) (hb : PD X (.BoolOp .And (b :: rest) pos) db) : PD X (.BoolOp .And (a :: b :: rest) pos) (dAndV da db) := by
  obtain ⟨ta, p1, l1⟩ := ha
  obtain ⟨tb, p2, l2⟩ := hb
  refine ⟨_, pe_and p1 p2, fun ρ μ Q' hd W σ H he rp Q q => l1 ρ μ _ hd W σ H he rp _ fun v s W1 H1 μ1 le1 r1 hs h1 => ?_⟩
  cases s with
  | dat d =>
    cases d with
    | bool c =>
      cases bool_of hs
      refine ⟨c, rfl, ?_⟩
      cases c with
      | true => exact l2 ρ μ1 Q' h1 W1 σ H1 (he.mono le1) r1 Q (q.le le1)
      | false => exact (q.le le1).bl r1 h1
    | _ => exact False.elim h1
  | _ => exact False.elim h1
theorem pd_not {da : DE} (ha : PD X a da) : PD X (.UnaryOp .Not a pos) (dNotV da) := by
  obtain ⟨ta, p1, l1⟩ := ha
  refine ⟨_, pe_not p1, fun ρ μ Q' hd W σ H he rp Q q => l1 ρ μ _ hd W σ H he rp _ fun v s W1 H1 μ1 le1 r1 hs h1 => ?_⟩
  cases s with
  | dat d =>
    cases d with
    | bool c =>
      cases bool_of hs
      exact ⟨c, rfl, (q.le le1).bl r1 h1⟩
    | _ => exact False.elim h1
  | _ => exact False.elim h1
def datsOf : List Sl → Option (Bool × List PyData)
  | [] => some (false, [])
  | .dat d :: r => match datsOf r with
    | some (b, ds) => some (b, d :: ds)
    | none => none
  | .vw d :: r => match datsOf r with
    | some (_, ds) => some (true, d :: ds)
    | none => none
  | _ :: _ => none
theorem datsOf_ok {W : Wd} (e : Ex W.G W.F) : ∀ {ss : List Sl} {vs : List V} {b : Bool} {ds : List PyData}, SlAll K W vs ss → datsOf ss = some (b, ds) → DvAll K (bh W b) vs ds
  | [], _, _, _, h, e1 => by
    cases h
    cases e1
    exact .nil
  | .dat d :: r, _, b, ds, h, e1 => by
    cases h with
    | cons h1 h2 =>
      unfold datsOf at e1
      cases q : datsOf r with
      | none => rw [q] at e1; cases e1
      | some z =>
        rw [q] at e1
        obtain ⟨b', ds'⟩ := z
        cases e1
        exact .cons (Dv.mono (show Dv K W.G _ d from h1) (bh_or1 (b := false) (c := b) e)) (datsOf_ok e h2 q)
  | .vw d :: r, _, b, ds, h, e1 => by
    cases h with
    | cons h1 h2 =>
      unfold datsOf at e1
      cases q : datsOf r with
      | none => rw [q] at e1; cases e1
      | some z =>
        rw [q] at e1
        obtain ⟨b', ds'⟩ := z
        cases e1
        exact .cons h1 (DvAll.mono (datsOf_ok e h2 q) (bh_ff e))
  | .cell k :: r, _, _, _, _, e1 => by cases e1
  | .raw v :: r, _, _, _, _, e1 => by cases e1
  | .rtup v :: r, _, _, _, _, e1 => by cases e1
def dTup (a : DA) : DE := fun ρ μ Q => a ρ μ fun ss μ1 => match datsOf ss with
  | some (b, ds) => ds.length ≤ sizeLine ∧ Q (mk b (.tuple ds)) μ1
  | none => False
def dLst (a : DA) : DE := fun ρ μ Q => a ρ μ fun ss μ1 => match datsOf ss with
  | some (b, ds) => ds.length ≤ sizeLine ∧ Q (mk b (.list ds)) μ1
  | none => False
def dLstC (a : DA) : DE := fun ρ μ Q => a ρ μ fun ss μ1 => match datsOf ss with
  | some (false, ds) => ds.length ≤ sizeLine ∧ Q (.cell μ1.length) (μ1 ++ [.lst ds])
  | _ => False
variable {es : List Expr}
theorem pd_tup {x1} {a : DA} (h : PDA X es a) : PD X (.Tuple es x1 pos) (dTup a) := by
  obtain ⟨t, p, l⟩ := h
  refine ⟨_, pe_tup p, fun ρ μ Q' hd W σ H he rp Q q => l ρ μ _ hd W σ H he rp _ fun vs ss W1 H1 μ1 l1 r1 hs h1 => ?_⟩
  replace h1 : (match datsOf ss with | some (b, ds) => ds.length ≤ sizeLine ∧ Q' (mk b (.tuple ds)) μ1 | none => False) := h1
  cases e : datsOf ss with
  | none => rw [e] at h1; exact h1.elim
  | some z =>
    rw [e] at h1
    obtain ⟨b, ds⟩ := z
    have hx := datsOf_ok r1.gf hs e
    exact ⟨by rw [hx.length]; exact h1.1, (q.le l1).newT r1 hx h1.2⟩
theorem pd_lst {a : DA} (h : PDA X es a) : PD X (.List es pos) (dLst a) := by
  obtain ⟨t, p, l⟩ := h
  refine ⟨_, pe_lst p, fun ρ μ Q' hd W σ H he rp Q q => l ρ μ _ hd W σ H he rp _ fun vs ss W1 H1 μ1 l1 r1 hs h1 => ?_⟩
  replace h1 : (match datsOf ss with | some (b, ds) => ds.length ≤ sizeLine ∧ Q' (mk b (.list ds)) μ1 | none => False) := h1
  cases e : datsOf ss with
  | none => rw [e] at h1; exact h1.elim
  | some z =>
    rw [e] at h1
    obtain ⟨b, ds⟩ := z
    have hx := datsOf_ok r1.gf hs e
    exact ⟨by rw [hx.length]; exact h1.1, (q.le l1).newL r1 hx h1.2⟩
theorem pd_lstC {a : DA} (h : PDA X es a) : PD X (.List es pos) (dLstC a) := by
  obtain ⟨t, p, l⟩ := h
  refine ⟨_, pe_lst p, fun ρ μ Q' hd W σ H he rp Q q => l ρ μ _ hd W σ H he rp _ fun vs ss W1 H1 μ1 l1 r1 hs h1 => ?_⟩
  replace h1 : (match datsOf ss with | some (false, ds) => ds.length ≤ sizeLine ∧ Q' (.cell μ1.length) (μ1 ++ [.lst ds]) | _ => False) := h1
  cases e : datsOf ss with
  | none => rw [e] at h1; exact h1.elim
  | some z =>
    rw [e] at h1
    obtain ⟨b, ds⟩ := z
    cases b with
    | true => exact False.elim h1
    | false =>
      have hx := datsOf_ok r1.gf hs e
      exact ⟨by rw [hx.length]; exact h1.1, (q.le l1).newCell r1 hx h1.2⟩
def rIx : DR2 := fun x y μ Q => match rd μ x, rd μ y with
  | some (.list ds), some (.int i) => ∃ d, atI ds i = some d ∧ Q (elt x d) μ
  | some (.tuple ds), some (.int i) => ∃ d, atI ds i = some d ∧ Q (elt x d) μ
  | some (.str z), some (.int i) => z.length ≤ sizeLine ∧ ∃ c, atI z.cps.toList i = some c ∧ Q (.dat (.str ⟨#[c]⟩)) μ
  | _, _ => False
theorem its_at {W : Wd} {s : Sl} {xs : List V} {ds : List PyData} {i : Int} {d : PyData} (h : Its K W s xs ds) (e : atI ds i = some d) : ∃ v, atI xs i = some v ∧ SlOk K W v (elt s d) := by
  unfold atI at e ⊢
  rw [h.length]
  cases q : ixN ds.length i with
  | none => rw [q] at e; cases e
  | some j =>
    rw [q] at e
    exact h.get e
theorem lr_ix : LR2 K (fun x y H Q => rIxL K x y H Q ∨ (rIxT K x y H Q ∨ rIxS x y H Q)) rIx := fun x y μ Q' h W H vx vy r hx hy Q q => by
  unfold rIx at h
  split at h
  · rename_i ds i e1 e2
    obtain ⟨d, h1, h2⟩ := h
    obtain ⟨p, xs, rfl, hp, hi⟩ := rd_lst r hx e1
    cases rd_int r hy e2
    obtain ⟨v, hv, hs⟩ := its_at hi h1
    exact .inl ⟨p, xs, i, v, rfl, rfl, hp, hv, q.here r hs h2⟩
  · rename_i ds i e1 e2
    obtain ⟨d, h1, h2⟩ := h
    obtain ⟨p, xs, rfl, hp, hi⟩ := rd_tup r hx e1
    cases rd_int r hy e2
    obtain ⟨v, hv, hs⟩ := its_at hi h1
    exact .inr (.inl ⟨p, xs, i, v, rfl, rfl, hp, hv, q.here r hs h2⟩)
  · rename_i z i e1 e2
    obtain ⟨hz, c, h1, h2⟩ := h
    cases rd_str r hx e1
    cases rd_int r hy e2
    exact .inr (.inr ⟨z, i, c, rfl, rfl, hz, h1, q.str r h2⟩)
  · exact h.elim
theorem pd_ix {da db : DE} (ha : PD X a da) (hb : PD X b db) (hs : PlainIx b := by exact fun _ _ => rfl) : PD X (.Subscript a b pos) (dOp rIx da db) := by
  obtain ⟨ta, p1, l1⟩ := ha
  obtain ⟨tb, p2, l2⟩ := hb
  exact ⟨_, pe_ix (ix_list.or (ix_tup.or ix_str)) p1 p2 hs, le_op lr_ix l1 l2⟩
abbrev DO := Rho → Mu → (Option Int → Mu → Prop) → Prop
def LO (K : PySem.W.Frag) (t : TO) (d : DO) : Prop := ∀ ρ μ Q', d ρ μ Q' → ∀ W σ H, EnvOk K W σ ρ → Rep K W H μ → ∀ Q : Option Int → Hp → Prop, (∀ o W' H' μ', Le W W' → Rep K W' H' μ' → Q' o μ' → Q o H') → t σ H Q
structure PDO (X : Cx) (e : Option Expr) (d : DO) : Prop where
  ex : ∃ t, PO X e t ∧ LO X.K t d
theorem rd_tup_v {W : Wd} {v : V} {μ : Mu} {s : Sl} {ds : List PyData} (h : SlOk K W v s) (e : rd μ s = some (.tuple ds)) : Dv K (bh W (isV s)) v (.tuple ds) := by
  cases s with
  | dat d' => cases e; exact h
  | vw d' => cases e; exact h
  | raw w => cases e
  | rtup w => cases e
  | cell k =>
    replace e : rdC μ[k]? = _ := e
    cases qq : μ[k]? with
    | none => rw [qq] at e; cases e
    | some c => rw [qq] at e; cases c <;> cases e
end
end DL
namespace DL
open PySem PySem.Spec PyProof.Rows L2 Evl
section
variable {X : Cx} {K : PySem.W.Frag} {e : Expr} {es : List Expr} {x : Str} {p pos : Pos}
theorem pd_cb {id : String} {r : List V → Hp → VK → Prop} {d : DRA} {a : DA} (hc : CallR X (.builtin id) r) (hr : LRA X.K r d) (hv : bootBuiltins x = some (.builtin id)) (ha : PDA X (e :: es) a) (hm : X.mg x = none) (hg : Gl X x := by rfl)
    (hn : x ≠ "__name__" := by decide) (hdb : (x == ("__debug__" : Str)) = false := by decide)
    (he : starEach (e :: es) X.env = (false, eval e X.env) :: starEach es X.env := by rfl) (hpl : (backTo pos (starEach es X.env)).any (·.1) = false := by rfl) : PD X (.Call (.Name x p) (e :: es) [] pos) (dCB d a) := by
  obtain ⟨t, p1, l1⟩ := ha
  exact ⟨_, pe_callB hc hg hm hv p1 hn hdb he hpl, le_cb hr l1⟩
theorem pd_ct {T : String} {r : List V → Hp → VK → Prop} {d : DRA} {a : DA} (hc : CallR X (.type T) r) (hr : LRA X.K r d) (hv : bootBuiltins x = some (.type T)) (ha : PDA X (e :: es) a) (hm : X.mg x = none) (hg : Gl X x := by rfl)
    (hn : x ≠ "__name__" := by decide) (hdb : (x == ("__debug__" : Str)) = false := by decide)
    (he : starEach (e :: es) X.env = (false, eval e X.env) :: starEach es X.env := by rfl) (hpl : (backTo pos (starEach es X.env)).any (·.1) = false := by rfl) : PD X (.Call (.Name x p) (e :: es) [] pos) (dCB d a) := by
  obtain ⟨t, p1, l1⟩ := ha
  exact ⟨_, pe_callTy hc hg hm hv p1 hn hdb he hpl, le_cb hr l1⟩
theorem pd_cf {id : String} {r : List V → Hp → VK → Prop} {d : DRA} {a : DA} (hc : CallR X (.builtin id) r) (hr : LRA X.K r d) (ha : PDA X (e :: es) a) (hm : X.mg x = some (.builtin id)) (hg : Gl X x := by rfl)
    (hdb : (x == ("__debug__" : Str)) = false := by decide)
    (he : starEach (e :: es) X.env = (false, eval e X.env) :: starEach es X.env := by rfl) (hpl : (backTo pos (starEach es X.env)).any (·.1) = false := by rfl) : PD X (.Call (.Name x p) (e :: es) [] pos) (dCB d a) := by
  obtain ⟨t, p1, l1⟩ := ha
  exact ⟨_, pe_callBfun hc hg hm p1 hdb he hpl, le_cb hr l1⟩
def arg1 (f : PyData → Sl → Mu → DQ → Prop) : DRA := fun xs μ Q => match xs with
  | [x] => match rd μ x with
    | some d => f d x μ Q
    | none => False
  | _ => False
theorem arg1_of {f : PyData → Sl → Mu → DQ → Prop} {xs : List Sl} {μ : Mu} {Q : DQ} (h : arg1 f xs μ Q) : ∃ x d, xs = [x] ∧ rd μ x = some d ∧ f d x μ Q := by
  unfold arg1 at h
  split at h
  · rename_i x
    split at h
    · rename_i d e
      exact ⟨x, d, rfl, e, h⟩
    · exact h.elim
  · exact h.elim
theorem slAll1 {W : Wd} {vs : List V} {x : Sl} (h : SlAll K W vs [x]) : ∃ v, vs = [v] ∧ SlOk K W v x := by
  cases h with
  | cons a t =>
    cases t
    exact ⟨_, rfl, a⟩
theorem slAll2 {W : Wd} {vs : List V} {x y : Sl} (h : SlAll K W vs [x, y]) : ∃ v u, vs = [v, u] ∧ SlOk K W v x ∧ SlOk K W u y := by
  cases h with
  | cons a t =>
    obtain ⟨u, rfl, b⟩ := slAll1 t
    exact ⟨_, _, rfl, a, b⟩
def ints2A (f : Int → Int → PyData) (c : Int → Int → Prop) : DRA := fun xs μ Q => match xs with
  | [x, y] => ints2 f c x y μ Q
  | _ => False
theorem ints2A_of {f : Int → Int → PyData} {c : Int → Int → Prop} {xs : List Sl} {μ : Mu} {Q : DQ} (h : ints2A f c xs μ Q) {W : Wd} {H : Hp} {vs : List V} (r : Rep K W H μ) (hs : SlAll K W vs xs) : ∃ i j, vs = [.int i, .int j] ∧ c i j ∧ Q (.dat (f i j)) μ := by
  unfold ints2A at h
  split at h
  · obtain ⟨i, j, e1, e2, hc, h⟩ := ints2_of h
    obtain ⟨v, u, rfl, h1, h2⟩ := slAll2 hs
    cases rd_int r h1 e1
    cases rd_int r h2 e2
    exact ⟨i, j, rfl, hc, h⟩
  · exact h.elim
def fLen : DRA := arg1 fun d _ μ Q => match d with
  | .list ds => Q (.dat (.int ds.length)) μ
  | .tuple ds => Q (.dat (.int ds.length)) μ
  | .str z => z.length ≤ sizeLine ∧ Q (.dat (.int z.length)) μ
  | _ => False
theorem pd_len {a : DA} (ha : PDA X (e :: es) a) (hm : X.mg "len" = none) (hg : Gl X "len" := by rfl)
    (he : starEach (e :: es) X.env = (false, eval e X.env) :: starEach es X.env := by rfl) (hpl : (backTo pos (starEach es X.env)).any (·.1) = false := by rfl) : PD X (.Call (.Name "len" p) (e :: es) [] pos) (dCB fLen a) := by
  refine pd_cb (call_len_seq.or call_len_str) (fun xs μ Q' h W H vs r hs Q q => ?_) PySem.boot_len ha hm hg (by decide) (by decide) he hpl
  obtain ⟨x, d, rfl, e1, h⟩ := arg1_of h
  obtain ⟨v, rfl, hx⟩ := slAll1 hs
  cases d with
  | list ds =>
    obtain ⟨a, ys, rfl, hl, hi⟩ := rd_lst r hx e1
    exact .inl ⟨a, ys, rfl, .inl hl, by rw [hi.length]; exact q.int r h⟩
  | tuple ds =>
    obtain ⟨a, ys, rfl, hl, hi⟩ := rd_tup r hx e1
    exact .inl ⟨a, ys, rfl, .inr hl, by rw [hi.length]; exact q.int r h⟩
  | str z =>
    cases rd_str r hx e1
    exact .inr ⟨z, rfl, h.1, q.int r h.2⟩
  | _ => exact False.elim h
def fAbs : DRA := arg1 fun d _ μ Q => match d with
  | .int i => Q (.dat (.int (if i < 0 then -i else i))) μ
  | _ => False
theorem pd_abs {a : DA} (ha : PDA X (e :: es) a) (hm : X.mg "abs" = none) (hg : Gl X "abs" := by rfl)
    (he : starEach (e :: es) X.env = (false, eval e X.env) :: starEach es X.env := by rfl) (hpl : (backTo pos (starEach es X.env)).any (·.1) = false := by rfl) : PD X (.Call (.Name "abs" p) (e :: es) [] pos) (dCB fAbs a) := by
  refine pd_cb call_abs (fun xs μ Q' h W H vs r hs Q q => ?_) (by decide +kernel) ha hm hg (by decide) (by decide) he hpl
  obtain ⟨x, d, rfl, e1, h⟩ := arg1_of h
  obtain ⟨v, rfl, hx⟩ := slAll1 hs
  cases d with
  | int i =>
    cases rd_int r hx e1
    exact ⟨i, rfl, q.int r h⟩
  | _ => exact False.elim h
def fMax2 : DRA := ints2A (fun i j => .int (if j > i then j else i)) fun _ _ => True
theorem pd_max2 {a : DA} (hc : X.calm = true) (ha : PDA X (e :: es) a) (hm : X.mg "max" = none) (hg : Gl X "max" := by rfl)
    (he : starEach (e :: es) X.env = (false, eval e X.env) :: starEach es X.env := by rfl) (hpl : (backTo pos (starEach es X.env)).any (·.1) = false := by rfl) : PD X (.Call (.Name "max" p) (e :: es) [] pos) (dCB fMax2 a) :=
  pd_cb (call_max2 hc) (fun xs μ Q' h W H vs r hs Q q => let ⟨i, j, e1, _, h⟩ := ints2A_of h r hs; ⟨i, j, e1, q.int r h⟩) (by decide +kernel) ha hm hg (by decide) (by decide) he hpl
def fInt : DRA := arg1 fun d _ μ Q => match d with
  | .int i => Q (.dat (.int i)) μ
  | .bool b => Q (.dat (.int (if b then 1 else 0))) μ
  | .str a => ∃ n, PySem.intText? a = some n ∧ a.length ≤ 640 ∧ Q (.dat (.int n)) μ
  | _ => False
theorem pd_intc {a : DA} (ha : PDA X (e :: es) a) (hm : X.mg "int" = none) (hg : Gl X "int" := by rfl)
    (he : starEach (e :: es) X.env = (false, eval e X.env) :: starEach es X.env := by rfl) (hpl : (backTo pos (starEach es X.env)).any (·.1) = false := by rfl) : PD X (.Call (.Name "int" p) (e :: es) [] pos) (dCB fInt a) := by
  refine pd_ct (call_int1.or call_int_str) (fun xs μ Q' h W H vs r hs Q q => ?_) (by decide +kernel) ha hm hg (by decide) (by decide) he hpl
  obtain ⟨x, d, rfl, e1, h⟩ := arg1_of h
  obtain ⟨v, rfl, hx⟩ := slAll1 hs
  cases d with
  | int i =>
    cases rd_int r hx e1
    exact .inl (.inl ⟨i, rfl, q.int r h⟩)
  | bool b =>
    cases rd_bool r hx e1
    exact .inl (.inr ⟨b, rfl, q.int r h⟩)
  | str z =>
    cases rd_str r hx e1
    obtain ⟨n, h1, h2, h3⟩ := h
    exact .inr ⟨z, n, rfl, h1, h2, q.int r h3⟩
  | _ => exact False.elim h
def CDm (_ j : Int) : Prop := 0 < j ∧ j.natAbs.log2 < 9000
def fDm : DRA := ints2A (fun i j => .tuple [.int (i / j), .int (i % j)]) CDm
theorem pd_dm {a : DA} (ha : PDA X (e :: es) a) (hm : X.mg "divmod" = none) (hg : Gl X "divmod" := by rfl)
    (he : starEach (e :: es) X.env = (false, eval e X.env) :: starEach es X.env := by rfl) (hpl : (backTo pos (starEach es X.env)).any (·.1) = false := by rfl) : PD X (.Call (.Name "divmod" p) (e :: es) [] pos) (dCB fDm a) := by
  refine pd_cb call_divmodW (fun xs μ Q' h W H vs r hs Q q => ?_) (by decide +kernel) ha hm hg (by decide) (by decide) he hpl
  obtain ⟨i, j, rfl, hc, h⟩ := ints2A_of h r hs
  exact ⟨i, j, rfl, ⟨hc.1, PyProof.noPylong_of_log2 hc.2⟩, q.newT (b := false) r (.cons (.int _) (.cons (.int _) .nil)) h⟩
def fGcd : DRA := ints2A (fun i j => .int ((Nat.gcd i.natAbs j.natAbs : Nat) : Int)) fun _ _ => True
theorem pd_gcd {a : DA} (ha : PDA X (e :: es) a) (hm : X.mg x = some (.builtin "math.gcd")) (hg : Gl X x := by rfl) (hdb : (x == ("__debug__" : Str)) = false := by decide)
    (he : starEach (e :: es) X.env = (false, eval e X.env) :: starEach es X.env := by rfl) (hpl : (backTo pos (starEach es X.env)).any (·.1) = false := by rfl) : PD X (.Call (.Name x p) (e :: es) [] pos) (dCB fGcd a) :=
  pd_cf cr_gcd (fun xs μ Q' h W H vs r hs Q q => let ⟨i, j, e1, _, h⟩ := ints2A_of h r hs; ⟨i, j, e1, q.int r h⟩) ha hm hg hdb he hpl
def CLcm (i j : Int) : Prop := i.natAbs.log2 < 9000 ∧ j.natAbs.log2 < 9000
theorem log2_max {a b c : Nat} (h1 : a.log2 < c) (h2 : b.log2 < c) : (max a b).log2 < c := by
  rcases Nat.le_total a b with h | h
  · rw [Nat.max_eq_right h]; exact h2
  · rw [Nat.max_eq_left h]; exact h1
theorem lt_of_log2 {n k : Nat} (h : n.log2 < k) : n < 2 ^ k := by
  rcases Nat.eq_zero_or_pos n with z | z
  · rw [z]; exact Nat.pow_pos (by decide)
  · exact (Nat.log2_lt (by omega)).mp h
theorem lcm_fits {a b : Int} (h : CLcm a b) : ((((Nat.lcm 1 a.natAbs).lcm b.natAbs : Nat) : Int)).natAbs.log2 < bitsLine := by
  have e : bitsLine = 134217728 := by decide
  rw [Int.natAbs_natCast, Nat.lcm_comm 1, show Nat.lcm a.natAbs 1 = a.natAbs from Nat.lcm_one_right _]
  have h1 : a.natAbs < 2 ^ 9000 := lt_of_log2 h.1
  have h2 : b.natAbs < 2 ^ 9000 := lt_of_log2 h.2
  have h3 : a.natAbs.lcm b.natAbs ≤ a.natAbs * b.natAbs := by
    rcases Nat.eq_zero_or_pos (a.natAbs * b.natAbs) with z | z
    · rcases Nat.mul_eq_zero.mp z with q | q <;> rw [q] <;> simp
    · exact Nat.le_of_dvd z (Nat.lcm_dvd (Nat.dvd_mul_right _ _) (Nat.dvd_mul_left _ _))
  have h4 : a.natAbs * b.natAbs < 2 ^ (9000 + 9000) := by
    rw [Nat.pow_add]
    exact Nat.mul_lt_mul'' h1 h2
  have h5 := PySem.Flt.log2_lt_of (by decide : 0 < 9000 + 9000) (Nat.lt_of_le_of_lt h3 h4)
  omega
end
end DL
namespace DL
open PySem PySem.Spec PyProof.Rows L2 Evl
section
variable {X : Cx} {K : PySem.W.Frag} {e : Expr} {es : List Expr} {x : Str} {p pos : Pos}
def rLcmV : List V → Hp → VK → Prop := fun vs H Q => ∃ a b : Int, vs = [.int a, .int b] ∧ CLcm a b ∧ Q (.int ((Nat.lcm a.natAbs b.natAbs : Nat) : Int)) H
theorem cr_lcm : CallR X (.builtin "math.lcm") rLcmV := by
  intro pins s σ H vs us Q I r h
  obtain ⟨a, b, rfl, hc, q⟩ := h
  obtain ⟨t, u, rfl⟩ := Vals.int2 r
  have m1 : (max 1 a.natAbs).log2 < 9000 := log2_max (by decide) hc.1
  have m2 : (max a.natAbs b.natAbs).log2 < 9000 := log2_max hc.1 hc.2
  have g := PySem.W.mg_run_lcm a t b u (by omega) (by omega) (lcm_fits hc)
  have e1 : (Nat.lcm 1 a.natAbs).lcm b.natAbs = a.natAbs.lcm b.natAbs := by rw [Nat.lcm_comm 1, show Nat.lcm a.natAbs 1 = a.natAbs from Nat.lcm_one_right _]
  rw [e1] at g
  exact PySem.call_function_meets PySem.W.MGF.kind_lcm PySem.W.MGF.plain_lcm PySem.W.MGF.entry_lcm (PySem.W.MGF.args_lcm _ _) g.meets ⟨.int _, H, I.tok _, ⟨_, rfl⟩, q⟩
def fLcm : DRA := ints2A (fun i j => .int ((Nat.lcm i.natAbs j.natAbs : Nat) : Int)) CLcm
theorem pd_lcm {a : DA} (ha : PDA X (e :: es) a) (hm : X.mg x = some (.builtin "math.lcm")) (hg : Gl X x := by rfl) (hdb : (x == ("__debug__" : Str)) = false := by decide)
    (he : starEach (e :: es) X.env = (false, eval e X.env) :: starEach es X.env := by rfl) (hpl : (backTo pos (starEach es X.env)).any (·.1) = false := by rfl) : PD X (.Call (.Name x p) (e :: es) [] pos) (dCB fLcm a) :=
  pd_cf cr_lcm (fun xs μ Q' h W H vs r hs Q q => let ⟨i, j, e1, hc, h⟩ := ints2A_of h r hs; ⟨i, j, e1, hc, q.int r h⟩) ha hm hg hdb he hpl
def intsOf : List PyData → Option (List Int)
  | [] => some []
  | .int i :: r => (intsOf r).map (i :: ·)
  | _ :: _ => none
def boolsOf : List PyData → Option (List Bool)
  | [] => some []
  | .bool i :: r => (boolsOf r).map (i :: ·)
  | _ :: _ => none
theorem of_boolsOf : ∀ {ds : List PyData} {is : List Bool}, boolsOf ds = some is → ds = is.map PyData.bool
  | [], _, h => by cases h; rfl
  | .bool i :: r, _, h => by
    replace h : (boolsOf r).map (i :: ·) = _ := h
    cases q : boolsOf r with
    | none => rw [q] at h; cases h
    | some z => rw [q] at h; cases h; rw [of_boolsOf q]; rfl
  | .none :: _, _, h => by cases h
  | .int _ :: _, _, h => by cases h
  | .str _ :: _, _, h => by cases h
  | .list _ :: _, _, h => by cases h
  | .tuple _ :: _, _, h => by cases h
  | .dict _ :: _, _, h => by cases h
def fSum : DRA := arg1 fun d _ μ Q => match d with
  | .list ds => match intsOf ds with
    | some is => Q (.dat (.int is.sum)) μ
    | none => False
  | _ => False
def fBools (f : List Bool → Bool) : DRA := arg1 fun d _ μ Q => match d with
  | .list ds => match boolsOf ds with
    | some is => Q (.dat (.bool (f is))) μ
    | none => False
  | _ => False
def fAll : DRA := fBools fun bs => bs.all id
theorem pd_all {a : DA} (hc : X.calm = true) (ha : PDA X (e :: es) a) (hm : X.mg "all" = none) (hg : Gl X "all" := by rfl)
    (he : starEach (e :: es) X.env = (false, eval e X.env) :: starEach es X.env := by rfl) (hpl : (backTo pos (starEach es X.env)).any (·.1) = false := by rfl) : PD X (.Call (.Name "all" p) (e :: es) [] pos) (dCB fAll a) := by
  refine pd_cb (cr_all hc) (fun xs μ Q' h W H vs r hs Q q => ?_) (by decide +kernel) ha hm hg (by decide) (by decide) he hpl
  unfold fAll fBools at h
  obtain ⟨x, d, rfl, e1, h⟩ := arg1_of h
  obtain ⟨v, rfl, hx⟩ := slAll1 hs
  cases d with
  | list ds =>
    replace h : (match boolsOf ds with | some is => Q' (.dat (.bool (is.all id))) μ | none => False) := h
    cases qq : boolsOf ds with
    | none => rw [qq] at h; exact h.elim
    | some is =>
      rw [qq] at h
      cases of_boolsOf qq
      obtain ⟨a, ys, rfl, hl, hi⟩ := rd_lst r hx e1
      cases DvAll.of_bools is hi
      exact ⟨a, is, rfl, hl, q.bl r h⟩
  | _ => exact False.elim h
def fTuple : DRA := arg1 fun d x μ Q => match d with
  | .list ds => Q (mk (isV x) (.tuple ds)) μ
  | .tuple ds => Q (mk (isV x) (.tuple ds)) μ
  | _ => False
def fList : DRA := arg1 fun d x μ Q => match d with
  | .list ds => Q (mk (isV x) (.list ds)) μ
  | .tuple ds => Q (mk (isV x) (.list ds)) μ
  | _ => False
theorem pd_tuple {a : DA} (ha : PDA X (e :: es) a) (hm : X.mg "tuple" = none) (hg : Gl X "tuple" := by rfl)
    (he : starEach (e :: es) X.env = (false, eval e X.env) :: starEach es X.env := by rfl) (hpl : (backTo pos (starEach es X.env)).any (·.1) = false := by rfl) : PD X (.Call (.Name "tuple" p) (e :: es) [] pos) (dCB fTuple a) := by
  refine pd_ct call_tuple_of (fun xs μ Q' h W H vs r hs Q q => ?_) (by decide +kernel) ha hm hg (by decide) (by decide) he hpl
  obtain ⟨x, d, rfl, e1, h⟩ := arg1_of h
  obtain ⟨v, rfl, hx⟩ := slAll1 hs
  cases d with
  | list ds =>
    obtain ⟨a, ys, rfl, hl, hi⟩ := rd_lst r hx e1
    exact ⟨a, ys, rfl, .inl ⟨hl, q.newT r hi h⟩⟩
  | tuple ds =>
    obtain ⟨a, ys, rfl, hl, hi⟩ := rd_tup r hx e1
    exact ⟨a, ys, rfl, .inr ⟨hl, q _ _ W H μ (Le.refl W) r (slOk_mk (rd_tup_v hx e1)) h⟩⟩
  | _ => exact False.elim h
theorem pd_list {a : DA} (ha : PDA X (e :: es) a) (hm : X.mg "list" = none) (hg : Gl X "list" := by rfl)
    (he : starEach (e :: es) X.env = (false, eval e X.env) :: starEach es X.env := by rfl) (hpl : (backTo pos (starEach es X.env)).any (·.1) = false := by rfl) : PD X (.Call (.Name "list" p) (e :: es) [] pos) (dCB fList a) := by
  refine pd_ct call_list_of (fun xs μ Q' h W H vs r hs Q q => ?_) (by decide +kernel) ha hm hg (by decide) (by decide) he hpl
  obtain ⟨x, d, rfl, e1, h⟩ := arg1_of h
  obtain ⟨v, rfl, hx⟩ := slAll1 hs
  cases d with
  | list ds =>
    obtain ⟨a, ys, rfl, hl, hi⟩ := rd_lst r hx e1
    exact ⟨a, ys, rfl, .inl hl, q.newL r hi h⟩
  | tuple ds =>
    obtain ⟨a, ys, rfl, hl, hi⟩ := rd_tup r hx e1
    exact ⟨a, ys, rfl, .inr hl, q.newL r hi h⟩
  | _ => exact False.elim h
inductive Ty5 where
  | int | bool | str | tup | lst
def Ty5.nm : Ty5 → String
  | .int => "int"
  | .bool => "bool"
  | .str => "str"
  | .tup => "tuple"
  | .lst => "list"
def isTy : Ty5 → PyData → Bool
  | .int, .int _ => true
  | .int, .bool _ => true
  | .bool, .bool _ => true
  | .str, .str _ => true
  | .tup, .tuple _ => true
  | .lst, .list _ => true
  | _, _ => false
def tyN : PyData → String
  | .none => "NoneType"
  | .bool _ => "bool"
  | .int _ => "int"
  | .str _ => "str"
  | .list _ => "list"
  | .tuple _ => "tuple"
  | .dict _ => "dict"
theorem kit_of5 (T : Ty5) (d : PyData) : PySem.W.kitOne K (.type (tyN d)) (.type T.nm) = some (isTy T d) := by
  cases T <;> cases d <;> refine kit_ty ?_ <;> simp only [tyN, Ty5.nm, isTy] <;> decide +kernel
theorem tyX_of {H : Hp} {v : V} {d : PyData} (h : Dv K H v d) : TyX K H v (.type (tyN d)) := by
  cases h with
  | non => exact .base .non
  | bl b => exact .base (.bl b)
  | int i => exact .base (.int i)
  | str z => exact .base (.str z)
  | lst hs _ =>
    rcases hs with (hs | ⟨o, hs⟩) | ⟨o, its, n, hk, hc, _⟩
    · exact .base (.lst hs)
    · exact .base (.frz hs)
    · exact .kList hk hc
  | tup hs _ => exact .base (.tup hs)
  | emp hs => exact .base (.dK hs)
def fIsi (T : Ty5) : DR1 := fun x μ Q => match rd μ x with
  | some d => Q (.dat (.bool (isTy T d))) μ
  | none => False
theorem pd_isi (T : Ty5) {c : Str} {cp : Pos} {d : DE} (ha : PD X e d) (hm : X.mg "isinstance" = none) (hmc : X.mg c = none) (hv : bootBuiltins c = some (.type T.nm)) (hg : Gl X "isinstance" := by rfl) (hgc : Gl X c := by rfl)
    (hn : c ≠ "__name__" := by decide) (hdb : (c == ("__debug__" : Str)) = false := by decide)
    (he : starEach [e, .Name c cp] X.env = (false, eval e X.env) :: starEach [.Name c cp] X.env := by rfl) (he2 : starEach [.Name c cp] X.env = (false, eval (.Name c cp) X.env) :: starEach [] X.env := by rfl)
    (hpl : (backTo pos (starEach [.Name c cp] X.env)).any (·.1) = false := by rfl) : PD X (.Call (.Name "isinstance" p) [e, .Name c cp] [] pos) (dUn (fIsi T) d) := by
  obtain ⟨t, p1, l1⟩ := ha
  refine ⟨_, pe_callB call_isi hg hm (by decide +kernel) (pa_cons p1 (pa_cons (pe_bltn (v := .ty T.nm) hgc hmc hv rfl hn hdb) pa_nil he2) he) (by decide) (by decide) he hpl, fun ρ μ Q' h W σ H henv rp Q q =>
    l1 ρ μ _ h W σ H henv rp _ fun v s W1 H1 μ1 le1 r1 hs h1 => ?_⟩
  replace h1 : (match rd μ1 s with | some d => Q' (.dat (.bool (isTy T d))) μ1 | none => False) := h1
  cases ee : rd μ1 s with
  | none => rw [ee] at h1; exact h1.elim
  | some z =>
    rw [ee] at h1
    exact ⟨v, .ty T.nm, .type (tyN z), .type T.nm, isTy T z, rfl, .ty _, tyX_of (rd_dp r1 hs ee), kit_of5 T z, (q.le le1).bl r1 h1⟩
end
end DL
namespace DL
open PySem PySem.Spec PyProof.Rows L2 Evl
def dNext : DS := fun D ρ μ => D.nx ρ μ
def dSeq (a b : DS) : DS := fun D ρ μ => a { D with nx := b D } ρ μ
def dAsg (d : DE) (i : Nat) : DS := fun D ρ μ => d ρ μ fun s μ1 => D.nx (ρ.set i (some s)) μ1
def dRet (d : DE) : DS := fun D ρ μ => d ρ μ D.rt
def dRetN : DS := fun D _ μ => D.rt (.dat .none) μ
def dIfS (t : DT) (a b : DS) : DS := fun D ρ μ => t ρ μ fun c μ1 => if c = true then a D ρ μ1 else b D ρ μ1
def dDrop (d : DE) : DS := fun D ρ μ => d ρ μ fun _ μ1 => D.nx ρ μ1
def dNever : DS := fun _ _ _ => False
def dCont : DS := fun D ρ μ => D.ct ρ μ
def dBreak : DS := fun D ρ μ => D.bk ρ μ
def dAug (i : Nat) (r : DR2) (d : DE) : DS := fun D ρ μ => dVar i ρ μ fun x μ0 => d ρ μ0 fun y μ1 => r x y μ1 fun z μ2 => D.nx (ρ.set i (some z)) μ2
def dPar (i j : Nat) (a : DA) : DS := fun D ρ μ => a ρ μ fun ss μ1 => match ss with
  | [s, t] => D.nx ((ρ.set i (some s)).set j (some t)) μ1
  | _ => False
section
variable {K : PySem.W.Frag} {W : Wd}
theorem EndsOk.with_nx {D' : DEnds} {D : Ends} (h : EndsOk K W D' D) {nx' : Rho → Mu → Prop} {nx : L2.St → Hp → Prop} (hn : NOk K W nx' nx) : EndsOk K W { D' with nx := nx' } { D with nx := nx } := ⟨hn, h.rt, h.bk, h.ct⟩
end
section
variable {X : Cx} {K : PySem.W.Frag} {st : Stmt} {rest : List Stmt} {e : Expr} {pos : Pos} {d : DE} {t : DT} {a b : DS}
theorem pds_nil : PDSs X [] dNext := ⟨_, pss_nil, fun D' ρ μ h W σ H he r D hd => hd.nx σ ρ W H μ (Le.refl W) r he h⟩
theorem pds_cons (h1 : PDS X st a) (h2 : PDSs X rest b) : PDSs X (st :: rest) (dSeq a b) := by
  obtain ⟨t1, p1, l1⟩ := h1
  obtain ⟨t2, p2, l2⟩ := h2
  exact ⟨_, pss_cons p1 p2, fun D' ρ μ h W σ H he r D hd => l1 _ ρ μ h W σ H he r _ (hd.with_nx fun σ1 ρ1 W1 H1 μ1 le1 r1 he1 q => l2 D' ρ1 μ1 q W1 σ1 H1 he1 r1 D (hd.le le1))⟩
theorem pds_one (h1 : PDS X st a) : PDSs X [st] a := by
  obtain ⟨t1, p1, l1⟩ := h1
  exact ⟨_, pss_one p1, l1⟩
theorem pds_never {sts : List Stmt} : PDSs X sts dNever := ⟨_, pss_never, fun D' ρ μ h W σ H he r D hd => h.elim⟩
theorem pd_ret (h : PD X e d) : PDS X (.Return (some e) pos) (dRet d) := by
  obtain ⟨t, p, l⟩ := h
  exact ⟨_, ps_ret p, fun D' ρ μ h W σ H he r D hd => l ρ μ _ h W σ H he r _ hd.rt⟩
theorem pd_set {i : Nat} {x : Str} {pos' : Pos} (hN : X.N.Nodup) (h : PD X e d) (hi : X.N[i]? = some x := by rfl) (hx : Loc X.env.scope x := by exact Or.inl rfl) (hs : swapsWith e (some (.Name x pos')) pos.line X.env = pure false := by rfl)
    (hf : X.fn x = true ∨ X.env.scope.names.lookup x = some .local := by exact .inl rfl) : PDS X (.Assign [.Name x pos'] e pos) (dAsg d i) := by
  obtain ⟨t, p, l⟩ := h
  exact ⟨_, ps_set hN hi hx p hs hf, fun D' ρ μ h W σ H he r D hd => l ρ μ _ h W σ H he r _ fun v s W1 H1 μ1 le1 r1 hs q => hd.nx _ _ W1 H1 μ1 le1 r1 ((he.mono le1).set i hs) q⟩
theorem pd_if {c : Expr} {sa sb : List Stmt} (hc : PDT X c t) (ha : PDSs X sa a) (hb : PDSs X sb b) : PDS X (.If c sa sb pos) (dIfS t a b) := by
  obtain ⟨tc, p, l⟩ := hc
  obtain ⟨t1, p1, l1⟩ := ha
  obtain ⟨t2, p2, l2⟩ := hb
  refine ⟨_, ps_if p p1 p2, fun D' ρ μ h W σ H he r D hd => l ρ μ _ h W σ H he r _ fun k W1 H1 μ1 le1 r1 q => ?_⟩
  cases k with
  | true => exact l1 D' ρ μ1 q W1 σ H1 (he.mono le1) r1 D (hd.le le1)
  | false => exact l2 D' ρ μ1 q W1 σ H1 (he.mono le1) r1 D (hd.le le1)
theorem pd_par {i j : Nat} {x y : Str} {e1 e2 : Expr} {ar : DA} {px py pt : Pos} {kt k2 pt2} (hc : X.calm = true) (hN : X.N.Nodup) (ha : PDA X [e1, e2] ar) (hi : X.N[i]? = some x := by rfl) (hj : X.N[j]? = some y := by rfl) (hij : i ≠ j := by decide)
    (hx : X.env.scope.names.lookup x = some .local := by rfl) (hy : X.env.scope.names.lookup y = some .local := by rfl)
    (hw : swappedStores [.Tuple [.Name x px, .Name y py] kt pt] (.Tuple [e1, e2] k2 pt2) X.env = pure (some [x, y]) := by rfl)
    (hs : swapsWithSole [.Tuple [.Name x px, .Name y py] kt pt] (.Tuple [e1, e2] k2 pt2) pos.line X.env = pure false := by rfl) :
    PDS X (.Assign [.Tuple [.Name x px, .Name y py] kt pt] (.Tuple [e1, e2] k2 pt2) pos) (dPar i j ar) := by
  obtain ⟨t, p, l⟩ := ha
  refine ⟨_, ps_par hc hN hi hj hij hx hy p hw hs, fun D' ρ μ h W σ H he r D hd => l ρ μ _ h W σ H he r _ fun vs ss W1 H1 μ1 le1 r1 hss q => ?_⟩
  match ss, hss, q with
  | [s, t], hss, q =>
    obtain ⟨v, u, rfl, h1, h2⟩ := slAll2 hss
    exact ⟨v, u, rfl, hd.nx _ _ W1 H1 μ1 le1 r1 (((he.mono le1).set i h1).set j h2) q⟩
theorem pd_aug {i : Nat} {x : Str} {op : Operator} {pos' : Pos} {r : R2} {dr : DR2} (ho : OpR X (inplaceOp op) r) (hr : LR2 X.K r dr) (hN : X.N.Nodup) (h : PD X e d) (hi : X.N[i]? = some x := by rfl) (hx : Loc X.env.scope x := by exact Or.inl rfl)
    (hf : X.fn x = true ∨ X.env.scope.names.lookup x = some .local := by exact .inl rfl) : PDS X (.AugAssign (.Name x pos') op e pos) (dAug i dr d) := by
  obtain ⟨t, p, l⟩ := h
  refine ⟨_, ps_aug hN hi hx p ho hf, fun D' ρ μ h W σ H he rp D hd => ?_⟩
  replace h : dVar i ρ μ _ := h
  unfold dVar at h
  cases e1 : ρ[i]? with
  | none => rw [e1] at h; exact h.elim
  | some o =>
    rw [e1] at h
    cases o with
    | none => exact h.elim
    | some s =>
      obtain ⟨v, h1, h2⟩ := he.get i s e1
      exact ⟨v, h1, l ρ μ _ h W σ H he rp _ fun u y W1 H1 μ1 le1 r1 hy q => hr s y μ1 _ q W1 H1 v u r1 (h2.mono le1) hy _ fun w z W2 H2 μ2 le2 r2 hz q2 =>
        hd.nx _ _ W2 H2 μ2 (le1.trans le2) r2 ((he.mono (le1.trans le2)).set i hz) q2⟩
theorem iop_addV : OpR X (inplaceOp .Add) (fun x y H Q => rI0 (fun i j => .int (i + j)) x y H Q ∨ ∃ i j, x = .str i ∧ y = .str j ∧ i.length + j.length ≤ sizeLine ∧ Q (.str (i ++ j)) H) := iop_add.or iop_add_str
def rIadd : DR2 := fun x y μ Q => match rd μ x, rd μ y with
  | some (.int i), some (.int j) => Q (.dat (.int (i + j))) μ
  | some (.str i), some (.str j) => i.length + j.length ≤ sizeLine ∧ Q (.dat (.str (i ++ j))) μ
  | _, _ => False
theorem lr_iadd : LR2 K (fun x y H Q => rI0 (fun i j => .int (i + j)) x y H Q ∨ ∃ i j, x = .str i ∧ y = .str j ∧ i.length + j.length ≤ sizeLine ∧ Q (.str (i ++ j)) H) rIadd := fun x y μ Q' h W H vx vy r hx hy Q q => by
  unfold rIadd at h
  split at h
  · rename_i i j e1 e2
    cases rd_int r hx e1
    cases rd_int r hy e2
    exact .inl ⟨i, j, rfl, rfl, q.int r h⟩
  · rename_i i j e1 e2
    cases rd_str r hx e1
    cases rd_str r hy e2
    exact .inr ⟨i, j, rfl, rfl, h.1, q.str r h.2⟩
  · exact h.elim
theorem pd_augAdd {i : Nat} {x : Str} {pos' : Pos} (hN : X.N.Nodup) (h : PD X e d) (hi : X.N[i]? = some x := by rfl) (hx : Loc X.env.scope x := by exact Or.inl rfl)
    (hf : X.fn x = true ∨ X.env.scope.names.lookup x = some .local := by exact .inl rfl) : PDS X (.AugAssign (.Name x pos') .Add e pos) (dAug i rIadd d) := pd_aug iop_addV lr_iadd hN h hi hx hf
end
abbrev DG := Sl → Rho → Mu → (Rho → Mu → Prop) → Prop
abbrev DGs := List Sl → Rho → Mu → (Rho → Mu → Prop) → Prop
def LG (K : PySem.W.Frag) (g : TG) (d : DG) : Prop := ∀ s ρ μ Q', d s ρ μ Q' → ∀ W σ H v, EnvOk K W σ ρ → Rep K W H μ → SlOk K W v s → ∀ Q, NOk K W Q' Q → g v σ H Q
def LGs (K : PySem.W.Frag) (g : TGs) (d : DGs) : Prop := ∀ ss ρ μ Q', d ss ρ μ Q' → ∀ W σ H vs, EnvOk K W σ ρ → Rep K W H μ → SlAll K W vs ss → ∀ Q, NOk K W Q' Q → g vs σ H Q
structure PDG (X : Cx) (t : Expr) (d : DG) : Prop where
  ex : ∃ g, PG X t g ∧ LG X.K g d
structure PDGs (X : Cx) (ts : List Expr) (d : DGs) : Prop where
  ex : ∃ g, PGs X ts g ∧ LGs X.K g d
def gN (i : Nat) : DG := fun s ρ μ Q => Q (ρ.set i (some s)) μ
def gsNil : DGs := fun ss ρ μ Q => match ss with
  | [] => Q ρ μ
  | _ => False
def gsCons (g : DG) (gs : DGs) : DGs := fun ss ρ μ Q => match ss with
  | s :: r => g s ρ μ fun ρ1 μ1 => gs r ρ1 μ1 Q
  | [] => False
def gT (n : Nat) (gs : DGs) : DG := fun s ρ μ Q => match rd μ s with
  | some (.tuple ds) => ds.length = n ∧ gs (ds.map (elt s)) ρ μ Q
  | _ => False
def wrL (o i v : Sl) (μ : Mu) (Q : Mu → Prop) : Prop := match o, i, v with
  | .cell k, .dat (.int j), .dat d => match μ[k]? with
    | some (.lst ds) => ∃ m, ixN ds.length j = some m ∧ Q (μ.set k (.lst (ds.set m d)))
    | _ => False
  | _, _, _ => False
def gS (o i : DE) : DG := fun s ρ μ Q => o ρ μ fun x μ1 => i ρ μ1 fun y μ2 => wrL x y s μ2 fun μ3 => Q ρ μ3
def dAsgG (d : DE) (g : DG) : DS := fun D ρ μ => d ρ μ fun s μ1 => g s ρ μ1 D.nx
section
variable {X : Cx} {K : PySem.W.Frag} {pos : Pos} {e : Expr} {es : List Expr} {d : DE}
theorem its_sl {W : Wd} {s : Sl} : ∀ {xs : List V} {ds : List PyData}, DvAll K (bh W (isV s)) xs ds → SlAll K W xs (ds.map (elt s))
  | _, _, .nil => .nil
  | _, _, .cons a t => .cons (slOk_mk a) (its_sl t)
theorem pdg_name {i : Nat} {x : Str} (hN : X.N.Nodup) (hi : X.N[i]? = some x := by rfl) (hx : Loc X.env.scope x := by exact Or.inl rfl) (hf : X.fn x = true ∨ X.env.scope.names.lookup x = some .local := by first | exact .inl rfl | exact .inr rfl) : PDG X (.Name x pos) (gN i) :=
  ⟨_, pg_name hN hi hx hf, fun s ρ μ Q' h W σ H v he r hs Q q => q _ _ W H μ (Le.refl W) r (he.set i hs) h⟩
theorem pdgs_nil : PDGs X [] gsNil := ⟨_, pgs_nil, fun ss ρ μ Q' h W σ H vs he r hs Q q => by
  cases ss with
  | nil => cases hs; exact ⟨rfl, q _ _ W H μ (Le.refl W) r he h⟩
  | cons s r => exact False.elim h⟩
theorem pdgs_cons {g : DG} {gs : DGs} (h1 : PDG X e g) (h2 : PDGs X es gs) (hs : (assignEach (e :: es) X.env).map (·.2) = assign e X.env :: (assignEach es X.env).map (·.2) := by rfl) : PDGs X (e :: es) (gsCons g gs) := by
  obtain ⟨t1, p1, l1⟩ := h1
  obtain ⟨t2, p2, l2⟩ := h2
  refine ⟨_, pgs_cons p1 p2 hs, fun ss ρ μ Q' h W σ H vs he r hss Q q => ?_⟩
  cases hss with
  | nil => exact False.elim h
  | cons a t =>
    exact ⟨_, _, rfl, l1 _ ρ μ _ h W σ H _ he r a _ fun σ1 ρ1 W1 H1 μ1 le1 r1 he1 h1 => l2 _ ρ1 μ1 Q' h1 W1 σ1 H1 _ he1 r1 (SlAll.mono le1 t) Q (q.le le1)⟩
theorem pdg_tup {k n : Nat} {gs : DGs} (hc : X.calm = true) (h : PDGs X es gs) (hn : (assignEach es X.env).length = n := by rfl) (hst : (assignEach es X.env).findIdx? (·.1) = none := by rfl) : PDG X (.Tuple es k pos) (gT n gs) := by
  obtain ⟨t1, p1, l1⟩ := h
  refine ⟨_, pg_tup hc p1 hn hst, fun s ρ μ Q' h W σ H v he r hs Q q => ?_⟩
  unfold gT at h
  split at h
  · rename_i ds e1
    obtain ⟨a, xs, rfl, hx, hi⟩ := rd_tup r hs e1
    exact ⟨a, xs, rfl, hx, by rw [hi.length]; exact h.1, l1 _ ρ μ Q' h.2 W σ H xs he r (its_sl hi) Q q⟩
  · exact h.elim
theorem pdg_sub {o i : Expr} {od id : DE} (ho : PD X o od) (hi : PD X i id) (ha : ∀ v, assign (.Subscript o i pos) X.env v = (do
      let ov ← holding [v] (eval o X.env)
      let iv ← holding [v, ov] (eval i X.env)
      standAt pos
      holding [v, ov, iv] (setItem ov iv v)
      release [v, ov, iv] []) := by intro _; rfl) : PDG X (.Subscript o i pos) (gS od id) := by
  obtain ⟨t1, p1, l1⟩ := ho
  obtain ⟨t2, p2, l2⟩ := hi
  refine ⟨_, pg_sub p1 p2 set_list ha, fun s ρ μ Q' h W σ H v he r hs Q q => l1 ρ μ _ h W σ H he r _ fun ov o1 W1 H1 μ1 le1 r1 h1 q1 => l2 ρ μ1 _ q1 W1 σ H1 (he.mono le1) r1 _ fun iv i1 W2 H2 μ2 le2 r2 h2 q2 => ?_⟩
  replace q2 : wrL o1 i1 s μ2 (fun μ3 => Q' ρ μ3) := q2
  unfold wrL at q2
  split at q2
  · rename_i k j dd
    split at q2
    · rename_i ds e1
      obtain ⟨m, hm, hq⟩ := q2
      obtain ⟨a, ha, rfl⟩ := h1.mono le2
      obtain ⟨_, ob, hob, hc⟩ := r2.cell k a _ ha e1
      cases ob <;> first | exact False.elim hc | skip
      rename_i xs
      replace hc : DvAll X.K W2.G xs ds := hc
      cases (show Dv X.K W2.G iv (.int j) from h2)
      have hv : Dv X.K W2.G v dd := (hs.mono (le1.trans le2))
      refine ⟨a, xs, j, m, rfl, rfl, hob, by rw [hc.length]; exact hm, ?_⟩
      exact q _ _ W2 _ _ (le1.trans le2) (r2.write ha (show CellOk X.K W2.G (.lst (xs.set m v)) (.lst (ds.set m dd)) from hc.set m hv)) (he.mono (le1.trans le2)) hq
    · exact q2.elim
  · exact q2.elim
theorem pd_asgG {tg : Expr} {g : DG} (he : PD X e d) (hg : PDG X tg g) (hs : swapsWithSole [tg] e pos.line X.env = pure false := by rfl) (hw : swappedStores [tg] e X.env = pure none := by rfl)
    (h1 : (assignEach [tg] X.env).map (·.2) = [assign tg X.env] := by rfl) : PDS X (.Assign [tg] e pos) (dAsgG d g) := by
  obtain ⟨t1, p1, l1⟩ := he
  obtain ⟨t2, p2, l2⟩ := hg
  exact ⟨_, ps_asg p1 p2 hs hw h1, fun D' ρ μ h W σ H he r D hd => l1 ρ μ _ h W σ H he r _ fun v s W1 H1 μ1 le1 r1 hs q => l2 s ρ μ1 _ q W1 σ H1 v (he.mono le1) r1 hs _ (hd.nx.le le1)⟩
end
end DL
namespace DL
open PySem PySem.Spec PyProof.Rows L2 Evl
def whileD (c : DT) (b : DS) (D : DEnds) : Nat → Rho → Mu → Prop
  | 0, _, _ => False
  | n + 1, ρ, μ => c ρ μ fun t μ1 => if t = true then b { D with nx := whileD c b D n, ct := whileD c b D n, bk := D.nx } ρ μ1 else D.nx ρ μ1
def dWhile (c : DT) (b : DS) : DS := fun D ρ μ => ∃ n, whileD c b D n ρ μ
section
variable {X : Cx} {K : PySem.W.Frag} {pos : Pos}
theorem ls_while {tc : TT} {tb : TS} {c : DT} {b : DS} (hc : LT K tc c) (hb : LS K tb b) : LS K (tWhile tc tb) (dWhile c b) := fun D' ρ μ h W σ H he r D hd => by
  obtain ⟨n, h⟩ := h
  refine ⟨fun m σ' H' => ∃ ρ' μ' W', Le W W' ∧ EnvOk K W' σ' ρ' ∧ Rep K W' H' μ' ∧ whileD c b D' m ρ' μ', ⟨n, ρ, μ, W, Le.refl W, he, r, h⟩, fun m σ' H' hW => ?_⟩
  obtain ⟨ρ', μ', W', le, he', r', h'⟩ := hW
  cases m with
  | zero => exact h'.elim
  | succ m =>
    refine hc ρ' μ' _ h' W' σ' H' he' r' _ fun k W1 H1 μ1 le1 r1 q => ?_
    cases k with
    | true =>
      refine ⟨fun σ2 H2 => ∃ ρ2 μ2 W2, Le W W2 ∧ EnvOk K W2 σ2 ρ2 ∧ Rep K W2 H2 μ2 ∧ whileD c b D' m ρ2 μ2, fun σ2 H2 h2 => ⟨m, Nat.lt_succ_self m, h2⟩, ?_⟩
      have turn : NOk K W1 (whileD c b D' m) (fun σ2 H2 => ∃ ρ2 μ2 W2, Le W W2 ∧ EnvOk K W2 σ2 ρ2 ∧ Rep K W2 H2 μ2 ∧ whileD c b D' m ρ2 μ2) := fun σ2 ρ2 W2 H2 μ2 le2 r2 he2 q2 => ⟨ρ2, μ2, W2, (le.trans le1).trans le2, he2, r2, q2⟩
      have hd1 := hd.le (le.trans le1)
      exact hb _ ρ' μ1 q W1 σ' H1 (he'.mono le1) r1 _ ⟨turn, hd1.rt, hd1.nx, turn⟩
    | false => exact hd.nx σ' ρ' W1 H1 μ1 (le.trans le1) r1 (he'.mono le1) q
theorem pd_while {c : Expr} {body : List Stmt} {dc : DT} {b : DS} (hp : PassesOwn (model X.prog X.w) X.A X.env X.xe) (hc : PDT X c dc) (hb : PDSs X body b) : PDS X (.While c body [] pos) (dWhile dc b) := by
  obtain ⟨t1, p1, l1⟩ := hc
  obtain ⟨t2, p2, l2⟩ := hb
  exact ⟨_, ps_while hp p1 p2, ls_while l1 l2⟩
end
def ItOk (K : PySem.W.Frag) (W : Wd) (J : It) (ss : List Sl) (C : Mu → Prop) : Prop :=
  ∀ W2 H2 μ2, Le W W2 → Rep K W2 H2 μ2 → C μ2 → ∀ i : Nat,
    (ss.length ≤ i → J.stop i H2) ∧ (∀ s, ss[i]? = some s → J.go i H2 ∧ ∀ x H', J.yld i H2 x H' → ∃ W3, Le W2 W3 ∧ Rep K W3 H' μ2 ∧ SlOk K W3 x s)
theorem ItOk.le {K : PySem.W.Frag} {W W' : Wd} (l : Le W W') {J : It} {ss : List Sl} {C : Mu → Prop} (h : ItOk K W J ss C) : ItOk K W' J ss C := fun W2 H2 μ2 l2 => h W2 H2 μ2 (l.trans l2)
abbrev DI := Rho → Mu → (List Sl → (Mu → Prop) → Mu → Prop) → Prop
def LI (K : PySem.W.Frag) (t : TI) (d : DI) : Prop := ∀ ρ μ R', d ρ μ R' → ∀ W σ H, EnvOk K W σ ρ → Rep K W H μ → ∀ R : It → Hp → Prop,
  (∀ J ss C W' H' μ', Le W W' → Rep K W' H' μ' → ItOk K W' J ss C → R' ss C μ' → R J H') → t σ H R
structure PDI (X : Cx) (tg iter : Expr) (d : DI) : Prop where
  ex : ∃ t, PI X tg iter t ∧ LI X.K t d
def iSeq (d : DE) : DI := fun ρ μ R => d ρ μ fun x μ1 => match rd μ1 x with
  | some (.list ds) => R (ds.map (elt x)) (fun ν => rd ν x = some (.list ds)) μ1
  | some (.tuple ds) => R (ds.map (elt x)) (fun _ => True) μ1
  | _ => False
section
variable {X : Cx} {K : PySem.W.Frag} {tg l : Expr} {d : DE} {p pos : Pos}
theorem rd_tup_keep {W W' : Wd} {v : V} {μ μ' : Mu} {s : Sl} {ds : List PyData} (h : SlOk K W v s) (e : rd μ s = some (.tuple ds)) : rd μ' s = some (.tuple ds) := by
  cases s with
  | dat d' => exact e
  | vw d' => exact e
  | raw w => exact e
  | rtup w => exact e
  | cell k =>
    replace e : rdC μ[k]? = _ := e
    cases qq : μ[k]? with
    | none => rw [qq] at e; cases e
    | some c => rw [qq] at e; cases c <;> cases e
def iAny (K : PySem.W.Frag) (tl : TE) : TI := fun σ H R => tl σ H fun x H1 => ∃ a, x = .ref a ∧ (((∃ xs, SqL K H1 a xs) ∧ R (Itl K a) H1) ∨ ((∃ xs, SqT K H1 a xs) ∧ R (Itt K a) H1))
theorem pi_any {tl : TE} (hl : PE X l tl) : PI X tg l (iAny X.K tl) := by
  refine ⟨fun pins s σ H R I h => ?_⟩
  refine thn (hl.run pins s σ H _ I h) fun v s1 ⟨x, H1, I1, r1, q1⟩ => ?_
  obtain ⟨a, e, q1⟩ := q1
  subst e
  cases r1
  have old : s1.heap.objs.size ≤ s1.heap.objs.size := Nat.le_refl _
  rcases q1 with ⟨⟨xs, hq⟩, q⟩ | ⟨⟨xs, hq⟩, q⟩
  · obtain ⟨its, rv, p, hz⟩ := I1.list hq
    refine wpAny_pyIter_list p.isList ⟨s1.heap.objs.size, [s1.heap.objs.size], _, _, H1, rfl, I1.kept (t' := s1.toks) fun b o e => Heap.get?_push_of_some _ e, turn_list a _, ⟨_, Heap.get?_push_size _ rfl, rfl, rfl⟩, fun b hb => ?_, q⟩
    cases List.mem_singleton.mp hb
    exact I1.fpOk old (I1.hok.fresh old)
  · obtain ⟨its, rv, p, hz⟩ := I1.tuple hq
    refine wpAny_pyIter_tuple (show s1.heap.IsTuple a its.toArray from p) ⟨s1.heap.objs.size, [s1.heap.objs.size], _, _, H1, rfl, I1.kept (t' := s1.toks) fun b o e => Heap.get?_push_of_some _ e, turn_tuple a _, ⟨_, Heap.get?_push_size _ rfl, rfl, rfl⟩, fun b hb => ?_, q⟩
    cases List.mem_singleton.mp hb
    exact I1.fpOk old (I1.hok.fresh old)
theorem li_any {tl : TE} (h : LE K tl d) : LI K (iAny K tl) (iSeq d) := fun ρ μ R' hd W σ H he r R q => h ρ μ _ hd W σ H he r _ fun v x W1 H1 μ1 le1 r1 hs h1 => by
  replace h1 : (match rd μ1 x with | some (.list ds) => R' (ds.map (elt x)) (fun ν => rd ν x = some (.list ds)) μ1 | some (.tuple ds) => R' (ds.map (elt x)) (fun _ => True) μ1 | _ => False) := h1
  split at h1
  · rename_i ds e1
    obtain ⟨a, xs, rfl, hl, hi⟩ := rd_lst r1 hs e1
    refine ⟨a, rfl, .inl ⟨⟨xs, hl⟩, q _ _ _ W1 H1 μ1 le1 r1 (fun W2 H2 μ2 le2 r2 hC i => ?_) h1⟩⟩
    obtain ⟨a', ys, ea, hl2, hi2⟩ := rd_lst r2 (hs.mono le2) hC
    cases ea
    refine ⟨fun hle => ⟨ys, hl2, by rw [hi2.length]; simpa using hle⟩, fun s es => ?_⟩
    rw [List.getElem?_map] at es
    cases ed : ds[i]? with
    | none => rw [ed] at es; cases es
    | some dd =>
      rw [ed] at es
      cases es
      obtain ⟨w, hw, hok⟩ := hi2.get ed
      refine ⟨⟨ys, w, hl2, hw⟩, fun y H' hy => ?_⟩
      obtain ⟨rfl, fy⟩ := hy
      have := (fy _ hl2).symm.trans hw
      cases this
      exact ⟨W2, Le.refl W2, r2, hok⟩
  · rename_i ds e1
    obtain ⟨a, xs, rfl, hl, hi⟩ := rd_tup r1 hs e1
    refine ⟨a, rfl, .inr ⟨⟨xs, hl⟩, q _ _ _ W1 H1 μ1 le1 r1 (fun W2 H2 μ2 le2 r2 hC i => ?_) h1⟩⟩
    obtain ⟨a', ys, ea, hl2, hi2⟩ := rd_tup r2 (hs.mono le2) (rd_tup_keep (W' := W2) (μ' := μ2) hs e1)
    cases ea
    refine ⟨fun hle => ⟨ys, hl2, by rw [hi2.length]; simpa using hle⟩, fun s es => ?_⟩
    rw [List.getElem?_map] at es
    cases ed : ds[i]? with
    | none => rw [ed] at es; cases es
    | some dd =>
      rw [ed] at es
      cases es
      obtain ⟨w, hw, hok⟩ := hi2.get ed
      refine ⟨⟨ys, w, hl2, hw⟩, fun y H' hy => ?_⟩
      obtain ⟨rfl, fy⟩ := hy
      have := (fy _ hl2).symm.trans hw
      cases this
      exact ⟨W2, Le.refl W2, r2, hok⟩
  · exact h1.elim
theorem pdi_seq (h : PD X l d) : PDI X tg l (iSeq d) := by
  obtain ⟨t, p, lh⟩ := h
  exact ⟨_, pi_any p, li_any lh⟩
end
def forD (C : Mu → Prop) (g : DG) (b : DS) (D : DEnds) : List Sl → Rho → Mu → Prop
  | [], ρ, μ => C μ ∧ D.nx ρ μ
  | s :: ss, ρ, μ => C μ ∧ g s ρ μ fun ρ1 μ1 => b { D with nx := forD C g b D ss, ct := forD C g b D ss, bk := D.nx } ρ1 μ1
def dFor (i : DI) (g : DG) (b : DS) : DS := fun D ρ μ => i ρ μ fun ss C μ1 => forD C g b D ss ρ μ1
section
variable {X : Cx} {K : PySem.W.Frag} {pos : Pos}
theorem ls_for {ti : TI} {tg : TG} {tb : TS} {i : DI} {g : DG} {b : DS} (hi : LI K ti i) (hg : LG K tg g) (hb : LS K tb b) : LS K (tFor ti tg tb) (dFor i g b) := fun D' ρ μ h W σ H he r D hd =>
  hi ρ μ _ h W σ H he r _ fun J ss C W0 H0 μ0 le0 r0 hJ h0 => by
    refine ⟨fun j m σ' H' => ∃ ρ' μ' W', Le W0 W' ∧ EnvOk K W' σ' ρ' ∧ Rep K W' H' μ' ∧ j + m = ss.length ∧ forD C g b D' (ss.drop j) ρ' μ', ⟨ss.length, ρ, μ0, W0, Le.refl W0, he.mono le0, r0, Nat.zero_add _, h0⟩, fun j m σ' H' hW => ?_⟩
    obtain ⟨ρ', μ', W', le, he', r', em, h'⟩ := hW
    cases hs : ss.drop j with
    | nil =>
      rw [hs] at h'
      have hl : ss.length ≤ j := by
        have := congrArg List.length hs
        rw [List.length_drop] at this
        simp at this
        omega
      exact .inl ⟨(hJ W' H' μ' le r' h'.1 j).1 hl, hd.nx σ' ρ' W' H' μ' (le0.trans le) r' he' h'.2⟩
    | cons s rest =>
      rw [hs] at h'
      have hl : j < ss.length := by
        have := congrArg List.length hs
        rw [List.length_drop] at this
        simp at this
        omega
      have hget : ss[j]? = some s := by
        have := congrArg (fun l => l[0]?) hs
        simpa [List.getElem?_drop] using this
      have hrest : ss.drop (j + 1) = rest := by
        rw [← List.drop_drop, hs]
        rfl
      obtain ⟨hgo, hy⟩ := (hJ W' H' μ' le r' h'.1 j).2 s hget
      refine .inr ⟨hgo, fun σ2 H2 => ∃ ρ2 μ2 W2, Le W0 W2 ∧ EnvOk K W2 σ2 ρ2 ∧ Rep K W2 H2 μ2 ∧ forD C g b D' rest ρ2 μ2, fun σ2 H2 h2 => ?_, fun x H1 hx => ?_⟩
      · obtain ⟨ρ2, μ2, W2, a1, a2, a3, a4⟩ := h2
        exact ⟨m - 1, by omega, ρ2, μ2, W2, a1, a2, a3, by omega, by rw [hrest]; exact a4⟩
      · obtain ⟨W3, le3, r3, hs3⟩ := hy x H1 hx
        refine hg s ρ' μ' _ h'.2 W3 σ' H1 x (he'.mono le3) r3 hs3 _ fun σ4 ρ4 W4 H4 μ4 le4 r4 he4 q4 => ?_
        have turn : NOk K W4 (forD C g b D' rest) (fun σ2 H2 => ∃ ρ2 μ2 W2, Le W0 W2 ∧ EnvOk K W2 σ2 ρ2 ∧ Rep K W2 H2 μ2 ∧ forD C g b D' rest ρ2 μ2) := fun σ2 ρ2 W2 H2 μ2 le2 r2 he2 q2 => ⟨ρ2, μ2, W2, ((le.trans le3).trans le4).trans le2, he2, r2, q2⟩
        have hd1 := hd.le (((le0.trans le).trans le3).trans le4)
        exact hb _ ρ4 μ4 q4 W4 σ4 H4 he4 r4 _ ⟨turn, hd1.rt, hd1.nx, turn⟩
theorem pd_for {tg iter : Expr} {body : List Stmt} {i : DI} {g : DG} {b : DS} (hp : PassesOwn (model X.prog X.w) X.A X.env X.xe) (hc : X.calm = true) (hi : PDI X tg iter i) (hg : PDG X tg g) (hb : PDSs X body b)
    (hs : ∀ x, foldedSetIterable iter X.env x = pure x := by intro _; rfl) : PDS X (.For tg iter body [] pos) (dFor i g b) := by
  obtain ⟨t1, p1, l1⟩ := hi
  obtain ⟨t2, p2, l2⟩ := hg
  obtain ⟨t3, p3, l3⟩ := hb
  exact ⟨_, ps_for hp hc p1 p2 p3 hs, ls_for l1 l2 l3⟩
end
end DL
namespace DL
open PySem PySem.Spec PyProof.Rows L2 Evl
section
variable {K : PySem.W.Frag} {W : Wd} {H : Hp} {μ : Mu}
def Wd.cut (W : Wd) (n : Nat) : Wd := ⟨W.G, W.F, W.ad.take n⟩
def Wd.frz (W : Wd) (a : Addr) (o : HO) (n : Nat) : Wd := ⟨upd W.G a o, upd W.F a o, W.ad.take n⟩
theorem take_some {α : Type} {l : List α} {n k : Nat} {x : α} (h : (l.take n)[k]? = some x) : l[k]? = some x ∧ k < n := by
  have hk : k < (l.take n).length := (List.getElem?_eq_some_iff.mp h).1
  rw [List.length_take] at hk
  have hn : k < n := by omega
  rw [List.getElem?_take_of_lt hn] at h
  exact ⟨h, hn⟩
theorem Rep.cut (r : Rep K W H μ) (n : Nat) : Rep K (W.cut n) H (μ.take n) :=
  ⟨r.gf, r.fh, by show (W.ad.take n).length = _; rw [List.length_take, List.length_take, r.len], fun i j a hi hj => r.nd i j a (take_some hi).1 (take_some hj).1, fun k a c ha hc => r.cell k a c (take_some ha).1 (take_some hc).1, fun k P q h => by
    obtain ⟨h1, h2⟩ := take_some h
    show (W.ad.take n)[k]? = some P
    rw [List.getElem?_take_of_lt h2]
    exact r.tab k P q h1⟩
theorem Le.cut {W0 : Wd} (l : Le W0 W) {n : Nat} (hn : W0.ad.length ≤ n) : Le W0 (W.cut n) := ⟨l.g, l.f, l.n, fun k x h => by
  have hk : k < W0.ad.length := (List.getElem?_eq_some_iff.mp h).1
  show (W.ad.take n)[k]? = some x
  rw [List.getElem?_take_of_lt (by omega)]
  exact l.a k x h⟩
theorem Rep.frz (r : Rep K W H μ) {k : Nat} {a : Addr} {xs : List V} (ha : W.ad[k]? = some a) (hH : H a = some (.lst xs)) (n : Nat) (hn : n ≤ k) : Rep K (W.frz a (.lst xs) n) H (μ.take n) := by
  have hk : k < μ.length := by rw [← r.len]; exact (List.getElem?_eq_some_iff.mp ha).1
  obtain ⟨q1, _, _, _⟩ := r.cell k a _ ha (List.getElem?_eq_getElem hk)
  refine ⟨ex_upd r.gf, fun b o e => ?_, by show (W.ad.take n).length = _; rw [List.length_take, List.length_take, r.len], fun i j a hi hj => r.nd i j a (take_some hi).1 (take_some hj).1, fun j b c hb hc => ?_, fun j P q h => by
    obtain ⟨h1, h2⟩ := take_some h
    show (W.ad.take n)[j]? = some P
    rw [List.getElem?_take_of_lt h2]
    exact r.tab j P q h1⟩
  · by_cases q : b = a
    · subst q
      rw [show (W.frz b (.lst xs) n).F = upd W.F b (.lst xs) from rfl, upd_same] at e
      cases e
      exact hH
    · rw [show (W.frz a (.lst xs) n).F = upd W.F a (.lst xs) from rfl, upd_ne q] at e
      exact r.fh b o e
  · obtain ⟨hb1, hjn⟩ := take_some hb
    obtain ⟨z1, o, z2, z3⟩ := r.cell j b c hb1 (take_some hc).1
    have ne : b ≠ a := fun z => by
      subst z
      have := r.nd j k b hb1 ha
      omega
    refine ⟨?_, o, z2, z3.mono (Ex.new (fresh_back r.gf q1))⟩
    show upd W.F a (.lst xs) b = none
    rw [upd_ne ne]
    exact z1
theorem Le.frz {W0 : Wd} (l : Le W0 W) (r : Rep K W H μ) {k : Nat} {a : Addr} {xs : List V} (ha : W.ad[k]? = some a) {n : Nat} (hn : W0.ad.length ≤ n) (hF : W0.F a = none) : Le W0 (W.frz a (.lst xs) n) := by
  have hk : k < μ.length := by rw [← r.len]; exact (List.getElem?_eq_some_iff.mp ha).1
  obtain ⟨q1, _, _, _⟩ := r.cell k a _ ha (List.getElem?_eq_getElem hk)
  refine ⟨l.g.trans (Ex.new (fresh_back r.gf q1)), l.f.trans (Ex.new q1), fun b h1 h2 h3 => ?_, fun j x h => ?_⟩
  · show upd W.G a (.lst xs) b = none
    rw [upd_ne (show b ≠ a from fun z => h1 (z ▸ hF))]
    exact l.n b h1 h2 h3
  · have hj : j < W0.ad.length := (List.getElem?_eq_some_iff.mp h).1
    show (W.ad.take n)[j]? = some x
    rw [List.getElem?_take_of_lt (by omega)]
    exact l.a j x h
theorem fNone {W0 : Wd} (l : Le W0 W) (r : Rep K W H μ) {k : Nat} {a : Addr} (ha : W.ad[k]? = some a) : W0.F a = none := by
  have hk : k < μ.length := by rw [← r.len]; exact (List.getElem?_eq_some_iff.mp ha).1
  obtain ⟨q1, _, _, _⟩ := r.cell k a _ ha (List.getElem?_eq_getElem hk)
  exact fresh_back l.f q1
def frzQ (k : Nat) (Q : DQ) (μ : Mu) : Prop := match μ[k]? with
  | some (.lst ds) => Q (.dat (.list ds)) (μ.take k)
  | _ => False
theorem frz_ok {W0 : Wd} (l : Le W0 W) (r : Rep K W H μ) {k n : Nat} {a : Addr} {ds : List PyData} (ha : W.ad[k]? = some a) (hc : μ[k]? = some (.lst ds)) (hn : W0.ad.length ≤ n) (hk : n ≤ k) {Q' : DQ} {Q : VK} (q : VOk K W0 Q' Q) (h : Q' (.dat (.list ds)) (μ.take n)) : Q (.ref a) H := by
  obtain ⟨_, o, ho, hd⟩ := r.cell k a _ ha hc
  cases o <;> first | exact False.elim hd | skip
  rename_i xs
  replace hd : DvAll K W.G xs ds := hd
  refine q _ (.dat (.list ds)) (W.frz a (.lst xs) n) H _ (l.frz r ha hn (fNone l r ha)) (r.frz ha ho n hk) ?_ h
  exact .lst (.inl (.inl upd_same)) (hd.mono (Ex.new (fresh_back r.gf (r.cell k a _ ha hc).1)))
end
def wipeD (ρ : Rho) : List Nat → Rho
  | [] => ρ
  | v :: vs => (wipeD ρ vs).set v none
def addTo (k : Nat) (v : Sl) (μ : Mu) (Q : Mu → Prop) : Prop := match v, μ[k]? with
  | .dat d, some (.lst ds) => ds.length < sizeLine ∧ Q (μ.set k (.lst (ds ++ [d])))
  | _, _ => False
def lcD (C : Mu → Prop) (g : DG) (t : DT) (e : DE) (k : Nat) (Q : Mu → Prop) (ρ : Rho) : List Sl → Mu → Prop
  | [], μ => C μ ∧ Q μ
  | s :: ss, μ => C μ ∧ g s ρ μ fun ρ1 μ1 => t ρ1 μ1 fun b μ2 => if b = true then e ρ1 μ2 fun v μ3 => addTo k v μ3 (lcD C g t e k Q ρ ss) else lcD C g t e k Q ρ ss μ2
def dLcQ (F : Nat → DQ → Mu → Prop) (i : DI) (g : DG) (t : DT) (e : DE) (vs : List Nat) : DE := fun ρ μ Q => i ρ μ fun ss C μ1 => lcD C g t e μ1.length (F μ1.length Q) (wipeD ρ vs) ss (μ1 ++ [.lst []])
def dLc : DI → DG → DT → DE → List Nat → DE := dLcQ frzQ
def dYes : DT := fun _ μ Q => Q true μ
def teOf (K : PySem.W.Frag) (d : DE) : TE := fun σ H Q => ∃ W ρ μ Q', EnvOk K W σ ρ ∧ Rep K W H μ ∧ d ρ μ Q' ∧ VOk K W Q' Q
def ttOf (K : PySem.W.Frag) (d : DT) : TT := fun σ H Q => ∃ W ρ μ Q', EnvOk K W σ ρ ∧ Rep K W H μ ∧ d ρ μ Q' ∧ BOk K W Q' Q
theorem PD.of {X : Cx} {e : Expr} {d : DE} (h : PD X e d) : PE X e (teOf X.K d) := by
  obtain ⟨t, p, l⟩ := h
  exact ⟨fun pins s σ H Q I ⟨W, ρ, μ, Q', he, r, hd, q⟩ => p.run pins s σ H Q I (l ρ μ Q' hd W σ H he r Q q)⟩
theorem PDT.of {X : Cx} {e : Expr} {d : DT} (h : PDT X e d) : PT X e (ttOf X.K d) := by
  obtain ⟨t, p, l⟩ := h
  exact ⟨fun pins s σ H Q I ⟨W, ρ, μ, Q', he, r, hd, q⟩ => p.run pins s σ H Q I (l ρ μ Q' hd W σ H he r Q q)⟩
theorem le_of (K : PySem.W.Frag) (d : DE) : LE K (teOf K d) d := fun ρ μ Q' h W σ H he r Q q => ⟨W, ρ, μ, Q', he, r, h, q⟩
theorem lt_of (K : PySem.W.Frag) (d : DT) : LT K (ttOf K d) d := fun ρ μ Q' h W σ H he r Q q => ⟨W, ρ, μ, Q', he, r, h, q⟩
def Keeps (g : TG) (vs : List Nat) : Prop := ∀ v σ H Q Q2 σ0, wipe σ vs = wipe σ0 vs → (∀ σ2 H2, wipe σ2 vs = wipe σ0 vs → Q σ2 H2 → Q2 σ2 H2) → g v σ H Q → g v σ H Q2
def KeepsS (g : TGs) (vs : List Nat) : Prop := ∀ v σ H Q Q2 σ0, wipe σ vs = wipe σ0 vs → (∀ σ2 H2, wipe σ2 vs = wipe σ0 vs → Q σ2 H2 → Q2 σ2 H2) → g v σ H Q → g v σ H Q2
theorem wipe_set {j : Nat} {x : Option V} : ∀ {vs : List Nat} {σ : L2.St}, j ∈ vs → wipe (σ.set j x) vs = wipe σ vs
  | v :: vs, σ, h => by
    by_cases e : j ∈ vs
    · show (wipe (σ.set j x) vs).set v none = (wipe σ vs).set v none
      rw [wipe_set e]
    · have ej : j = v := by
        rcases List.mem_cons.mp h with h | h
        · exact h
        · exact absurd h e
      subst ej
      have out : ∀ (us : List Nat) (τ : L2.St), j ∉ us → wipe (τ.set j x) us = (wipe τ us).set j x := fun us => by
        induction us with
        | nil => intro τ _; rfl
        | cons u us ih =>
          intro τ hu
          have h1 : j ≠ u := fun z => hu (z ▸ List.mem_cons_self)
          show (wipe (τ.set j x) us).set u none = ((wipe τ us).set u none).set j x
          rw [ih τ (fun z => hu (List.mem_cons_of_mem _ z)), List.set_comm _ _ h1]
      show (wipe (σ.set j x) vs).set j none = (wipe σ vs).set j none
      rw [out vs σ e, List.set_set]
theorem keeps_name {j : Nat} {vs : List Nat} (h : j ∈ vs) : Keeps (gName j) vs := fun v σ H Q Q2 σ0 e f q => f _ _ ((wipe_set h).trans e) q
theorem wipe_wipe (σ : L2.St) (vs : List Nat) : wipe (wipe σ vs) vs = wipe σ vs := by
  have key : ∀ (us : List Nat) (τ : L2.St), (∀ u ∈ us, u ∈ vs) → wipe (wipe τ us) vs = wipe τ vs := fun us => by
    induction us with
    | nil => intro τ _; rfl
    | cons u us ih =>
      intro τ h
      show wipe ((wipe τ us).set u none) vs = _
      rw [wipe_set (h u List.mem_cons_self), ih τ (fun z hz => h z (List.mem_cons_of_mem _ hz))]
  exact key vs σ (fun _ h => h)
section
variable {X : Cx} {K : PySem.W.Frag}
theorem env_wipe {W : Wd} {σ : L2.St} {ρ : Rho} (h : EnvOk K W σ ρ) : ∀ vs : List Nat, EnvOk K W (wipe σ vs) (wipeD ρ vs)
  | [] => h
  | v :: vs => by
    have ih := env_wipe h vs
    refine ⟨by show ((wipe σ vs).set v none).length = ((wipeD ρ vs).set v none).length; rw [List.length_set, List.length_set, ih.len], fun i s e => ?_⟩
    replace e : ((wipeD ρ vs).set v none)[i]? = _ := e
    show ∃ u, ((wipe σ vs).set v none)[i]? = _ ∧ _
    by_cases q : v = i
    · subst q
      have hl : v < (wipeD ρ vs).length := by
        have := (List.getElem?_eq_some_iff.mp e).1
        simpa using this
      rw [List.getElem?_set_self hl] at e
      cases e
    · rw [List.getElem?_set_ne q] at e
      rw [List.getElem?_set_ne q]
      exact ih.get i s e
structure CTg (X : Cx) (scope : Scope) (t : Expr) (vs : List Nat) (d : DG) : Prop where
  ex : ∃ g, (∀ (s : Shared) (H : Hp) (C : Addr) (cl : List (Str × Addr)) (fp : List Addr), PG (X.blk s H scope (compEnvC scope cl C X.env) fp) t g) ∧ LG X.K g d ∧ Keeps g vs
structure CTgs (X : Cx) (scope : Scope) (ts : List Expr) (vs : List Nat) (d : DGs) : Prop where
  ex : ∃ g, (∀ (s : Shared) (H : Hp) (C : Addr) (cl : List (Str × Addr)) (fp : List Addr), PGs (X.blk s H scope (compEnvC scope cl C X.env) fp) ts g) ∧ LGs X.K g d ∧ KeepsS g vs
structure CTst (X : Cx) (scope : Scope) (ifs : List Expr) (d : DT) : Prop where
  ex : ∃ t, (∀ (s : Shared) (H : Hp) (C : Addr) (cl : List (Str × Addr)) (fp : List Addr), PTs (X.blk s H scope (compEnvC scope cl C X.env) fp) ifs t) ∧ LT X.K t d
theorem ctst_nil {scope : Scope} : CTst X scope [] dYes := ⟨tYes, fun _ _ _ _ _ => pts_nil, fun ρ μ Q' h W σ H he r Q q => q true W H μ (Le.refl W) r h⟩
theorem ctst_one {scope : Scope} {c : Expr} {d : DT} (h : ∀ (s : Shared) (H : Hp) (C : Addr) (cl : List (Str × Addr)) (fp : List Addr), PDT (X.blk s H scope (compEnvC scope cl C X.env) fp) c d) : CTst X scope [c] d :=
  ⟨ttOf X.K d, fun s H C cl fp => pts_one (h s H C cl fp).of, lt_of X.K d⟩
theorem ctg_name {scope : Scope} {x : Str} {pos : Pos} {vs : List Nat} (j : Nat) (hj : j ∈ vs) (h : ∀ (s : Shared) (H : Hp) (C : Addr) (cl : List (Str × Addr)) (fp : List Addr), PG (X.blk s H scope (compEnvC scope cl C X.env) fp) (.Name x pos) (gName j)) : CTg X scope (.Name x pos) vs (gN j) :=
  ⟨_, h, fun s ρ μ Q' h W σ H v he r hs Q q => q _ _ W H μ (Le.refl W) r (he.set j hs) h, keeps_name hj⟩
def FinOk (K : PySem.W.Frag) (F : Nat → DQ → Mu → Prop) : Prop := ∀ (W0 W : Wd) (H : Hp) (μ : Mu) (k : Nat) (a : Addr) (Q' : DQ) (Q : VK), Le W0 W → Rep K W H μ → W0.ad.length = k → W.ad[k]? = some a → VOk K W0 Q' Q → F k Q' μ → Q (.ref a) H
theorem fin_frz : FinOk K frzQ := fun W0 W H μ k a Q' Q l r hk ha q h => by
  unfold frzQ at h
  split at h
  · rename_i ds e
    exact frz_ok l r ha e (Nat.le_of_eq hk) (Nat.le_refl k) q h
  · exact h.elim
theorem le_lc {ti : TI} {tg : TG} {i : DI} {g : DG} {tt : TT} {t : DT} {te : TE} {e : DE} {vs : List Nat} {F : Nat → DQ → Mu → Prop} (hi : LI K ti i) (hg : LG K tg g) (hk : Keeps tg vs) (ht : LT K tt t) (hte : LE K te e) (hF : FinOk K F) :
    LE K (tLc ti tg tt te vs) (dLcQ F i g t e vs) := fun ρ μ Q' hd W σ H he r Q q =>
  hi ρ μ _ hd W σ H he r _ fun J ss C W0 H0 μ0 le0 r0 hJ h0 D hD => by
    have r1 := r0.cellNew (o := .lst []) (c := .lst []) hD (show CellOk K W0.G (.lst []) (.lst []) from .nil)
    have lc := Le.cellNew W0 D
    have hDk : (W0.cellNew D).ad[μ0.length]? = some D := by
      show (W0.ad ++ [D])[μ0.length]? = some D
      rw [List.getElem?_append_right (by rw [r0.len]; exact Nat.le_refl _), r0.len, Nat.sub_self]
      rfl
    have ew : EnvOk K W0 (wipe σ vs) (wipeD ρ vs) := env_wipe (he.mono le0) vs
    refine ⟨fun j m H' => ∃ μ' W', Le (W0.cellNew D) W' ∧ Rep K W' H' μ' ∧ j + m = ss.length ∧ lcD C g t e μ0.length (F μ0.length Q') (wipeD ρ vs) (ss.drop j) μ', ⟨ss.length, _, _, Le.refl _, r1, Nat.zero_add _, h0⟩, fun j m H' hW => ?_⟩
    obtain ⟨μ', W', le, r', em, h'⟩ := hW
    cases hs : ss.drop j with
    | nil =>
      rw [hs] at h'
      have hl : ss.length ≤ j := by
        have := congrArg List.length hs
        rw [List.length_drop] at this
        simp at this
        omega
      exact .inl ⟨(hJ W' H' μ' (lc.trans le) r' h'.1 j).1 hl, hF W0 W' H' μ' _ D Q' Q (lc.trans le) r' r0.len (le.a _ _ hDk) (q.le le0) h'.2⟩
    | cons s rest =>
      rw [hs] at h'
      have hl : j < ss.length := by
        have := congrArg List.length hs
        rw [List.length_drop] at this
        simp at this
        omega
      have hget : ss[j]? = some s := by
        have := congrArg (fun l => l[0]?) hs
        simpa [List.getElem?_drop] using this
      have hrest : ss.drop (j + 1) = rest := by
        rw [← List.drop_drop, hs]
        rfl
      obtain ⟨hgo, hy⟩ := (hJ W' H' μ' (lc.trans le) r' h'.1 j).2 s hget
      refine .inr ⟨hgo, fun H2 => ∃ μ2 W2, Le (W0.cellNew D) W2 ∧ Rep K W2 H2 μ2 ∧ lcD C g t e μ0.length (F μ0.length Q') (wipeD ρ vs) rest μ2, fun H2 h2 => ?_, fun x H1 hx => ?_⟩
      · obtain ⟨μ2, W2, a1, a2, a3⟩ := h2
        exact ⟨m - 1, by omega, μ2, W2, a1, a2, by omega, by rw [hrest]; exact a3⟩
      · obtain ⟨W3, le3, r3, hs3⟩ := hy x H1 hx
        have l3 := le.trans le3
        refine hk x (wipe σ vs) H1 _ _ σ (wipe_wipe σ vs) (fun σ2 H2 e2 q2 => ⟨e2, q2⟩) (hg s _ μ' _ h'.2 W3 (wipe σ vs) H1 x (ew.mono (lc.trans l3)) r3 hs3 _ fun σ4 ρ4 W4 H4 μ4 le4 r4 he4 q4 => ?_)
        refine ht ρ4 μ4 _ q4 W4 σ4 H4 he4 r4 _ fun b W5 H5 μ5 le5 r5 q5 => ?_
        cases b with
        | false => exact ⟨μ5, W5, (l3.trans le4).trans le5, r5, q5⟩
        | true =>
          refine hte ρ4 μ5 _ q5 W5 σ4 H5 (he4.mono le5) r5 _ fun y v W6 H6 μ6 le6 r6 hv q6 => ?_
          have l6 := ((l3.trans le4).trans le5).trans le6
          replace q6 : addTo μ0.length v μ6 _ := q6
          unfold addTo at q6
          split at q6
          · rename_i d ds ec
            have hD6 := l6.a _ _ hDk
            obtain ⟨_, o, ho, hc⟩ := r6.cell _ D _ hD6 ec
            cases o <;> first | exact False.elim hc | skip
            rename_i acc
            replace hc : DvAll K W6.G acc ds := hc
            refine ⟨acc, ho, by rw [hc.length]; exact q6.1, _, W6, l6, r6.write hD6 (show CellOk K W6.G (.lst (acc ++ [y])) (.lst (ds ++ [d])) from hc.app (.cons hv .nil)), q6.2⟩
          · exact q6.elim
variable {elt tg iter : Expr} {ifs : List Expr} {scope : Scope} {own : List (Str × Nat)} {pos : Pos} {i : DI} {g : DG} {t : DT} {e : DE}
theorem pd_lcQ {F : Nat → DQ → Mu → Prop} (hF : FinOk X.K F) (own : List (Str × Nat)) (hc : X.calm = true) (hN : X.N.Nodup) (hi : PDI X tg iter i) (ok : BlkOk X.N X.env.scope scope own) (hg : CTg X scope tg (own.map (·.2)) g) (ht : CTst X scope ifs t)
    (he : ∀ (s : Shared) (H : Hp) (C : Addr) (cl : List (Str × Addr)) (fp : List Addr), PD (X.blk s H scope (compEnvC scope cl C X.env) fp) elt e) (hs : ∀ x, foldedSetIterable iter X.env x = pure x := by intro _; rfl) :
    PD X (.ListComp elt [⟨tg, iter, ifs, 0⟩] scope pos) (dLcQ F i g t e (own.map (·.2))) := by
  obtain ⟨t1, p1, l1⟩ := hi
  obtain ⟨t2, p2, l2, k2⟩ := hg
  obtain ⟨t3, p3, l3⟩ := ht
  exact ⟨_, pe_lc hc hN p1 ok p2 p3 (fun s H C cl fp => (he s H C cl fp).of) hs, le_lc l1 l2 k2 l3 (le_of X.K e) hF⟩
end
end DL
namespace DL
open PySem PySem.Spec PyProof.Rows L2 Evl
def zipS (x y : Sl) : List PyData → List PyData → List Sl
  | d :: ds, e :: es => mk (isV x || isV y) (.tuple [d, e]) :: zipS x y ds es
  | _, _ => []
def iZp (a : DA) : DI := fun ρ μ R => a ρ μ fun ss μ1 => match ss with
  | [x, y] => match rd μ1 x, rd μ1 y with
    | some (.list ds), some (.list es) => R (zipS x y ds es) (fun ν => rd ν x = some (.list ds) ∧ rd ν y = some (.list es)) μ1
    | some (.tuple ds), some (.tuple es) => R (zipS x y ds es) (fun _ => True) μ1
    | _, _ => False
  | _ => False
section
variable {X : Cx} {K : PySem.W.Frag} {p pos : Pos}
abbrev DM := Sl → List Sl → Mu → DQ → Prop
theorem tyV_cell {W : Wd} {H : Hp} {μ : Mu} {v : V} {k : Nat} {ds : List PyData} (r : Rep K W H μ) (h : SlOk K W v (.cell k)) (e : μ[k]? = some (.lst ds)) : ∃ a xs, v = .ref a ∧ W.ad[k]? = some a ∧ H a = some (.lst xs) ∧ DvAll K W.G xs ds := by
  obtain ⟨a, ha, rfl⟩ := h
  obtain ⟨_, o, ho, hc⟩ := r.cell k a _ ha e
  cases o <;> first | exact False.elim hc | skip
  exact ⟨a, _, rfl, ha, ho, hc⟩
def dMtL (m : DM) (o : DE) (a : DA) : DE := fun ρ μ Q => o ρ μ fun x μ1 => (∃ ds, rd μ1 x = some (.list ds)) ∧ a ρ μ1 fun ss μ2 => m x ss μ2 Q
end
end DL
namespace DL
open PySem PySem.Spec PyProof.Rows L2 Evl
structure RoomG (k : Nat) (A : Around) : Prop where
  r : Room k A
  g : A.guards = some []
theorem RoomG.mono {j k : Nat} {A : Around} (h : RoomG k A) (hj : j ≤ k) : RoomG j A := ⟨h.r.mono hj, h.g⟩
theorem RoomG.deeper {k : Nat} {A : Around} (h : RoomG (k + 1) A) (env : Env) : RoomG k (A.deeper env) := ⟨h.r.deeper env, h.g⟩
structure FnG (P : Program) (w : World) (K : PySem.W.Frag) (mg : Str → Option Value) (base : Heap) (CX : CXT) (k : Nat) (f : Addr) (fd : FuncData) (ps : List Str) (sp : Sp) : Prop where
  len : ∀ vs H Q E, sp vs H Q E → vs.length = ps.length
  run : ∀ (A : Around) (outer : List Env) (s : Shared) (H : Hp) (args : Args) (us : List Value) (vs : List V) (Q : VK) (E : XK), RoomG k A → Env0 P w K mg base A outer s H →
    BindsTo s fd args (ps.zip us) → Vals vs us → sp vs H Q E → codeAny (model P w) A (.call (.ref f) args) (CR CX outer P w H s Q E) s
section
variable {CX : CXT} {P : Program} {w : World} {K : PySem.W.Frag} {mg : Str → Option Value} {base : Heap} {k : Nat} {f : Addr} {ps : List Str} {sp : Sp}
theorem fnG_of {x qual : Str} {st : Stmt} {fd : FuncData} {N : List Str} (F : Fun K x qual st f fd) (S : FnScope N ps (defScope st)) (len : ∀ vs H Q E, sp vs H Q E → vs.length = ps.length)
    (body : ∀ (cdv : Value) (A : Around) (outer : List Env) (s : Shared) (H : Hp) (vs : List V) (Q : VK) (E : XK), RoomG k (A.deeper (envOfC qual (defScope st) s.heap.objs.size f cdv)) → sp vs H Q E →
      ∃ t, PSs (cxOf CX P w K mg base N qual (defScope st) f cdv A outer s H E) (defBody st) t ∧ t { nx := fun _ H' => Q .non H', rt := Q } (L2.start N vs) H) : FnG P w K mg base CX (k + 1) f fd ps sp := by
  obtain ⟨oc, od, kV, doc, pm, an, cdv, ct, osl, rfl, lk, hcd⟩ := F.ex
  refine ⟨len, fun A outer s H args us vs Q E room e0 bind rel hsp => ?_⟩
  have keep : ∀ b o, base.get? b = some o → s.heap.get? b = some o := fun b o e => (e0.bs b o e).1
  have par : ∀ y ∈ ps.zip us, (defScope st).names.lookup y.1 = some .local ∨ ((defScope st).names.lookup y.1 = some .cell ∧ ((cellsFrom (s.heap.objs.size + 1) (defScope st).names []).lookup y.1).isSome = true) := by
    rintro ⟨n, v⟩ hy
    cases S.par n (List.of_mem_zip hy).1 with
    | inl q => exact .inl q
    | inr q => exact .inr ⟨q, PySem.W.cellsFrom_some _ _ _ (.inl q)⟩
  refine codeAny_call_function room.r.depth (e0.mod.kin.keeps keep _ _ lk) rfl S.co S.gen rfl (PySem.W.codeRec_of (e0.mod.kin.keeps keep) hcd) (bind _ _ _ _ ?_)
  refine wpAny_newFunctionEnv_cells S.kind par fun env he s1 x => ?_
  subst he
  refine ⟨(e0.mod.nolimit.keeps keep).keeps x.toInCall.keep, codeAny_func ?_⟩
  obtain ⟨t, ht, hq⟩ := body cdv A outer s H vs Q E (room.deeper _) hsp
  have I := inv_start (CX := CX) (E := E) (f := f) (qual := qual) (cd := cdv) S room.r.hd e0 (len _ _ _ _ hsp) rel x
  refine wpAny_mono (ht.run [] s1 _ H _ I hq) (fun fl s' hs => ?_) (fun _ _ z => z)
  cases fl with
  | ret u =>
    obtain ⟨v, σ', H', J, rv, q⟩ := hs
    exact ⟨v, H', J.os, J.bare, J.base, J.hok, rv, q⟩
  | next =>
    obtain ⟨σ', H', J, q⟩ := hs
    exact ⟨.non, H', J.os, J.bare, J.base, J.hok, rfl, q⟩
  | brk => exact hs.elim fun _ z => z.elim fun _ z => False.elim z.2
  | cont => exact hs.elim fun _ z => z.elim fun _ z => False.elim z.2
end
section
variable {X : Cx} {CX : CXT} {k : Nat} {f : Addr} {fd : FuncData} {ps ks : List Str} {sp : Sp} {E : XK} {x : Str} {p pos : Pos} {e : Expr} {es : List Expr} {t : TA}
theorem runG {pins : List (Addr × Obj)} {σ : L2.St} {H : Hp} {s : Shared} {Q : VK} {args : Args} {us : List Value} {vs : List V} (F : FnG X.prog X.w X.K X.mg X.base CX k f fd ps sp) (hr : RoomG k X.A) (hx : Passes CX X E)
    (I : L2.Inv X pins σ H s) (r : Vals vs us) (hb : BindsTo s fd args (ps.zip us)) (h : sp vs H Q E) : wpAny (model X.prog X.w) X.A (call (.ref f) args.pos args.kw) (EP X pins σ Q) X.xe s := by
  refine wpAny_call (codeAny_mono (F.run X.A X.stack s H args us vs Q E hr I.env0 hb r h) fun r s' hq => ?_)
  cases r with
  | error e => exact hx pins σ H s e s' I hq
  | ok fl => cases fl <;> first | exact I.after hq | exact False.elim hq
theorem pe_callG (F : FnG X.prog X.w X.K X.mg X.base CX k f fd ps sp) (hr : RoomG k X.A) (hg : Gl X x) (hm : X.mg x = some (.ref f)) (hk : PySem.W.keepIn X.K (.ref f) = true) (hb : Binds X.K fd ps []) (hx : Passes CX X E)
    (ha : PA X (e :: es) t) (hdb : (x == ("__debug__" : Str)) = false) (he : starEach (e :: es) X.env = (false, eval e X.env) :: starEach es X.env) (hpl : (backTo pos (starEach es X.env)).any (·.1) = false) :
    PE X (.Call (.Name x p) (e :: es) [] pos) (fun σ H Q => t σ H fun vs H1 => sp vs H1 Q E) := by
  refine ⟨fun pins s σ H Q I h => wpAny_Call_Name_kw (ld_glob I hg hm ?_ hdb)⟩
  refine PySem.W.callWith_K (h₀ := X.base) I.ok.mod.kin hk (thn (ha.run pos pins s σ H _ I h) fun us s1 z => ?_) he hpl
  obtain ⟨vs, H1, I1, r, q⟩ := z
  have hl : us.length = ps.length := by rw [← r.length]; exact F.len _ _ _ _ q
  have b := hb s1 us I1.kIn (by rw [List.append_nil]; exact hl)
  rw [List.append_nil] at b
  exact ⟨I1.kIn, runG (args := ⟨us, []⟩) F hr hx I1 r b q⟩
theorem pe_callG0 (F : FnG X.prog X.w X.K X.mg X.base CX k f fd ps sp) (hr : RoomG k X.A) (hg : Gl X x) (hm : X.mg x = some (.ref f)) (hk : PySem.W.keepIn X.K (.ref f) = true) (hb : Binds X.K fd ps []) (hx : Passes CX X E)
    (hdb : (x == ("__debug__" : Str)) = false) : PE X (.Call (.Name x p) [] [] pos) (fun _ H Q => sp [] H Q E) := by
  refine ⟨fun pins s σ H Q I h => wpAny_Call_Name_kw (ld_glob I hg hm ?_ hdb)⟩
  have hl : ([] : List Value).length = ps.length := F.len _ _ _ _ h
  exact PySem.W.callWith_K0 I.kIn hk (runG (args := ⟨[], []⟩) F hr hx I .nil (hb s [] I.kIn hl) h)
variable {kws : List Keyword} {tk : TA} {g : List Value → List Value → List Value} {gV : List V → List V → List V}
end
end DL
namespace DL
open PySem PySem.Spec PyProof.Rows L2 Evl
abbrev DF := List Sl → Mu → DQ → Prop
def SpD (K : PySem.W.Frag) (n : Nat) (φ : DF) : Sp := fun vs H Q _ => ∃ W ss μ Q', vs.length = n ∧ SlAll K W vs ss ∧ Rep K W H μ ∧ φ ss μ Q' ∧ VOk K W Q' Q
def finQ (n : Nat) (Q' : DQ) : DQ := fun s μ' => match s with
  | .cell k => if k < n then Q' (.cell k) (μ'.take n) else match μ'[k]? with
    | some (.lst ds) => Q' (.dat (.list ds)) (μ'.take n) ∨ Q' (.cell n) (μ'.take n ++ [.lst ds])
    | some (.dct ds) => Q' (.cell n) (μ'.take n ++ [.dct ds])
    | some (.dctT ds) => Q' (.cell n) (μ'.take n ++ [.dctT ds])
    | _ => False
  | .dat d => Q' (.dat d) (μ'.take n)
  | .vw d => Q' (.vw d) (μ'.take n)
  | .raw _ => False
  | .rtup _ => False
def startD (N : List Str) (ss : List Sl) : Rho := ss.map some ++ List.replicate (N.length - ss.length) none
section
variable {K : PySem.W.Frag}
theorem at_pull {α : Type} {l : List α} {a x : α} {n i : Nat} (hn : n ≤ l.length) (h : (l.take n ++ [a])[i]? = some x) : (i < n ∧ l[i]? = some x) ∨ (i = n ∧ x = a) := by
  have hl : (l.take n).length = n := by rw [List.length_take]; omega
  by_cases hi : i < n
  · rw [List.getElem?_append_left (by omega)] at h
    exact .inl ⟨hi, (take_some h).1⟩
  · rw [List.getElem?_append_right (by omega), hl] at h
    cases q : i - n with
    | zero =>
      rw [q] at h
      exact .inr ⟨by omega, (Option.some.inj h).symm⟩
    | succ j => rw [q] at h; simp at h
theorem pull_ok {W0 W : Wd} {H : Hp} {μ : Mu} (l : Le W0 W) (r : Rep K W H μ) {k : Nat} {a : Addr} {c : Cell} (ha : W.ad[k]? = some a) (hc : μ[k]? = some c) (hk : W0.ad.length ≤ k) {Q' : DQ} {Q : VK} (q : VOk K W0 Q' Q) (h : Q' (.cell W0.ad.length) (μ.take W0.ad.length ++ [c])) : Q (.ref a) H := by
  have h1 : k < W.ad.length := (List.getElem?_eq_some_iff.mp ha).1
  have h2 : k < μ.length := (List.getElem?_eq_some_iff.mp hc).1
  have l1 : (W.ad.take W0.ad.length).length = W0.ad.length := by rw [List.length_take]; omega
  refine q _ (.cell W0.ad.length) ⟨W.G, W.F, W.ad.take W0.ad.length ++ [a]⟩ H _ ⟨l.g, l.f, l.n, fun j x e => ?_⟩ ⟨r.gf, r.fh, ?_, fun i j b hi hj => ?_, fun i b d hi hd => ?_, fun j P q hj => by
    rcases at_pull (by omega) hj with ⟨q1, q2⟩ | ⟨q1, q2⟩
    · show (W.ad.take W0.ad.length ++ [a])[j]? = some P
      rw [List.getElem?_append_left (by omega), List.getElem?_take_of_lt q1]
      exact r.tab j P q q2
    · have z := r.tab k P q (by rw [hc, q2])
      rw [ha] at z
      cases z
      show (W.ad.take W0.ad.length ++ [a])[j]? = some a
      rw [List.getElem?_append_right (by omega), l1, q1, Nat.sub_self]
      rfl⟩ ⟨a, ?_, rfl⟩ h
  · have hj : j < W0.ad.length := (List.getElem?_eq_some_iff.mp e).1
    show (W.ad.take W0.ad.length ++ [a])[j]? = some x
    rw [List.getElem?_append_left (by omega), List.getElem?_take_of_lt hj]
    exact l.a j x e
  · show (W.ad.take W0.ad.length ++ [a]).length = _
    rw [List.length_append, List.length_append, List.length_take, List.length_take, r.len]
    rfl
  · rcases at_pull (by omega) hi with ⟨q1, q2⟩ | ⟨q1, q2⟩ <;> rcases at_pull (by omega) hj with ⟨q3, q4⟩ | ⟨q3, q4⟩
    · exact r.nd i j b q2 q4
    · subst q4
      have := r.nd i k b q2 ha
      omega
    · subst q2
      have := r.nd j k b q4 ha
      omega
    · omega
  · rcases at_pull (by omega) hi with ⟨q1, q2⟩ | ⟨q1, q2⟩ <;> rcases at_pull (by omega) hd with ⟨q3, q4⟩ | ⟨q3, q4⟩
    · exact r.cell i b d q2 q4
    · omega
    · omega
    · subst q2
      subst q4
      exact r.cell k b d ha hc
  · show (W.ad.take W0.ad.length ++ [a])[W0.ad.length]? = some a
    rw [List.getElem?_append_right (by omega), l1, Nat.sub_self]
    rfl
theorem finQ_ok {W : Wd} {Q' : DQ} {Q : VK} (q : VOk K W Q' Q) : VOk K W (finQ W.ad.length Q') Q := fun v s W1 H1 μ1 l r hs h => by
  have lc := l.cut (n := W.ad.length) (Nat.le_refl _)
  have rc := r.cut W.ad.length
  cases s with
  | dat d => exact q v (.dat d) _ H1 _ lc rc (show Dv K W1.G v d from hs) h
  | vw d => exact q v (.vw d) _ H1 _ lc rc (show Dv K W1.F v d from hs) h
  | raw w => exact False.elim h
  | rtup w => exact False.elim h
  | cell k =>
    replace h : (if k < W.ad.length then Q' (.cell k) (μ1.take W.ad.length) else match μ1[k]? with | some (.lst ds) => Q' (.dat (.list ds)) (μ1.take W.ad.length) ∨ Q' (.cell W.ad.length) (μ1.take W.ad.length ++ [.lst ds]) | some (.dct ds) => Q' (.cell W.ad.length) (μ1.take W.ad.length ++ [.dct ds]) | some (.dctT ds) => Q' (.cell W.ad.length) (μ1.take W.ad.length ++ [.dctT ds]) | _ => False) := h
    obtain ⟨a, ha, rfl⟩ := hs
    by_cases hk : k < W.ad.length
    · rw [if_pos hk] at h
      refine q _ (.cell k) _ H1 _ lc rc ⟨a, ?_, rfl⟩ h
      show (W1.ad.take W.ad.length)[k]? = some a
      rw [List.getElem?_take_of_lt hk]
      exact ha
    · rw [if_neg hk] at h
      split at h
      · rename_i ds e
        cases h with
        | inl h => exact frz_ok l r ha e (Nat.le_refl _) (Nat.not_lt.mp hk) q h
        | inr h => exact pull_ok l r ha e (Nat.not_lt.mp hk) q h
      · rename_i ds e
        exact pull_ok l r ha e (Nat.not_lt.mp hk) q h
      · rename_i ds e
        exact pull_ok l r ha e (Nat.not_lt.mp hk) q h
      · exact h.elim
theorem env_start {W : Wd} {N : List Str} {vs : List V} {ss : List Sl} (h : SlAll K W vs ss) : EnvOk K W (L2.start N vs) (startD N ss) := by
  have hl := h.length
  refine ⟨?_, fun i s e => ?_⟩
  · unfold L2.start startD
    simp only [List.length_append, List.length_map, List.length_replicate, hl]
  · unfold startD at e
    unfold L2.start
    by_cases hi : i < ss.length
    · rw [List.getElem?_append_left (by simpa using hi), List.getElem?_map] at e
      cases q : ss[i]? with
      | none => rw [q] at e; cases e
      | some t =>
        rw [q] at e
        cases e
        obtain ⟨v, hv, ok⟩ := h.get q
        refine ⟨v, ?_, ok⟩
        rw [List.getElem?_append_left (by rw [List.length_map, hl]; exact hi), List.getElem?_map, hv]
        rfl
    · rw [List.getElem?_append_right (by simpa using hi), List.getElem?_replicate] at e
      split at e <;> cases e
end
section
variable {P : Program} {w : World} {K : PySem.W.Frag} {mg : Str → Option Value} {base : Heap}
theorem okD {x qual : Str} {st : Stmt} {f : Addr} {fd : FuncData} {N ps : List Str} {k n : Nat} {φ : DF} {ds : DS} (F : Fun K x qual st f fd) (S : FnScope N ps (defScope st)) (hn : n = ps.length)
    (hbody : ∀ (cdv : Value) (A : Around) (outer : List Env) (s : Shared) (H : Hp) (E : XK), RoomG k (A.deeper (envOfC qual (defScope st) s.heap.objs.size f cdv)) →
      PDSs (cxOf CX0 P w K mg base N qual (defScope st) f cdv A outer s H E).nox (defBody st) ds)
    (hφ : ∀ ss μ Q', ss.length = n → φ ss μ Q' → ds ⟨fun _ μ' => finQ μ.length Q' (.dat .none) μ', finQ μ.length Q', fun _ _ => False, fun _ _ => False⟩ (startD N ss) μ) : FnG P w K mg base CX0 (k + 1) f fd ps (SpD K n φ) := by
  refine fnG_of F S (fun vs H Q E h => ?_) (fun cdv A outer s H vs Q E hr h => ?_)
  · obtain ⟨_, _, _, _, h, _⟩ := h
    exact h.trans hn
  · obtain ⟨W, ss, μ, Q', hl, hss, r, hp, q⟩ := h
    obtain ⟨t, p, l⟩ := hbody cdv A outer s H E hr
    refine ⟨t, p.nox, l _ (startD N ss) μ (hφ ss μ Q' (by rw [← hss.length]; exact hl) hp) W _ H (env_start hss) r _ ?_⟩
    have fq := finQ_ok q
    rw [r.len] at fq
    refine ⟨fun σ1 ρ1 W1 H1 μ1 l1 r1 he1 h1 => ?_, fq, fun σ1 ρ1 W1 H1 μ1 l1 r1 he1 h1 => h1, fun σ1 ρ1 W1 H1 μ1 l1 r1 he1 h1 => h1⟩
    exact fq .non (.dat .none) W1 H1 μ1 l1 r1 .non h1
structure Own (P : Program) (w : World) (K : PySem.W.Frag) (mg : Str → Option Value) (base : Heap) (x : Str) (st : Stmt) (ps : List Str) (k n : Nat) (φ : DF) : Prop where
  ex : ∃ f fd, Fun K x x st f fd ∧ FnG P w K mg base CX0 k f fd ps (SpD K n φ) ∧ mg x = some (.ref f)
end
def dCall (n : Nat) (φ : DF) (a : DA) : DE := fun ρ μ Q => a ρ μ fun ss μ1 => ss.length = n ∧ φ ss μ1 Q
section
variable {X : Cx} {K : PySem.W.Frag} {e : Expr} {es : List Expr} {x : Str} {p pos : Pos} {st : Stmt} {ps : List Str} {k n : Nat} {φ : DF}
theorem spD_of {W : Wd} {H : Hp} {μ : Mu} {vs : List V} {ss : List Sl} {Q' : DQ} {Q : VK} {E : XK} (hs : SlAll K W vs ss) (r : Rep K W H μ) (h : ss.length = n ∧ φ ss μ Q') (q : VOk K W Q' Q) : SpD K n φ vs H Q E :=
  ⟨W, ss, μ, Q', by rw [hs.length]; exact h.1, hs, r, h.2, q⟩
theorem pd_call {a : DA} (o : Own X.prog X.w X.K X.mg X.base x st ps k n φ) (hr : RoomG k X.A)
    (hb : ∀ (kV doc pm : Value) (an : Option Addr) (cdv ct : Value) (us : List Value), us.length = ps.length → bindArgs (PySem.W.fnOf x x (defArgs st) (defBody st) (defScope st) .none kV doc pm an cdv ct) ⟨us, []⟩ = pure (ps.zip us))
    (ha : PDA X (e :: es) a) (hg : Gl X x := by rfl) (hdb : (x == ("__debug__" : Str)) = false := by decide)
    (he : starEach (e :: es) X.env = (false, eval e X.env) :: starEach es X.env := by rfl) (hpl : (backTo pos (starEach es X.env)).any (·.1) = false := by rfl) : PD X (.Call (.Name x p) (e :: es) [] pos) (dCall n φ a) := by
  obtain ⟨f, fd, F, G, hm⟩ := o
  obtain ⟨t, p1, l1⟩ := ha
  refine ⟨_, pe_callG G hr hg hm F.kp (F.binds hb) pass0 p1 hdb he hpl, fun ρ μ Q' h W σ H henv r Q q => l1 ρ μ _ h W σ H henv r _ fun vs ss W1 H1 μ1 le1 r1 hss h1 => ?_⟩
  exact spD_of (E := E0) hss r1 h1 (q.le le1)
theorem pd_call0 (o : Own X.prog X.w X.K X.mg X.base x st ps k n φ) (hr : RoomG k X.A)
    (hb : ∀ (kV doc pm : Value) (an : Option Addr) (cdv ct : Value) (us : List Value), us.length = ps.length → bindArgs (PySem.W.fnOf x x (defArgs st) (defBody st) (defScope st) .none kV doc pm an cdv ct) ⟨us, []⟩ = pure (ps.zip us))
    (hg : Gl X x := by rfl) (hdb : (x == ("__debug__" : Str)) = false := by decide) : PD X (.Call (.Name x p) [] [] pos) (dCall n φ aNil) := by
  obtain ⟨f, fd, F, G, hm⟩ := o
  refine ⟨_, pe_callG0 G hr hg hm F.kp (F.binds hb) pass0 hdb, fun ρ μ Q' h W σ H henv r Q q => ?_⟩
  exact spD_of (E := E0) .nil r h q
def kp {α : Type} (np : Nat) (idx : List Nat) (us ws : List α) : List α := if us.length = np ∧ ws.length = idx.length then us ++ idx.filterMap (fun i => ws[i]?) else []
theorem slAll_fm {W : Wd} {vs : List V} {ss : List Sl} (h : SlAll K W vs ss) : ∀ idx : List Nat, SlAll K W (idx.filterMap fun i => vs[i]?) (idx.filterMap fun i => ss[i]?)
  | [] => .nil
  | i :: idx => by
    have ih := slAll_fm h idx
    rw [List.filterMap_cons, List.filterMap_cons]
    cases q : ss[i]? with
    | none =>
      have : vs[i]? = none := by
        rw [List.getElem?_eq_none_iff] at q ⊢
        rw [h.length]
        exact q
      rw [this]
      exact ih
    | some s =>
      obtain ⟨v, hv, ok⟩ := h.get q
      rw [hv]
      exact .cons ok ih
theorem slAll_app {W : Wd} : ∀ {vs us : List V} {ss ts : List Sl}, SlAll K W vs ss → SlAll K W us ts → SlAll K W (vs ++ us) (ss ++ ts)
  | _, _, _, _, .nil, h => h
  | _, _, _, _, .cons a t, h => .cons a (slAll_app t h)
theorem slAll_kp {W : Wd} {np : Nat} {idx : List Nat} {vs us : List V} {ss ts : List Sl} (h1 : SlAll K W vs ss) (h2 : SlAll K W us ts) : SlAll K W (kp np idx vs us) (kp np idx ss ts) := by
  unfold kp
  rw [h1.length, h2.length]
  split
  · exact slAll_app h1 (slAll_fm h2 idx)
  · exact .nil
theorem vals_fm {vs : List V} {us : List Value} (h : Vals vs us) : ∀ idx : List Nat, Vals (idx.filterMap fun i => vs[i]?) (idx.filterMap fun i => us[i]?)
  | [] => .nil
  | i :: idx => by
    have ih := vals_fm h idx
    rw [List.filterMap_cons, List.filterMap_cons]
    cases q : vs[i]? with
    | none =>
      rw [h.none_of q]
      exact ih
    | some s =>
      obtain ⟨v, hv, ok⟩ := h.get q
      rw [hv]
      exact .cons ok ih
theorem vals_kp {np : Nat} {idx : List Nat} {vs zs : List V} {us ws : List Value} (h1 : Vals vs us) (h2 : Vals zs ws) : Vals (kp np idx vs zs) (kp np idx us ws) := by
  unfold kp
  rw [h1.length, h2.length]
  split
  · exact h1.append (vals_fm h2 idx)
  · exact .nil
structure PDK (X : Cx) (kws : List Keyword) (d : DA) : Prop where
  ex : ∃ t, PK X kws t ∧ LA X.K t d
theorem pdk_nil : PDK X [] aNil := ⟨_, pk_nil, la_nil⟩
theorem pdk_cons {nm : Option Str} {kpos : Pos} {kws : List Keyword} {d : DE} {a : DA} (h1 : PD X e d) (h2 : PDK X kws a) : PDK X (⟨nm, e, kpos⟩ :: kws) (aCons d a) := by
  obtain ⟨t1, p1, l1⟩ := h1
  obtain ⟨t2, p2, l2⟩ := h2
  exact ⟨_, pk_cons p1 p2, la_cons l1 l2⟩
def dCallK (np : Nat) (idx : List Nat) (n : Nat) (φ : DF) (a b : DA) : DE := fun ρ μ Q => a ρ μ fun ss μ1 => b ρ μ1 fun ts μ2 => (kp np idx ss ts).length = n ∧ φ (kp np idx ss ts) μ2 Q
theorem kbinds_of {f : Addr} {fd : FuncData} {ks : List Str} {np : Nat} {idx : List Nat} (F : Fun K x x st f fd) (hps : ps ≠ [])
    (hb : ∀ (kV doc pm : Value) (an : Option Addr) (cdv ct : Value) (us ws : List Value), us.length = np → ws.length = idx.length →
      bindArgs (PySem.W.fnOf x x (defArgs st) (defBody st) (defScope st) .none kV doc pm an cdv ct) ⟨us, ks.zip ws⟩ = pure (ps.zip (us ++ idx.filterMap fun i => ws[i]?))) : KBinds K fd ps ks (kp np idx) (kp np idx) := by
  obtain ⟨oc, od, kV, doc, pm, an, cdv, ct, osl, rfl, lk, hcd⟩ := F.ex
  refine ⟨fun s us ws _ hl => ?_, fun h1 h2 => vals_kp h1 h2⟩
  by_cases hc : us.length = np ∧ ws.length = idx.length
  · have e : kp np idx us ws = us ++ idx.filterMap (fun i => ws[i]?) := if_pos hc
    rw [e]
    exact .of_eq (hb kV doc pm an cdv ct us ws hc.1 hc.2)
  · have e : kp np idx us ws = [] := if_neg hc
    rw [e] at hl
    exact absurd (List.length_eq_zero_iff.mp hl.symm) hps
end
end DL
namespace DL
open PySem PySem.Spec PyProof.Rows L2 Evl
section
variable {X : Cx} {K : PySem.W.Frag} {e : Expr} {es : List Expr} {x : Str} {p pos : Pos}
def okR (d : PyData) : Prop := d.showable = true ∧ (d.hasDict = false ∨ d = .dict []) ∧ d.depth ≤ 64 ∧ d.shown.length ≤ sizeLine
def rReprV (K : PySem.W.Frag) : List V → Hp → VK → Prop := fun vs H Q => ∃ v d, vs = [v] ∧ Dv K H v d ∧ okR d ∧ Q (.str d.shown) H
theorem cr_repr (hu : X.A.units + 128 < cLine) (hg : X.A.guards = some []) : CallR X (.builtin "repr") (rReprV X.K) := by
  intro pins s σ H vs us Q I r h
  obtain ⟨v, d, rfl, hd, ⟨h1, h2, h3, h4⟩, q⟩ := h
  cases r with
  | cons r1 r2 =>
    cases r2
    rename_i u
    obtain ⟨as, rr⟩ := Dv.reads I d v u hd r1
    cases d with
    | none =>
      cases hd
      cases r1
      exact PySem.P.repr_of_none ⟨.str _, H, I.tok _, ⟨_, rfl⟩, q⟩
    | bool b =>
      cases hd
      cases r1
      exact PySem.P.repr_of_bool ⟨.str _, H, I.tok _, ⟨_, rfl⟩, q⟩
    | int i =>
      cases hd
      obtain ⟨t, rfl⟩ := r1
      exact PySem.P.repr_of_int (of_decide_eq_true h1) ⟨.str _, H, I.tok _, ⟨_, rfl⟩, q⟩
    | str z =>
      cases hd
      obtain ⟨t, rfl⟩ := r1
      exact PySem.P.repr_of_str ⟨.str _, H, I.tok _, ⟨_, rfl⟩, q⟩ h4
    | list ds =>
      cases hd
      cases r1
      exact repr_of_reads' rr h1 (PyData.noDict_hsm (h2.resolve_right (fun z => by cases z))) hg (by omega) (fun _ _ z => z) (fun h' u tk hk => ⟨.str _, H, I.kept hk, ⟨_, rfl⟩, q⟩) h4
    | tuple ds =>
      cases hd
      cases r1
      exact repr_of_reads' rr h1 (PyData.noDict_hsm (h2.resolve_right (fun z => by cases z))) hg (by omega) (fun _ _ z => z) (fun h' u tk hk => ⟨.str _, H, I.kept hk, ⟨_, rfl⟩, q⟩) h4
    | dict kvs =>
      cases hd with
      | emp hs =>
        cases r1
        obtain ⟨r0, ne⟩ := dict_reads I hs
        exact repr_of_reads' r0 h1 (fun _ => by simpa using ne.symm) hg (by omega) (fun _ _ z => z) (fun h' u tk hk => ⟨.str _, H, I.kept hk, ⟨_, rfl⟩, q⟩) h4
def fRepr : DRA := arg1 fun d _ μ Q => okR d ∧ Q (.dat (.str d.shown)) μ
theorem RoomG.u128 {k : Nat} {A : Around} (h : RoomG k A) : A.units + 128 < cLine := by have := h.r.un; omega
theorem RoomG.u64 {k : Nat} {A : Around} (h : RoomG k A) : A.units + 64 < cLine := by have := h.r.un; omega
theorem pd_repr {k : Nat} (hr : RoomG k X.A) {a : DA} (ha : PDA X (e :: es) a) (hm : X.mg "repr" = none) (hg : Gl X "repr" := by rfl)
    (he : starEach (e :: es) X.env = (false, eval e X.env) :: starEach es X.env := by rfl) (hpl : (backTo pos (starEach es X.env)).any (·.1) = false := by rfl) : PD X (.Call (.Name "repr" p) (e :: es) [] pos) (dCB fRepr a) := by
  refine pd_cb (cr_repr hr.u128 hr.g) (fun xs μ Q' h W H vs r hs Q q => ?_) (by decide +kernel) ha hm hg (by decide) (by decide) he hpl
  obtain ⟨x, d, rfl, e1, h⟩ := arg1_of h
  obtain ⟨v, rfl, hx⟩ := slAll1 hs
  exact ⟨v, d, rfl, rd_dp r hx e1, h.1, q.str r h.2⟩
end
end DL
namespace DL
open PySem PySem.Spec PyProof.Rows L2 Evl
def Pure (N : List Str) (n : Nat) (φ : DF) (ds : DS) : Prop := ∀ ss μ Q', ss.length = n → φ ss μ Q' → ds ⟨fun _ μ' => finQ μ.length Q' (.dat .none) μ', finQ μ.length Q', fun _ _ => False, fun _ _ => False⟩ (startD N ss) μ
section
variable {ρ : Rho} {μ : Mu} {Q : DQ} {D : DEnds} {a b c d e : DE} {t u : DT} {as : DA} {r r' : DR2} {r1 : DR1} {ra : DRA} {s s' : DS}
@[simp ↓] theorem e_dVar {i : Nat} : dVar i ρ μ Q = (match ρ[i]? with | some (some s) => Q s μ | _ => False) := rfl
@[simp ↓] theorem e_dC {x : PyData} : dC x ρ μ Q = Q (.dat x) μ := rfl
@[simp ↓] theorem e_aNil {R : List Sl → Mu → Prop} : aNil ρ μ R = R [] μ := rfl
@[simp ↓] theorem e_aCons {R : List Sl → Mu → Prop} : aCons d as ρ μ R = d ρ μ fun s μ1 => as ρ μ1 fun ss μ2 => R (s :: ss) μ2 := rfl
@[simp ↓] theorem e_dOp : dOp r a b ρ μ Q = a ρ μ fun x μ1 => b ρ μ1 fun y μ2 => r x y μ2 Q := rfl
@[simp ↓] theorem e_dUn : dUn r1 a ρ μ Q = a ρ μ fun x μ1 => r1 x μ1 Q := rfl
@[simp ↓] theorem e_dCB : dCB ra as ρ μ Q = as ρ μ fun x μ1 => ra x μ1 Q := rfl
@[simp ↓] theorem e_dTest {R : Bool → Mu → Prop} : dTest d ρ μ R = d ρ μ fun x μ1 => match x with | .dat (.bool b) => R b μ1 | _ => False := rfl
@[simp ↓] theorem e_dChain : dChain r r' a b c ρ μ Q = a ρ μ fun x μ1 => b ρ μ1 fun y μ2 => r x y μ2 fun z μ3 => match z with | .dat (.bool k) => if k = true then c ρ μ3 (fun w μ4 => r' y w μ4 Q) else Q (.dat (.bool false)) μ3 | _ => False := rfl
@[simp ↓] theorem e_dTru {R : Bool → Mu → Prop} : dTru d ρ μ R = d ρ μ fun x μ1 => match rd μ1 x with | some z => okT z ∧ R (truD z) μ1 | _ => False := rfl
@[simp ↓] theorem e_dAnd {R : Bool → Mu → Prop} : dAnd t u ρ μ R = t ρ μ fun c μ1 => if c = true then u ρ μ1 R else R false μ1 := rfl
@[simp ↓] theorem e_dOr {R : Bool → Mu → Prop} : dOr t u ρ μ R = t ρ μ fun c μ1 => if c = true then R true μ1 else u ρ μ1 R := rfl
@[simp ↓] theorem e_dNot {R : Bool → Mu → Prop} : dNot t ρ μ R = t ρ μ fun c μ1 => R (!c) μ1 := rfl
@[simp ↓] theorem e_dIf : dIf t a b ρ μ Q = t ρ μ fun c μ1 => if c = true then a ρ μ1 Q else b ρ μ1 Q := rfl
@[simp ↓] theorem e_dAndV : dAndV a b ρ μ Q = a ρ μ fun x μ1 => match x with | .dat (.bool c) => if c = true then b ρ μ1 Q else Q (.dat (.bool false)) μ1 | _ => False := rfl
@[simp ↓] theorem e_dOrV : dOrV a b ρ μ Q = a ρ μ fun x μ1 => match x with | .dat (.bool c) => if c = true then Q (.dat (.bool true)) μ1 else b ρ μ1 Q | _ => False := rfl
@[simp ↓] theorem e_dNotV : dNotV a ρ μ Q = a ρ μ fun x μ1 => match x with | .dat (.bool c) => Q (.dat (.bool (!c))) μ1 | _ => False := rfl
@[simp ↓] theorem e_dTup : dTup as ρ μ Q = as ρ μ fun ss μ1 => match datsOf ss with | some (b, ds) => ds.length ≤ sizeLine ∧ Q (mk b (.tuple ds)) μ1 | none => False := rfl
@[simp ↓] theorem e_dLst : dLst as ρ μ Q = as ρ μ fun ss μ1 => match datsOf ss with | some (b, ds) => ds.length ≤ sizeLine ∧ Q (mk b (.list ds)) μ1 | none => False := rfl
@[simp ↓] theorem e_dLstC : dLstC as ρ μ Q = as ρ μ fun ss μ1 => match datsOf ss with | some (false, ds) => ds.length ≤ sizeLine ∧ Q (.cell μ1.length) (μ1 ++ [.lst ds]) | _ => False := rfl
@[simp ↓] theorem e_dNext : dNext D ρ μ = D.nx ρ μ := rfl
@[simp ↓] theorem e_dSeq : dSeq s s' D ρ μ = s { D with nx := s' D } ρ μ := rfl
@[simp ↓] theorem e_dAsg {i : Nat} : dAsg d i D ρ μ = d ρ μ fun s μ1 => D.nx (ρ.set i (some s)) μ1 := rfl
@[simp ↓] theorem e_dRet : dRet d D ρ μ = d ρ μ D.rt := rfl
@[simp ↓] theorem e_dRetN : dRetN D ρ μ = D.rt (.dat .none) μ := rfl
@[simp ↓] theorem e_dIfS : dIfS t s s' D ρ μ = t ρ μ fun c μ1 => if c = true then s D ρ μ1 else s' D ρ μ1 := rfl
@[simp ↓] theorem e_dDrop : dDrop d D ρ μ = d ρ μ fun _ μ1 => D.nx ρ μ1 := rfl
@[simp ↓] theorem e_dNever : dNever D ρ μ = False := rfl
@[simp ↓] theorem e_dCont : dCont D ρ μ = D.ct ρ μ := rfl
@[simp ↓] theorem e_dBreak : dBreak D ρ μ = D.bk ρ μ := rfl
@[simp ↓] theorem e_dAug {i : Nat} : dAug i r d D ρ μ = dVar i ρ μ fun x μ0 => d ρ μ0 fun y μ1 => r x y μ1 fun z μ2 => D.nx (ρ.set i (some z)) μ2 := rfl
@[simp ↓] theorem e_dPar {i j : Nat} : dPar i j as D ρ μ = as ρ μ fun ss μ1 => match ss with | [s, t] => D.nx ((ρ.set i (some s)).set j (some t)) μ1 | _ => False := rfl
@[simp ↓] theorem e_gN {i : Nat} {x : Sl} {R : Rho → Mu → Prop} : gN i x ρ μ R = R (ρ.set i (some x)) μ := rfl
@[simp ↓] theorem e_gsNil {R : Rho → Mu → Prop} : gsNil [] ρ μ R = R ρ μ := rfl
@[simp ↓] theorem e_gsCons {g : DG} {gs : DGs} {x : Sl} {xs : List Sl} {R : Rho → Mu → Prop} : gsCons g gs (x :: xs) ρ μ R = g x ρ μ fun ρ1 μ1 => gs xs ρ1 μ1 R := rfl
@[simp ↓] theorem e_gT {n : Nat} {gs : DGs} {ds : List PyData} {R : Rho → Mu → Prop} : gT n gs (.dat (.tuple ds)) ρ μ R = (ds.length = n ∧ gs (ds.map .dat) ρ μ R) := rfl
@[simp ↓] theorem e_gS {x : Sl} {R : Rho → Mu → Prop} : gS a b x ρ μ R = a ρ μ fun y μ1 => b ρ μ1 fun z μ2 => wrL y z x μ2 fun μ3 => R ρ μ3 := rfl
@[simp ↓] theorem e_dAsgG {g : DG} : dAsgG d g D ρ μ = d ρ μ fun s μ1 => g s ρ μ1 D.nx := rfl
@[simp ↓] theorem e_dCall {n : Nat} {φ : DF} : dCall n φ as ρ μ Q = as ρ μ fun ss μ1 => ss.length = n ∧ φ ss μ1 Q := rfl
@[simp ↓] theorem e_dCallK {np n : Nat} {idx : List Nat} {φ : DF} {bs : DA} : dCallK np idx n φ as bs ρ μ Q = as ρ μ fun ss μ1 => bs ρ μ1 fun ts μ2 => (kp np idx ss ts).length = n ∧ φ (kp np idx ss ts) μ2 Q := rfl
@[simp ↓] theorem e_rdD {x : PyData} : rd μ (.dat x) = some x := rfl
@[simp ↓] theorem e_rdV {x : PyData} : rd μ (.vw x) = some x := rfl
@[simp ↓] theorem e_rdC {k : Nat} : rd μ (.cell k) = rdC μ[k]? := rfl
@[simp ↓] theorem e_rdCl {ds : List PyData} : rdC (some (.lst ds)) = some (.list ds) := rfl
@[simp ↓] theorem e_isVd {x : PyData} : isV (.dat x) = false := rfl
@[simp ↓] theorem e_isVc {k : Nat} : isV (.cell k) = false := rfl
@[simp ↓] theorem e_mkF {x : PyData} : mk false x = .dat x := rfl
@[simp ↓] theorem e_eltD {x y : PyData} : elt (.dat x) y = .dat y := rfl
@[simp ↓] theorem e_eltC {k : Nat} {y : PyData} : elt (.cell k) y = .dat y := rfl
@[simp ↓] theorem e_eltfun {x : PyData} : elt (.dat x) = .dat := rfl
@[simp ↓] theorem e_datsNil : datsOf [] = some (false, []) := rfl
@[simp ↓] theorem e_datsCons {x : PyData} {ss : List Sl} : datsOf (.dat x :: ss) = (match datsOf ss with | some (b, ds) => some (b, x :: ds) | none => none) := rfl
@[simp ↓] theorem e_finD {n : Nat} {x : PyData} : finQ n Q (.dat x) μ = Q (.dat x) (μ.take n) := rfl
theorem e_wrL {k : Nat} {j : Int} {x : PyData} {R : Mu → Prop} : wrL (.cell k) (.dat (.int j)) (.dat x) μ R = (match μ[k]? with | some (.lst ds) => ∃ m, ixN ds.length j = some m ∧ R (μ.set k (.lst (ds.set m x))) | _ => False) := rfl
@[simp ↓] theorem e_sz2 : 2 ≤ sizeLine := by decide
theorem small_sz {n : Nat} (h : n ≤ 1000) : n ≤ sizeLine := Nat.le_trans h (by decide)
end
theorem fact_of {K : PySem.W.Frag} {h : Heap} {mg : Str → Option Value} {x : Str} {st : Stmt} {f : Addr} (X : K.In h) (G : h.Ns mainGlobals mg) {od an : Option Addr} {sl : Array (Option Value)} {oc kV dc pm cd ct : Value}
    (a : PySem.W.nsIn K mainGlobals x = some (some (.ref f))) (l : K.lookup f = some ⟨oc, od, .func (PySem.W.fnOf x x (defArgs st) (defBody st) (defScope st) .none kV dc pm an cd ct), sl⟩) (c : PySem.W.codeIn K cd x = true) (k : PySem.W.keepIn K (.ref f) = true) :
    ∃ f fd, Fun K x x st f fd ∧ mg x = some (.ref f) := ⟨f, _, fun_mk l c k, PySem.W.mg_of X G a⟩
theorem step_of {K : PySem.W.Frag} {h : Heap} {mg : Str → Option Value} {x : Str} {st : Stmt} {f : Addr} {Z : Prop} (X : K.In h) (G : h.Ns mainGlobals mg) {od an : Option Addr} {sl : Array (Option Value)} {oc kV dc pm cd ct : Value}
    (a : PySem.W.nsIn K mainGlobals x = some (some (.ref f))) (l : K.lookup f = some ⟨oc, od, .func (PySem.W.fnOf x x (defArgs st) (defBody st) (defScope st) .none kV dc pm an cd ct), sl⟩) (c : PySem.W.codeIn K cd x = true) (k : PySem.W.keepIn K (.ref f) = true)
    (z : (∃ f fd, Fun K x x st f fd ∧ mg x = some (.ref f)) → Z) : Z := z (fact_of X G a l c k)
end DL
namespace HT
open PySem PySem.Spec PySem.Entry PySem.Calls PyProof PyProof.Rows
section
variable {prog : Program} {w : World} {A : Around} {s : Shared} {E : Value → Shared → Prop}
end
end HT
namespace DL
open PySem PySem.Spec PyProof.Rows L2 Evl
section
variable {X : Cx} {e : Expr} {te : TE} {k : Nat} {p1 p2 p3 pos : Pos}
def rRev : DR1 := fun x μ Q => match rd μ x with
  | some (.tuple ds) => Q (mk (isV x) (.tuple ds.reverse)) μ
  | _ => False
end
theorem VOk.seen {K : PySem.W.Frag} {W : Wd} {H : Hp} {μ : Mu} {Q' : DQ} {Q : VK} (h : VOk K W Q' Q) (r : Rep K W H μ) {p : Addr} (hp : H p = none) (o : HO) {b : Bool} (q : Q' (.dat (.bool b)) μ) : Q (.bl b) (upd H p o) :=
  h (.bl b) (.dat (.bool b)) _ _ μ (Le.new (o := o) r hp) (r.new hp) (.bl b) q
theorem kit_of5b {K : PySem.W.Frag} (T U : Ty5) (d : PyData) : PySem.W.kitAny K (.type (tyN d)) [.type T.nm, .type U.nm] = some (isTy T d || isTy U d) := by
  unfold PySem.W.kitAny
  rw [kit_of5]
  cases isTy T d
  · show PySem.W.kitAny K (.type (tyN d)) [.type U.nm] = _
    unfold PySem.W.kitAny
    rw [kit_of5]
    cases isTy U d <;> rfl
  · rfl
section
variable {X : Cx} {e : Expr} {p pos tpos : Pos} {k : Nat}
def fIsi2 (T U : Ty5) : DR1 := fun x μ Q => match rd μ x with
  | some d => Q (.dat (.bool (isTy T d || isTy U d))) μ
  | none => False
theorem pd_isi2 (T U : Ty5) {c c2 : Str} {cp cp2 : Pos} {d : DE} (ha : PD X e d) (hm : X.mg "isinstance" = none) (hmc : X.mg c = none) (hmc2 : X.mg c2 = none) (hv : bootBuiltins c = some (.type T.nm)) (hv2 : bootBuiltins c2 = some (.type U.nm))
    (hg : Gl X "isinstance" := by rfl) (hgc : Gl X c := by rfl) (hgc2 : Gl X c2 := by rfl)
    (hn : c ≠ "__name__" := by decide) (hdb : (c == ("__debug__" : Str)) = false := by decide) (hn2 : c2 ≠ "__name__" := by decide) (hdb2 : (c2 == ("__debug__" : Str)) = false := by decide)
    (he : starEach [e, .Tuple [.Name c cp, .Name c2 cp2] k tpos] X.env = (false, eval e X.env) :: starEach [.Tuple [.Name c cp, .Name c2 cp2] k tpos] X.env := by rfl)
    (he2 : starEach [.Tuple [.Name c cp, .Name c2 cp2] k tpos] X.env = (false, eval (.Tuple [.Name c cp, .Name c2 cp2] k tpos) X.env) :: starEach [] X.env := by rfl)
    (he3 : starEach [.Name c cp, .Name c2 cp2] X.env = (false, eval (.Name c cp) X.env) :: starEach [.Name c2 cp2] X.env := by rfl) (he4 : starEach [.Name c2 cp2] X.env = (false, eval (.Name c2 cp2) X.env) :: starEach [] X.env := by rfl)
    (hpl : (backTo pos (starEach [.Tuple [.Name c cp, .Name c2 cp2] k tpos] X.env)).any (·.1) = false := by rfl) : PD X (.Call (.Name "isinstance" p) [e, .Tuple [.Name c cp, .Name c2 cp2] k tpos] [] pos) (dUn (fIsi2 T U) d) := by
  obtain ⟨t, p1, l1⟩ := ha
  refine ⟨_, pe_callB call_isiT hg hm (by decide +kernel) (pa_cons p1 (pa_cons (pe_tup (pa_cons (pe_bltn (v := .ty T.nm) hgc hmc hv rfl hn hdb) (pa_cons (pe_bltn (v := .ty U.nm) hgc2 hmc2 hv2 rfl hn2 hdb2) pa_nil he4) he3)) pa_nil he2) he) (by decide) (by decide) he hpl, fun ρ μ Q' h W σ H henv rp Q q =>
    l1 ρ μ _ h W σ H henv rp _ fun v s W1 H1 μ1 le1 r1 hs h1 => ?_⟩
  replace h1 : (match rd μ1 s with | some d => Q' (.dat (.bool (isTy T d || isTy U d))) μ1 | none => False) := h1
  cases ee : rd μ1 s with
  | none => rw [ee] at h1; exact h1.elim
  | some z =>
    rw [ee] at h1
    refine ⟨by show 2 ≤ sizeLine; decide, fun tp hp => ⟨v, tp, [.ty T.nm, .ty U.nm], .type (tyN z), [.type T.nm, .type U.nm], isTy T z || isTy U z, rfl, upd_same, .cons (.ty _) (.cons (.ty _) .nil), tyX_of (Dv.mono (rd_dp r1 hs ee) (Ex.new hp)), kit_of5b T U z, VOk.seen (q.le le1) r1 hp _ h1⟩⟩
@[simp ↓] theorem o_isi2 {T U : Ty5} {x : PyData} {μ : Mu} {Q : DQ} : fIsi2 T U (.dat x) μ Q = Q (.dat (.bool (isTy T x || isTy U x))) μ := rfl
@[simp ↓] theorem o_rev {ds : List PyData} {μ : Mu} {Q : DQ} : rRev (.dat (.tuple ds)) μ Q = Q (.dat (.tuple ds.reverse)) μ := rfl
end
end DL
namespace DL
open PySem PySem.Spec PyProof.Rows L2 Evl
def Sh (n : Nat) (d : PyData) : Prop := d.canLay0 = true ∧ d.depth ≤ n
theorem Sh.int {n : Nat} {i : Int} : Sh n (.int i) := ⟨rfl, Nat.zero_le _⟩
theorem Sh.bool {n : Nat} {b : Bool} : Sh n (.bool b) := ⟨rfl, Nat.zero_le _⟩
theorem canAll : ∀ {xs : List PyData}, (∀ x ∈ xs, x.canLay0 = true) → PyData.canLayAll0 xs = true
  | [], _ => rfl
  | x :: xs, h => by
    simp only [PyData.canLayAll0, Bool.and_eq_true]
    exact ⟨h x (List.mem_cons_self ..), canAll fun y hy => h y (List.mem_cons_of_mem _ hy)⟩
theorem depAll {n : Nat} : ∀ {xs : List PyData}, (∀ x ∈ xs, x.depth ≤ n) → PyData.depthAll xs ≤ n
  | [], _ => Nat.zero_le _
  | x :: xs, h => Nat.max_le.mpr ⟨h x (List.mem_cons_self ..), depAll fun y hy => h y (List.mem_cons_of_mem _ hy)⟩
theorem Sh.tup {n : Nat} {xs : List PyData} (h : ∀ x ∈ xs, Sh n x) : Sh (n + 1) (.tuple xs) :=
  ⟨by simp only [PyData.canLay0]; exact canAll fun x hx => (h x hx).1, Nat.succ_le_succ (depAll fun x hx => (h x hx).2)⟩
theorem Sh.list {n : Nat} {xs : List PyData} (h : ∀ x ∈ xs, Sh n x) : Sh (n + 1) (.list xs) :=
  ⟨by simp only [PyData.canLay0]; exact canAll fun x hx => (h x hx).1, Nat.succ_le_succ (depAll fun x hx => (h x hx).2)⟩
theorem Sh.mono {m n : Nat} {d : PyData} (h : Sh m d) (g : m ≤ n) : Sh n d := ⟨h.1, Nat.le_trans h.2 g⟩
theorem Sh.ok {n : Nat} {d : PyData} (h : Sh n d) (g : n ≤ 64) : SeqAt.shaped d = true := Bool.and_eq_true_iff.mpr ⟨h.1, decide_eq_true (Nat.le_trans h.2 g)⟩
theorem addTo_end {μ : Mu} {acc : List PyData} {d : PyData} {R : Mu → Prop} (h : acc.length < sizeLine) : addTo μ.length (.dat d) (μ ++ [Cell.lst acc]) R = R (μ ++ [Cell.lst (acc ++ [d])]) := by
  unfold addTo
  rw [List.getElem?_append_right (Nat.le_refl _), Nat.sub_self]
  show (acc.length < sizeLine ∧ R ((μ ++ [Cell.lst acc]).set μ.length (.lst (acc ++ [d])))) = _
  rw [List.set_append_right _ _ (Nat.le_refl _), Nat.sub_self]
  exact propext ⟨fun z => z.2, fun z => ⟨h, z⟩⟩
theorem lcD_eq {C : Mu → Prop} {g : DG} {t : DT} {e : DE} {Q : Mu → Prop} {ρ : Rho} {p : PyData → Bool} {f : PyData → PyData} {μ : Mu} (hC : ∀ acc, C (μ ++ [Cell.lst acc])) : ∀ (ds acc : List PyData), acc.length + ds.length ≤ sizeLine →
    (∀ x ∈ ds, ∀ (acc : List PyData) (R : Mu → Prop), (g (.dat x) ρ (μ ++ [Cell.lst acc]) fun ρ1 μ1 => t ρ1 μ1 fun b μ2 => if b = true then e ρ1 μ2 fun v μ3 => addTo μ.length v μ3 R else R μ2) = if p x = true then addTo μ.length (.dat (f x)) (μ ++ [Cell.lst acc]) R else R (μ ++ [Cell.lst acc])) →
    lcD C g t e μ.length Q ρ (ds.map .dat) (μ ++ [Cell.lst acc]) = Q (μ ++ [Cell.lst (acc ++ (ds.filter p).map f)])
  | [], acc, _, _ => by
    show (C _ ∧ Q _) = _
    rw [List.filter_nil, List.map_nil, List.append_nil]
    exact propext ⟨fun z => z.2, fun z => ⟨hC acc, z⟩⟩
  | x :: ds, acc, hl, hs => by
    rw [List.length_cons] at hl
    have h1 := hs x (List.mem_cons_self ..) acc (lcD C g t e μ.length Q ρ (ds.map .dat))
    show (C _ ∧ g (.dat x) ρ (μ ++ [Cell.lst acc]) _) = _
    rw [h1]
    have ih := fun a h => lcD_eq hC ds a h (Q := Q) fun y hy => hs y (List.mem_cons_of_mem _ hy)
    by_cases hp : p x = true
    · rw [if_pos hp, addTo_end (by omega), ih _ (by rw [List.length_append, List.length_singleton]; omega), List.filter_cons_of_pos hp, List.map_cons, List.append_assoc]
      exact propext ⟨fun z => z.2, fun z => ⟨hC acc, z⟩⟩
    · rw [if_neg hp, ih _ (by omega), List.filter_cons_of_neg hp]
      exact propext ⟨fun z => z.2, fun z => ⟨hC acc, z⟩⟩
theorem frz_end {μ : Mu} {Q : DQ} {acc : List PyData} : frzQ μ.length Q (μ ++ [Cell.lst acc]) = Q (.dat (.list acc)) μ := by
  unfold frzQ
  rw [List.getElem?_append_right (Nat.le_refl _), Nat.sub_self]
  show Q (.dat (.list acc)) ((μ ++ [Cell.lst acc]).take μ.length) = _
  rw [List.take_left']
  rfl
theorem lc_eq {i : DI} {g : DG} {t : DT} {e : DE} {vs : List Nat} {ρ : Rho} {μ : Mu} {Q : DQ} {C : Mu → Prop} {ds : List PyData} (p : PyData → Bool) (f : PyData → PyData) (hi : ∀ R, i ρ μ R = R (ds.map .dat) C μ) (hC : ∀ acc, C (μ ++ [Cell.lst acc])) (hl : ds.length ≤ sizeLine)
    (hs : ∀ x ∈ ds, ∀ (acc : List PyData) (R : Mu → Prop), (g (.dat x) (wipeD ρ vs) (μ ++ [Cell.lst acc]) fun ρ1 μ1 => t ρ1 μ1 fun b μ2 => if b = true then e ρ1 μ2 fun v μ3 => addTo μ.length v μ3 R else R μ2) = if p x = true then addTo μ.length (.dat (f x)) (μ ++ [Cell.lst acc]) R else R (μ ++ [Cell.lst acc])) :
    dLc i g t e vs ρ μ Q = Q (.dat (.list ((ds.filter p).map f))) μ := by
  show i ρ μ _ = _
  rw [hi]
  refine (lcD_eq hC ds [] (by simpa using hl) hs).trans ?_
  rw [List.nil_append]
  exact frz_end
theorem lc_map {i : DI} {g : DG} {e : DE} {vs : List Nat} {ρ : Rho} {μ : Mu} {Q : DQ} {C : Mu → Prop} {ds : List PyData} (f : PyData → PyData) (hi : ∀ R, i ρ μ R = R (ds.map .dat) C μ) (hC : ∀ acc, C (μ ++ [Cell.lst acc])) (hl : ds.length ≤ sizeLine)
    (hs : ∀ x ∈ ds, ∀ (acc : List PyData) (R : Mu → Prop), (g (.dat x) (wipeD ρ vs) (μ ++ [Cell.lst acc]) fun ρ1 μ1 => e ρ1 μ1 fun v μ3 => addTo μ.length v μ3 R) = addTo μ.length (.dat (f x)) (μ ++ [Cell.lst acc]) R) :
    dLc i g dYes e vs ρ μ Q = Q (.dat (.list (ds.map f))) μ := by
  have h := lc_eq (i := i) (g := g) (t := dYes) (e := e) (vs := vs) (Q := Q) (fun _ => true) f hi hC hl (fun x hx acc R => (hs x hx acc R).trans (if_pos rfl).symm)
  rw [List.filter_eq_self.mpr (fun _ _ => rfl)] at h
  exact h
def Sq (μ : Mu) (s : Sl) (ds : List PyData) : Prop := isV s = false ∧ (rd μ s = some (.list ds) ∨ rd μ s = some (.tuple ds))
theorem rd_more {μ ν : Mu} {s : Sl} {d : PyData} (h : rd μ s = some d) : rd (μ ++ ν) s = some d := by
  cases s with
  | cell k =>
    replace h : rdC μ[k]? = some d := h
    show rdC (μ ++ ν)[k]? = some d
    have hk : k < μ.length := by
      by_cases hk : k < μ.length
      · exact hk
      · rw [List.getElem?_eq_none (by omega)] at h
        cases h
    rw [List.getElem?_append_left hk]
    exact h
  | _ => exact h
theorem Sq.more {μ ν : Mu} {s : Sl} {ds : List PyData} (h : Sq μ s ds) : Sq (μ ++ ν) s ds := ⟨h.1, h.2.imp rd_more rd_more⟩
theorem Sq.dt {μ : Mu} {ds : List PyData} : Sq μ (.dat (.tuple ds)) ds := ⟨rfl, .inr rfl⟩
theorem Sq.dl {μ : Mu} {ds : List PyData} : Sq μ (.dat (.list ds)) ds := ⟨rfl, .inl rfl⟩
theorem iSeq_ok {i : Nat} {ρ : Rho} {μ : Mu} {s : Sl} {ds : List PyData} (h : ρ[i]? = some (some s)) (hs : Sq μ s ds) : ∃ C : Mu → Prop, C μ ∧ (∀ ν, C (μ ++ ν)) ∧ ∀ R, iSeq (dVar i) ρ μ R = R (ds.map .dat) C μ := by
  have he : elt s = .dat := by
    funext d
    unfold elt
    rw [hs.1]
    rfl
  rcases hs.2 with e | e
  · refine ⟨fun ν => rd ν s = some (.list ds), e, fun ν => rd_more e, fun R => ?_⟩
    simp only [iSeq, e_dVar, h, e, he]
  · refine ⟨fun _ => True, trivial, fun _ => trivial, fun R => ?_⟩
    simp only [iSeq, e_dVar, h, e, he]
theorem zipS_dat {x y : PyData} : ∀ {ds es : List PyData}, zipS (.dat x) (.dat y) ds es = (List.zipWith (fun d e => PyData.tuple [d, e]) ds es).map .dat
  | [], _ => by cases ‹List PyData› <;> rfl
  | _ :: _, [] => rfl
  | d :: ds, e :: es => by
    rw [List.zipWith_cons_cons, List.map_cons, ← zipS_dat]
    rfl
section
variable {μ : Mu} {Q : DQ} {i j : Int} {x y : PyData} {ρ : Rho} {ds es : List PyData}
@[simp ↓] theorem o_sum {ns : List Int} : fSum [.dat (.list (ns.map PyData.int))] μ Q = Q (.dat (.int ns.sum)) μ := by
  have : ∀ ns : List Int, intsOf (ns.map PyData.int) = some ns := fun ns => by
    induction ns with
    | nil => rfl
    | cons b r ih => simp [intsOf, ih]
  simp [fSum, arg1, this]
@[simp ↓] theorem o_all {bs : List Bool} : fAll [.dat (.list (bs.map PyData.bool))] μ Q = Q (.dat (.bool (bs.all id))) μ := by
  have : ∀ bs : List Bool, boolsOf (bs.map PyData.bool) = some bs := fun bs => by
    induction bs with
    | nil => rfl
    | cons b r ih => simp [boolsOf, ih]
  simp [fAll, fBools, arg1, this]
@[simp ↓] theorem o_tupL : fTuple [.dat (.list ds)] μ Q = Q (.dat (.tuple ds)) μ := rfl
@[simp ↓] theorem o_tupT : fTuple [.dat (.tuple ds)] μ Q = Q (.dat (.tuple ds)) μ := rfl
@[simp ↓] theorem o_eqI : DL.rEq (.dat (.int i)) (.dat (.int j)) μ Q = Q (.dat (.bool (decide (i = j)))) μ := rfl
@[simp ↓] theorem o_neI : DL.rNe (.dat (.int i)) (.dat (.int j)) μ Q = Q (.dat (.bool (!decide (i = j)))) μ := rfl
@[simp ↓] theorem o_eqB {i j : Bool} : DL.rEq (.dat (.bool i)) (.dat (.bool j)) μ Q = Q (.dat (.bool (decide (i = j)))) μ := rfl
@[simp ↓] theorem o_neS {i j : Str} : DL.rNe (.dat (.str i)) (.dat (.str j)) μ Q = Q (.dat (.bool (!decide (i = j)))) μ := rfl
@[simp ↓] theorem o_lt : DL.rLt (.dat (.int i)) (.dat (.int j)) μ Q = Q (.dat (.bool (decide (i < j)))) μ := rfl
@[simp ↓] theorem o_le : DL.rLe (.dat (.int i)) (.dat (.int j)) μ Q = Q (.dat (.bool (decide (i ≤ j)))) μ := rfl
@[simp ↓] theorem o_gt : DL.rGt (.dat (.int i)) (.dat (.int j)) μ Q = Q (.dat (.bool (decide (j < i)))) μ := rfl
@[simp ↓] theorem o_ge : DL.rGe (.dat (.int i)) (.dat (.int j)) μ Q = Q (.dat (.bool (decide (j ≤ i)))) μ := rfl
@[simp ↓] theorem o_add : DL.rAdd (.dat (.int i)) (.dat (.int j)) μ Q = Q (.dat (.int (i + j))) μ := rfl
@[simp ↓] theorem o_addT : DL.rAdd (.dat (.tuple ds)) (.dat (.tuple es)) μ Q = (ds.length + es.length ≤ sizeLine ∧ Q (.dat (.tuple (ds ++ es))) μ) := rfl
@[simp ↓] theorem o_sub : DL.rSub (.dat (.int i)) (.dat (.int j)) μ Q = Q (.dat (.int (i - j))) μ := propext ⟨fun h => h.2, fun h => ⟨trivial, h⟩⟩
@[simp ↓] theorem o_mul : DL.rMul (.dat (.int i)) (.dat (.int j)) μ Q = (CMulW i j ∧ Q (.dat (.int (i * j))) μ) := rfl
@[simp ↓] theorem o_mulT : DL.rMul (.dat (.tuple ds)) (.dat (.int j)) μ Q = ((ds ≠ [] ∧ 2 ≤ j ∧ j ≤ 1000 ∧ ds.length ≤ 1000) ∧ Q (.dat (.tuple (List.replicate j.toNat ds).flatten)) μ) := rfl
@[simp ↓] theorem o_dv : DL.rDv (.dat (.int i)) (.dat (.int j)) μ Q = (CDv i j ∧ Q (.dat (.int (i.fdiv j))) μ) := rfl
@[simp ↓] theorem o_md : DL.rMd (.dat (.int i)) (.dat (.int j)) μ Q = (j ≠ 0 ∧ Q (.dat (.int (i.fmod j))) μ) := rfl
@[simp ↓] theorem o_pw : DL.rPw (.dat (.int i)) (.dat (.int j)) μ Q = (CPow i j ∧ Q (.dat (.int (i ^ j.toNat))) μ) := rfl
@[simp ↓] theorem o_neg : DL.rNeg (.dat (.int i)) μ Q = Q (.dat (.int (-i))) μ := rfl
@[simp ↓] theorem o_isT {b c : Bool} : DL.rIs true (.dat (.bool b)) (.dat (.bool c)) μ Q = Q (.dat (.bool (true != decide (b = c)))) μ := rfl
@[simp ↓] theorem o_lenL : fLen [.dat (.list ds)] μ Q = Q (.dat (.int ds.length)) μ := rfl
@[simp ↓] theorem o_lenT : fLen [.dat (.tuple ds)] μ Q = Q (.dat (.int ds.length)) μ := rfl
@[simp ↓] theorem o_abs : fAbs [.dat (.int i)] μ Q = Q (.dat (.int (if i < 0 then -i else i))) μ := rfl
@[simp ↓] theorem o_max : fMax2 [.dat (.int i), .dat (.int j)] μ Q = Q (.dat (.int (if j > i then j else i))) μ := propext ⟨fun h => h.2, fun h => ⟨trivial, h⟩⟩
@[simp ↓] theorem o_int : fInt [.dat (.int i)] μ Q = Q (.dat (.int i)) μ := rfl
@[simp ↓] theorem o_intB {b : Bool} : fInt [.dat (.bool b)] μ Q = Q (.dat (.int (if b then 1 else 0))) μ := rfl
@[simp ↓] theorem o_isiT {T : Ty5} : fIsi T (.dat x) μ Q = Q (.dat (.bool (isTy T x))) μ := rfl
@[simp ↓] theorem o_tr {b : Bool} : truD (.bool b) = b := rfl
@[simp ↓] theorem o_okT {b : Bool} : okT (.bool b) = True := rfl
theorem rix_c {k : Nat} {j : Int} {d : PyData} {ds : List PyData} (hm : μ[k]? = some (.lst ds)) (e : atI ds j = some d) : DL.rIx (.cell k) (.dat (.int j)) μ Q = Q (.dat d) μ := by
  simp only [DL.rIx, e_rdC, hm, e_rdCl, e_rdD, e, Option.some.injEq, exists_eq_left', e_eltC]
theorem rix_l {j : Int} {d : PyData} {ds : List PyData} (e : atI ds j = some d) : DL.rIx (.dat (.list ds)) (.dat (.int j)) μ Q = Q (.dat d) μ := by
  simp only [DL.rIx, e_rdD, e, Option.some.injEq, exists_eq_left', e_eltD]
theorem wrl_c {k m : Nat} {j : Int} {x : PyData} {R : Mu → Prop} {ds : List PyData} (hm : μ[k]? = some (.lst ds)) (e : ixN ds.length j = some m) : wrL (.cell k) (.dat (.int j)) (.dat x) μ R = R (μ.set k (.lst (ds.set m x))) := by
  simp only [e_wrL, hm, e, Option.some.injEq, exists_eq_left']
theorem atI_lt {ds : List PyData} {j : Int} (h0 : 0 ≤ j) (h : j < ds.length) : ∃ d, d ∈ ds ∧ atI ds j = some d := by
  have hj : j.toNat < ds.length := by omega
  refine ⟨ds[j.toNat], List.getElem_mem hj, ?_⟩
  have := atI_nat (List.getElem?_eq_getElem hj)
  rwa [Int.toNat_of_nonneg h0] at this
end
end DL
namespace DL
open PySem PySem.Spec PyProof.Rows L2 Evl PySem.W PySem.Calls PySem.SeqAt
section
variable {prog : Program} {w : World} {A : Around} {E : Value → Shared → Prop} {s : Shared}
end
end DL
namespace DL
open PySem PySem.Spec PyProof.Rows L2 Evl
open PySem.W (EachIs dataLe sortVals AllAlike Sortable)
open PySem.W (alike alikeAll dataLt)
section
variable {X : Cx} {K : PySem.W.Frag}
variable {e : Expr} {es : List Expr} {p pos : Pos} {k : Nat}
def OrdOk (d e : PyData) : Prop := alike d e = true ∧ d ≠ .none ∧ d.depth ≤ 64
def rOrdD (K : PySem.W.Frag) (f : PyData → PyData → Bool) : R2 := fun x y H Q => ∃ d e, Dv K H x d ∧ Dv K H y e ∧ OrdOk d e ∧ Q (.bl (f d e)) H
def ltB (d e : PyData) : Bool := dataLt d e
def gtB (d e : PyData) : Bool := dataLt e d
def leB (d e : PyData) : Bool := !dataLt e d
def geB (d e : PyData) : Bool := !dataLt d e
theorem min_room {A : Around} {d e : PyData} (hu : A.units + 128 < cLine) (h : d.depth ≤ 64) : A.units + min d.depth e.depth < cLine := by
  have := Nat.min_le_left d.depth e.depth
  omega
theorem op_ltD (hu : X.A.units + 128 < cLine) : OpR X (compareOp .Lt) (rOrdD X.K ltB) := by
  intro pins s σ H x y v u Q I rx ry h
  obtain ⟨d, e, hd, he, ⟨h1, h2, h3⟩, q⟩ := h
  obtain ⟨as, r1⟩ := Dv.reads I d x v hd rx
  obtain ⟨bs, r2⟩ := Dv.reads I e y u he ry
  exact PySem.W.lt_data r1 r2 h1 h2 (min_room hu h3) ⟨.bl _, H, I, rfl, q⟩
theorem op_gtD (hu : X.A.units + 128 < cLine) : OpR X (compareOp .Gt) (rOrdD X.K gtB) := by
  intro pins s σ H x y v u Q I rx ry h
  obtain ⟨d, e, hd, he, ⟨h1, h2, h3⟩, q⟩ := h
  obtain ⟨as, r1⟩ := Dv.reads I d x v hd rx
  obtain ⟨bs, r2⟩ := Dv.reads I e y u he ry
  exact PySem.W.gt_data r1 r2 h1 h2 (min_room hu h3) ⟨.bl _, H, I, rfl, q⟩
theorem op_leD (hu : X.A.units + 128 < cLine) : OpR X (compareOp .LtE) (rOrdD X.K leB) := by
  intro pins s σ H x y v u Q I rx ry h
  obtain ⟨d, e, hd, he, ⟨h1, h2, h3⟩, q⟩ := h
  obtain ⟨as, r1⟩ := Dv.reads I d x v hd rx
  obtain ⟨bs, r2⟩ := Dv.reads I e y u he ry
  exact PySem.W.le_data r1 r2 h1 h2 (min_room hu h3) ⟨.bl _, H, I, rfl, q⟩
theorem op_geD (hu : X.A.units + 128 < cLine) : OpR X (compareOp .GtE) (rOrdD X.K geB) := by
  intro pins s σ H x y v u Q I rx ry h
  obtain ⟨d, e, hd, he, ⟨h1, h2, h3⟩, q⟩ := h
  obtain ⟨as, r1⟩ := Dv.reads I d x v hd rx
  obtain ⟨bs, r2⟩ := Dv.reads I e y u he ry
  exact PySem.W.ge_data r1 r2 h1 h2 (min_room hu h3) ⟨.bl _, H, I, rfl, q⟩
def ordW (f : Int → Int → Bool) (g : Str → Str → Bool) (k : PyData → PyData → Bool) : DR2 := fun x y μ Q => match rd μ x, rd μ y with
  | some (.int i), some (.int j) => Q (.dat (.bool (f i j))) μ
  | some (.str i), some (.str j) => Q (.dat (.bool (g i j))) μ
  | some d, some e => OrdOk d e ∧ Q (.dat (.bool (k d e))) μ
  | _, _ => False
abbrev rOrdW (K : PySem.W.Frag) (f : Int → Int → Bool) (g : Str → Str → Bool) (k : PyData → PyData → Bool) : R2 := fun x y H Q => (rI0 (fun i j => .bl (f i j)) x y H Q ∨ ∃ i j, x = .str i ∧ y = .str j ∧ Q (.bl (g i j)) H) ∨ rOrdD K k x y H Q
theorem lr_ordW {f : Int → Int → Bool} {g : Str → Str → Bool} {k : PyData → PyData → Bool} : LR2 K (rOrdW K f g k) (ordW f g k) := fun x y μ Q' h W H vx vy r hx hy Q q => by
  unfold ordW at h
  split at h
  · rename_i i j e1 e2
    cases rd_int r hx e1
    cases rd_int r hy e2
    exact .inl (.inl ⟨i, j, rfl, rfl, q.bl r h⟩)
  · rename_i i j e1 e2
    cases rd_str r hx e1
    cases rd_str r hy e2
    exact .inl (.inr ⟨i, j, rfl, rfl, q.bl r h⟩)
  · rename_i d e _ _ e1 e2
    exact .inr ⟨d, e, rd_dp r hx e1, rd_dp r hy e2, h.1, q.bl r h.2⟩
  · exact h.elim
def wLt : DR2 := ordW (fun i j => decide (i < j)) ltS ltB
def wLe : DR2 := ordW (fun i j => decide (i ≤ j)) (fun i j => !ltS j i) leB
def wGt : DR2 := ordW (fun i j => decide (j < i)) (fun i j => ltS j i) gtB
def wGe : DR2 := ordW (fun i j => decide (j ≤ i)) (fun i j => !ltS i j) geB
theorem op_ltW (hu : X.A.units + 128 < cLine) : OpR X (compareOp .Lt) (rOrdW X.K (fun i j => decide (i < j)) ltS ltB) := op_ltV.or (op_ltD hu)
theorem op_leW (hu : X.A.units + 128 < cLine) : OpR X (compareOp .LtE) (rOrdW X.K (fun i j => decide (i ≤ j)) (fun i j => !ltS j i) leB) := op_leV.or (op_leD hu)
theorem op_gtW (hu : X.A.units + 128 < cLine) : OpR X (compareOp .Gt) (rOrdW X.K (fun i j => decide (j < i)) (fun i j => ltS j i) gtB) := op_gtV.or (op_gtD hu)
theorem op_geW (hu : X.A.units + 128 < cLine) : OpR X (compareOp .GtE) (rOrdW X.K (fun i j => decide (j ≤ i)) (fun i j => !ltS i j) geB) := op_geV.or (op_geD hu)
end
end DL
namespace DL
open PySem PySem.Spec PyProof.Rows L2 Evl
section
variable {κ : Type} [DecidableEq κ]
def valD (es : List (κ × PyData)) (k : κ) : Option PyData := (es.find? fun e => decide (e.1 = k)).map (·.2)
def putD (es : List (κ × PyData)) (k : κ) (d : PyData) : List (κ × PyData) :=
  if (es.any fun e => decide (e.1 = k)) = true then es.map (fun e => if e.1 = k then (e.1, d) else e) else es ++ [(k, d)]
variable {K : PySem.W.Frag} {H : Hp}
end
def keyA : PyData → Option Key
  | .int i => some (.inl i)
  | .str z => some (.inr z)
  | _ => none
def keysA : List PyData → Option (List Key)
  | [] => some []
  | d :: ds => match keyA d, keysA ds with
    | some k, some ks => some (k :: ks)
    | _, _ => none
section
variable {K : PySem.W.Frag} {H : Hp}
end
section
variable {X : Cx}
def there (o : Option V) (H : Hp) (Q : VK) : Prop := ∃ v, o = some v ∧ Q v H
section
variable {pins : List (Addr × Obj)} {σ : L2.St} {H : Hp} {s : Shared} {a : Addr} {y : V} {u : Value} {E : Value → Shared → Prop} {A : Around}
end
def dictAt (f : Option PyData → Mu → DQ → Prop) (x y : Sl) (μ : Mu) (Q : DQ) : Prop := match x with
  | .cell k => match μ[k]? with
    | some (.dct es) => ∃ d key, rd μ y = some d ∧ keyA d = some key ∧ f (valD es key) μ Q
    | some (.dctT es) => ∃ ds ks, rd μ y = some (.tuple ds) ∧ keysA ds = some ks ∧ f (valD es ks) μ Q
    | _ => False
  | _ => False
variable {K : PySem.W.Frag}
def isinD (f : Bool → Bool) (o : Option PyData) (μ : Mu) (Q : DQ) : Prop := Q (.dat (.bool (f o.isSome))) μ
variable {o i e value : Expr} {pos pos' tpos : Pos} {td ty tv : TE} {k : Nat}
def dDct : DE := fun _ μ Q => Q (.cell μ.length) (μ ++ [.dct []])
def dDctT : DE := fun _ μ Q => Q (.cell μ.length) (μ ++ [.dctT []])
end
end DL
namespace DL
open PySem PySem.Spec PyProof.Rows L2 Evl
open PySem.W (alike alikeAll dataLt)
section
variable {X : Cx} {K : PySem.W.Frag} {o i e value : Expr} {pos pos' tpos : Pos} {td ty tv : TE} {k : Nat}
def putK1 (x y v : Sl) (μ : Mu) (Q : Mu → Prop) : Prop := match x, v with
  | .cell k, .dat d => match μ[k]? with
    | some (.dct es) => ∃ z key, rd μ y = some z ∧ keyA z = some key ∧ es.length < sizeLine ∧ Q (μ.set k (.dct (putD es key d)))
    | _ => False
  | _, _ => False
def dDPut (od id vd : DE) : DS := fun D ρ μ => vd ρ μ fun v μ1 => od ρ μ1 fun x μ2 => id ρ μ2 fun y μ3 => putK1 x y v μ3 (D.nx ρ)
def putKT (x v : Sl) (ss : List Sl) (μ : Mu) (Q : Mu → Prop) : Prop := match x, v with
  | .cell k, .dat d => match μ[k]?, datsOf ss with
    | some (.dctT es), some (false, ds) => ∃ ks, keysA ds = some ks ∧ ds.length ≤ sizeLine ∧ es.length < sizeLine ∧ Q (μ.set k (.dctT (putD es ks d)))
    | _, _ => False
  | _, _ => False
def dDPutT (od : DE) (ad : DA) (vd : DE) : DS := fun D ρ μ => vd ρ μ fun v μ1 => od ρ μ1 fun x μ2 => ad ρ μ2 fun ss μ3 => putKT x v ss μ3 (D.nx ρ)
def wIn (f : Bool → Bool) : DR2 := fun x y μ Q => match rd μ x, rd μ y with
  | some d, some (.list ds) => (SeqAt.shaped d = true ∧ SeqAt.shaped (.list ds) = true) ∧ Q (.dat (.bool (f (ds.any fun z => PyData.eqv z d)))) μ
  | some d, some (.tuple ds) => (SeqAt.shaped d = true ∧ SeqAt.shaped (.tuple ds) = true) ∧ Q (.dat (.bool (f (ds.any fun z => PyData.eqv z d)))) μ
  | some (.str z), some (.str t) => ∃ c, z = ⟨#[c]⟩ ∧ Q (.dat (.bool (f (decide (c ∈ t.cps.toList))))) μ
  | _, none => dictAt (isinD f) y x μ Q
  | _, _ => False
variable {es : List Expr} {p : Pos}
def Wd.tup (W : Wd) (b : Addr) (xs : List V) : Wd := ⟨upd W.G b (.tup xs), upd W.F b (.tup xs), W.ad⟩
end
end DL
namespace PySem.AutoSeq1
end PySem.AutoSeq1
namespace DL
open PySem PySem.Spec PyProof.Rows L2 Evl
open PySem.W (alike alikeAll dataLt minD maxD AlikeAll)
section
variable {X : Cx} {K : PySem.W.Frag} {o e : Expr} {es : List Expr} {apos cpos p pos : Pos} {od ed : DE}
def dMt0 (m : DM) (od : DE) : DE := fun ρ μ Q => od ρ μ fun x μ1 => m x [] μ1 Q
theorem DvAll.erase {H : Hp} : ∀ {vs : List V} {ds : List PyData} (i : Nat), DvAll K H vs ds → DvAll K H (vs.eraseIdx i) (ds.eraseIdx i)
  | _, _, _, .nil => .nil
  | _, _, 0, .cons _ t => t
  | _, _, i + 1, .cons a t => .cons a (DvAll.erase i t)
variable {k : Nat}
end
end DL
namespace DL
open PySem PySem.Spec PyProof.Rows L2 Evl
open PySem.W (alike alikeAll dataLt minD maxD AlikeAll AllAlike Sortable dataLe)
section
variable {X : Cx} {K : PySem.W.Frag} {a b : Expr} {p pos p2 pos2 : Pos} {da db : DE}
end
def dPar3 (i j l : Nat) (a : DA) : DS := fun D ρ μ => a ρ μ fun ss μ1 => match ss with
  | [s, t, u] => D.nx (((ρ.set i (some s)).set j (some t)).set l (some u)) μ1
  | _ => False
section
variable {X : Cx}
end
section
variable {ρ : Rho} {μ : Mu} {Q : DQ} {D : DEnds} {a b c d e : DE} {t u : DT} {as : DA} {i j : Int} {x y : PyData} {ds es : List PyData}
@[simp ↓] theorem e_dPar3 {i j l : Nat} : dPar3 i j l as D ρ μ = as ρ μ fun ss μ1 => match ss with | [s, t, u] => D.nx (((ρ.set i (some s)).set j (some t)).set l (some u)) μ1 | _ => False := rfl
@[simp ↓] theorem e_dDct : dDct ρ μ Q = Q (.cell μ.length) (μ ++ [.dct []]) := rfl
@[simp ↓] theorem e_dDctT : dDctT ρ μ Q = Q (.cell μ.length) (μ ++ [.dctT []]) := rfl
@[simp ↓] theorem e_dMt0 {m : DM} : dMt0 m a ρ μ Q = a ρ μ fun x μ1 => m x [] μ1 Q := rfl
@[simp ↓] theorem e_dMtL {m : DM} : dMtL m a as ρ μ Q = a ρ μ fun x μ1 => (∃ ds, rd μ1 x = some (.list ds)) ∧ as ρ μ1 fun ss μ2 => m x ss μ2 Q := rfl
@[simp ↓] theorem e_dDPut : dDPut a b c D ρ μ = c ρ μ fun v μ1 => a ρ μ1 fun x μ2 => b ρ μ2 fun y μ3 => putK1 x y v μ3 (D.nx ρ) := rfl
@[simp ↓] theorem e_dDPutT : dDPutT a as c D ρ μ = c ρ μ fun v μ1 => a ρ μ1 fun x μ2 => as ρ μ2 fun ss μ3 => putKT x v ss μ3 (D.nx ρ) := rfl
@[simp ↓] theorem w_ltI : wLt (.dat (.int i)) (.dat (.int j)) μ Q = Q (.dat (.bool (decide (i < j)))) μ := rfl
@[simp ↓] theorem w_leI : wLe (.dat (.int i)) (.dat (.int j)) μ Q = Q (.dat (.bool (decide (i ≤ j)))) μ := rfl
@[simp ↓] theorem w_gtI : wGt (.dat (.int i)) (.dat (.int j)) μ Q = Q (.dat (.bool (decide (j < i)))) μ := rfl
@[simp ↓] theorem w_geI : wGe (.dat (.int i)) (.dat (.int j)) μ Q = Q (.dat (.bool (decide (j ≤ i)))) μ := rfl
theorem w_inL {f : Bool → Bool} : wIn f (.dat x) (.dat (.list ds)) μ Q = ((SeqAt.shaped x = true ∧ SeqAt.shaped (.list ds) = true) ∧ Q (.dat (.bool (f (ds.any fun z => PyData.eqv z x)))) μ) := rfl
theorem w_inT {f : Bool → Bool} : wIn f (.dat x) (.dat (.tuple ds)) μ Q = ((SeqAt.shaped x = true ∧ SeqAt.shaped (.tuple ds) = true) ∧ Q (.dat (.bool (f (ds.any fun z => PyData.eqv z x)))) μ) := rfl
end
end DL
namespace DL
open PySem PySem.Spec PyProof.Rows L2 Evl
def rMulC : DR2 := fun x y μ Q => match x, rd μ y with
  | .cell k, some (.int n) => match μ[k]? with
    | some (.lst ds) => (0 ≤ n ∧ n ≤ 1000 ∧ ds.length ≤ 1000) ∧ Q (.dat (.list (List.replicate n.toNat ds).flatten)) μ
    | _ => False
  | _, _ => False
section
variable {X : Cx} {K : PySem.W.Frag}
theorem lr_mulC : LR2 K rRep rMulC := fun x y μ Q' h W H vx vy r hx hy Q q => by
  unfold rMulC at h
  split at h
  · rename_i k n e2
    split at h
    · rename_i ds e1
      obtain ⟨⟨h1, h2, h3⟩, h4⟩ := h
      obtain ⟨a, xs, rfl, ha, hH, hd⟩ := tyV_cell r hx e1
      cases rd_int r hy e2
      refine ⟨a, n, xs, rfl, rfl, hH, by omega, by omega, ?_, fun p hp => q.newL (b := false) r (dpAll_rep hd n.toNat) h4 p hp⟩
      rw [hd.length]
      exact Nat.le_trans (Nat.mul_le_mul h3 (show n.toNat ≤ 1000 by omega)) (by decide)
    · exact h.elim
  · exact h.elim
theorem pd_mulC {a b : Expr} {da db : DE} {pos : Pos} (ha : PD X a da) (hb : PD X b db) : PD X (.BinOp a .Mult b pos) (dOp rMulC da db) := pd_op op_rep lr_mulC ha hb
end
end DL
namespace DL
open PySem PySem.Spec PyProof.Rows L2 Evl
section
variable {X : Cx} {K : PySem.W.Frag}
variable {kx vx tg iter : Expr} {ifs : List Expr} {scope : Scope} {own : List (Str × Nat)} {pos : Pos} {i : DI} {g : DG} {t : DT} {ek ev : DE}
variable {o e : Expr} {apos cpos : Pos} {od ed : DE} {k : Nat}
end
end DL
namespace DL
open PySem PySem.Spec PyProof.Rows L2 Evl
end DL
namespace DL
open PySem PySem.Spec PyProof.Rows L2 Evl
section
variable {X : Cx} {K : PySem.W.Frag} {p pos : Pos}
end
end DL
namespace DL
open PySem PySem.Spec PyProof.Rows L2 Evl PySem.W
section
variable {prog : Program} {w : World} {A : Around} {E : Value → Shared → Prop} {s : Shared}
end
section
variable {X : Cx}
variable {e : Expr} {es : List Expr} {p pos : Pos} {k : Nat}
end
end DL
namespace DL
open PySem PySem.Spec PyProof.Rows L2 Evl
open PySem.W (alike alikeAll dataLt)
section
variable {X : Cx} {K : PySem.W.Frag} {pos : Pos}
def dDctD : DE := fun _ μ Q => Q (.dat (.dict [])) μ
theorem pd_dctD : PD X (.Dict [] [] pos) dDctD :=
  ⟨_, pe_dnewK, fun ρ μ Q' h W σ H he r Q q p hp => q (.ref p) (.dat (.dict [])) (W.new p (.dK [])) _ μ (Le.new r hp) (Rep.new r hp) (show Dv X.K (upd W.G p (.dK [])) _ _ from .emp upd_same) h⟩
end
end DL
namespace DL
open PySem PySem.Spec PyProof.Rows L2 Evl
def itemsOf : List Sl → Option (List (Nat ⊕ PyData))
  | [] => some []
  | .cell k :: r => (itemsOf r).map (.inl k :: ·)
  | .dat d :: r => (itemsOf r).map (.inr d :: ·)
  | _ :: _ => none
def itS : Nat ⊕ PyData → Sl
  | .inl k => .cell k
  | .inr d => .dat d
section
variable {K : PySem.W.Frag} {W : Wd} {H : Hp} {μ : Mu}
theorem itS_ok {v : V} {e : Nat ⊕ PyData} : SlOk K W v (itS e) ↔ ItOk1 K W v e := by cases e <;> exact Iff.rfl
theorem RefsAll.cons {xs : List V} {es : List (Nat ⊕ PyData)} {e : Nat ⊕ PyData} {u : V} (h : RefsAll K W xs es) (q : ItOk1 K W u e) : RefsAll K W (u :: xs) (e :: es) := by
  refine ⟨by simp [h.1], fun i f z => ?_⟩
  cases i with
  | zero => simp at z; subst z; exact ⟨u, by simp, q⟩
  | succ i => obtain ⟨b, z1, z2⟩ := h.2 i f (by simpa using z); exact ⟨b, by simpa using z1, z2⟩
theorem RefsAll.snoc {xs : List V} {es : List (Nat ⊕ PyData)} {e : Nat ⊕ PyData} {u : V} (h : RefsAll K W xs es) (q : ItOk1 K W u e) : RefsAll K W (xs ++ [u]) (es ++ [e]) := by
  refine ⟨by simp [h.1], fun i f z => ?_⟩
  by_cases c : i < es.length
  · rw [List.getElem?_append_left c] at z
    obtain ⟨b, z1, z2⟩ := h.2 i f z
    exact ⟨b, by rw [List.getElem?_append_left (by rw [h.1]; exact c)]; exact z1, z2⟩
  · rw [List.getElem?_append_right (by omega)] at z
    have hz := (List.getElem?_eq_some_iff.mp z).1
    have e0 : i - es.length = 0 := by simpa using hz
    rw [e0] at z
    have : e = f := by simpa using z
    subst this
    refine ⟨u, ?_, q⟩
    rw [List.getElem?_append_right (by rw [h.1]; omega), h.1, e0]
    rfl
theorem itemsOf_ok : ∀ {vs : List V} {ss : List Sl} {es : List (Nat ⊕ PyData)}, SlAll K W vs ss → itemsOf ss = some es → RefsAll K W vs es
  | _, _, _, .nil, e => by simp only [itemsOf, Option.some.injEq] at e; subst e; exact ⟨rfl, fun i k z => by simp at z⟩
  | _, _, _, .cons (s := s) a t, e => by
    cases s with
    | cell k =>
      simp only [itemsOf, Option.map_eq_some_iff] at e
      obtain ⟨r, e1, rfl⟩ := e
      exact (itemsOf_ok t e1).cons (show ItOk1 K W _ (.inl k) from a)
    | dat d =>
      simp only [itemsOf, Option.map_eq_some_iff] at e
      obtain ⟨r, e1, rfl⟩ := e
      exact (itemsOf_ok t e1).cons (show ItOk1 K W _ (.inr d) from a)
    | _ => simp [itemsOf] at e
theorem slOk_refs {p : Addr} {xs : List V} {es : List (Nat ⊕ PyData)} (h : RefsAll K W xs es) (hp : W.F p = some (.lst xs)) : SlOk K W (.ref p) (.raw es) := ⟨p, xs, rfl, hp, h⟩
theorem rd_refs {v : V} {es : List (Nat ⊕ PyData)} (r : Rep K W H μ) (h : SlOk K W v (.raw es)) : ∃ p xs, v = .ref p ∧ SqL K H p xs ∧ RefsAll K W xs es := by
  obtain ⟨p, xs, h1, h2, h3⟩ := h
  exact ⟨p, xs, h1, .inl (.inl (r.fh _ _ h2)), h3⟩
def Wd.newF (W : Wd) (p : Addr) (o : HO) : Wd := ⟨W.G, upd W.F p o, W.ad⟩
theorem Le.newF (r : Rep K W H μ) {p : Addr} {o : HO} (hp : H p = none) : Le W (W.newF p o) := by
  obtain ⟨h1, h2⟩ := r.fresh hp
  exact ⟨Ex.refl _, Ex.new h1, fun b _ hg _ => hg, fun _ _ h => h⟩
theorem Rep.newF (r : Rep K W H μ) {p : Addr} {o : HO} (hp : H p = none) : Rep K (W.newF p o) (upd H p o) μ := by
  obtain ⟨h1, h2⟩ := r.fresh hp
  refine ⟨fun a u h => ?_, ex_upd r.fh, r.len, r.nd, fun k a c ha hc => ?_, r.tab⟩
  · show upd W.F p o a = some u
    rw [upd_ne (show a ≠ p from fun z => by subst z; replace h : W.G _ = some u := h; rw [h2] at h; cases h)]
    exact r.gf a u h
  · obtain ⟨q1, o', q2, q3⟩ := r.cell k a c ha hc
    have ne : a ≠ p := fun z => by rw [z, hp] at q2; cases q2
    refine ⟨?_, o', ?_, q3⟩
    · show upd W.F p o a = none
      rw [upd_ne ne]; exact q1
    · rw [upd_ne ne]; exact q2
theorem Rep.chF (r : Rep K W H μ) {p : Addr} {o o' : HO} (hF : W.F p = some o) (hG : W.G p = none) : Rep K (W.newF p o') (upd H p o') μ := by
  refine ⟨fun a u h => ?_, ex_upd r.fh, r.len, r.nd, fun k a c ha hc => ?_, r.tab⟩
  · show upd W.F p o' a = some u
    rw [upd_ne (show a ≠ p from fun z => by subst z; replace h : W.G _ = some u := h; rw [hG] at h; cases h)]
    exact r.gf a u h
  · obtain ⟨q1, o1, q2, q3⟩ := r.cell k a c ha hc
    have ne : a ≠ p := fun z => by rw [z, hF] at q1; cases q1
    refine ⟨?_, o1, ?_, q3⟩
    · show upd W.F p o' a = none
      rw [upd_ne ne]; exact q1
    · rw [upd_ne ne]; exact q2
theorem Le.chF {W2 : Wd} (r : Rep K W H μ) {p : Addr} {xs : List V} {o' : HO} (hp : H p = none) (l : Le (W.newF p (.lst xs)) W2) : Le W (W2.newF p o') ∧ W2.F p = some (.lst xs) ∧ W2.G p = none := by
  obtain ⟨h1, h2⟩ := r.fresh hp
  have e1 : (W.newF p (.lst xs)).F p = some (.lst xs) := upd_same
  have e2 := l.f _ _ e1
  have e3 : W2.G p = none := l.n p (by rw [e1]; exact fun z => by cases z) h2 (fun ys z => by rw [e1] at z; cases z)
  refine ⟨⟨l.g, fun b u hb => ?_, fun b hb hg ht => ?_, l.a⟩, e2, e3⟩
  · have ne : b ≠ p := fun z => by subst z; rw [h1] at hb; cases hb
    show upd W2.F p o' b = some u
    rw [upd_ne ne]
    exact l.f b u (by show upd W.F p _ b = some u; rw [upd_ne ne]; exact hb)
  · have ne : b ≠ p := fun z => hb (z ▸ h1)
    have e : (W.newF p (.lst xs)).F b = W.F b := upd_ne ne
    exact l.n b (by rw [e]; exact hb) hg (fun ys => by rw [e]; exact ht ys)
end
def dLstR (a : DA) : DE := fun ρ μ Q => a ρ μ fun ss μ1 => ∃ es, itemsOf ss = some es ∧ es.length ≤ sizeLine ∧ Q (.raw es) μ1
section
variable {X : Cx} {K : PySem.W.Frag}
theorem pd_lstR {es : List Expr} {a : DA} {pos : Pos} (h : PDA X es a) : PD X (.List es pos) (dLstR a) := by
  obtain ⟨t, p, l⟩ := h
  refine ⟨_, pe_lst p, fun ρ μ Q' hd W σ H he rp Q q => l ρ μ _ hd W σ H he rp _ fun vs ss W1 H1 μ1 l1 r1 hs h1 => ?_⟩
  obtain ⟨its, hi, hl, h1⟩ := h1
  have ra := itemsOf_ok hs hi
  refine ⟨by rw [ra.1]; exact hl, fun p hp => ?_⟩
  have lF := Le.newF r1 (o := .lst vs) hp
  exact q _ (.raw its) _ _ μ1 (l1.trans lF) (r1.newF hp) (slOk_refs (ra.le lF) upd_same) h1
def iRefs (d : DE) : DI := fun ρ μ R => d ρ μ fun x μ1 => ∃ es, x = .raw es ∧ R (es.map itS) (fun _ => True) μ1
theorem li_refs {tl : TE} {d : DE} (h : LE K tl d) : LI K (iAny K tl) (iRefs d) := fun ρ μ R' hd W σ H he r R q => h ρ μ _ hd W σ H he r _ fun v x W1 H1 μ1 le1 r1 hs h1 => by
  obtain ⟨es, rfl, h1⟩ := h1
  obtain ⟨p, xs, rfl, hl, hi⟩ := rd_refs r1 hs
  refine ⟨p, rfl, .inl ⟨⟨xs, hl⟩, q _ _ _ W1 H1 μ1 le1 r1 (fun W2 H2 μ2 le2 r2 hC i => ?_) h1⟩⟩
  obtain ⟨p', ys, ea, hl2, hi2⟩ := rd_refs r2 (hs.mono le2)
  cases ea
  refine ⟨fun hle => ⟨ys, hl2, by rw [hi2.1]; simpa using hle⟩, fun s es' => ?_⟩
  rw [List.getElem?_map] at es'
  cases ed : es[i]? with
  | none => rw [ed] at es'; cases es'
  | some e =>
    rw [ed] at es'
    cases es'
    obtain ⟨u, hw, hok⟩ := hi2.2 i e ed
    refine ⟨⟨ys, u, hl2, hw⟩, fun y H' hy => ?_⟩
    obtain ⟨rfl, fy⟩ := hy
    have := (fy _ hl2).symm.trans hw
    cases this
    exact ⟨W2, Le.refl W2, r2, itS_ok.mpr hok⟩
theorem pdi_refs {tg l : Expr} {d : DE} (h : PD X l d) : PDI X tg l (iRefs d) := by
  obtain ⟨t, p, lh⟩ := h
  exact ⟨_, pi_any p, li_refs lh⟩
end
end DL
namespace DL
open PySem PySem.Spec PyProof.Rows L2 Evl
section
variable {K : PySem.W.Frag} {W : Wd} {H : Hp} {μ : Mu}
end
section
variable {X : Cx}
end
end DL
namespace DL
open PySem PySem.Spec PyProof.Rows L2 Evl
section
variable {K : PySem.W.Frag} {W W0 : Wd} {H : Hp} {μ : Mu}
def Wd.rest (W : Wd) (H : Hp) (n : Nat) : Wd := ⟨W.G, fun a => if a ∈ W.ad.drop n then H a else W.F a, W.ad.take n⟩
theorem mem_own {l : List Addr} {n : Nat} {a : Addr} : a ∈ l.drop n ↔ ∃ k, n ≤ k ∧ l[k]? = some a := by
  rw [List.mem_iff_getElem?]
  constructor
  · rintro ⟨i, h⟩
    rw [List.getElem?_drop] at h
    exact ⟨n + i, Nat.le_add_right .., h⟩
  · rintro ⟨k, hk, h⟩
    refine ⟨k - n, ?_⟩
    rw [List.getElem?_drop, Nat.add_sub_cancel' hk]
    exact h
theorem rest_some (r : Rep K W H μ) {n : Nat} {a : Addr} {o : HO} (h : W.F a = some o) : (W.rest H n).F a = some o := by
  show (if a ∈ W.ad.drop n then H a else W.F a) = _
  split
  · exact r.fh a o h
  · exact h
theorem Rep.rest (r : Rep K W H μ) (n : Nat) : Rep K (W.rest H n) H (μ.take n) := by
  refine ⟨fun a o h => rest_some r (r.gf a o h), fun a o h => ?_, by show (W.ad.take n).length = _; rw [List.length_take, List.length_take, r.len], fun i j a hi hj => r.nd i j a (take_some hi).1 (take_some hj).1, fun k a c ha hc => ?_, fun k P q h => by
    obtain ⟨h1, h2⟩ := take_some h
    show (W.ad.take n)[k]? = some P
    rw [List.getElem?_take_of_lt h2]
    exact r.tab k P q h1⟩
  · replace h : (if a ∈ W.ad.drop n then H a else W.F a) = some o := h
    split at h
    · exact h
    · exact r.fh a o h
  · obtain ⟨ha1, hkn⟩ := take_some ha
    obtain ⟨z1, o, z2, z3⟩ := r.cell k a c ha1 (take_some hc).1
    refine ⟨?_, o, z2, z3⟩
    show (if a ∈ W.ad.drop n then H a else W.F a) = none
    rw [if_neg]
    · exact z1
    · intro z
      obtain ⟨j, hj, hja⟩ := mem_own.mp z
      have := r.nd k j a ha1 hja
      omega
theorem Le.rest (l : Le W0 W) (r : Rep K W H μ) : Le W0 (W.rest H W0.ad.length) :=
  ⟨l.g, fun a o h => rest_some r (l.f a o h), l.n, fun k x h => by
    have hk : k < W0.ad.length := (List.getElem?_eq_some_iff.mp h).1
    show (W.ad.take W0.ad.length)[k]? = some x
    rw [List.getElem?_take_of_lt hk]
    exact l.a k x h⟩
end
section
variable {P : Program} {w : World} {K : PySem.W.Frag} {mg : Str → Option Value} {base : Heap}
end
section
variable {X : Cx} {K : PySem.W.Frag}
variable {elt tg iter : Expr} {ifs : List Expr} {scope : Scope} {own : List (Str × Nat)} {pos : Pos} {i : DI} {g : DG} {t : DT} {e : DE}
end
end DL
namespace DL
open PySem PySem.Spec PyProof.Rows L2 Evl
section
variable {prog : Program} {w : World} {A : Around} {E : Value → Shared → Prop} {s : Shared} {a b : Addr} {oa ob : Obj} {es es2 : Array DictEntry} {ep ep2 : Nat} {Q : Value → Shared → Prop}
end
end DL
namespace DLZ
open PySem PySem.Spec PyProof.Rows
open PySem.Sem (wp)
section
variable {prog : Program} {w : World} {A : Around} {E : Value → Shared → Prop} {s : Shared}
def ZSt (h : Heap) (z TI TO i1 i2 l1 l2 : Addr) (k : Nat) : Prop :=
  IsPair h TI (.ref i1) (.ref i2) ∧ h.IsTupleIter i1 l1 k ∧ h.IsTupleIter i2 l2 k ∧
    ((IsZip h z TI TO .none ∧ ∃ a b, IsPair h TO a b) ∨ ∃ T f oT, IsZipHeld h z TI TO T f ∧ h.get? T = some oT ∧ T ≠ z ∧ T ≠ i1 ∧ T ≠ i2)
theorem ZSt.at {h h' : Heap} {z TI TO i1 i2 l1 l2 : Addr} {k : Nat} (st : ZSt h z TI TO i1 i2 l1 l2 k) (k' : ∀ b o, h.get? b = some o → b = z ∨ b = TI ∨ b = TO ∨ b = i1 ∨ b = i2 → h'.get? b = some o) (kT : ∀ b o, h.get? b = some o → ∃ o', h'.get? b = some o') : ZSt h' z TI TO i1 i2 l1 l2 k := by
  obtain ⟨p, a1, a2, q⟩ := st
  refine ⟨k' _ _ p (by simp), a1.at fun o e => k' _ _ e (by simp), a2.at fun o e => k' _ _ e (by simp), ?_⟩
  rcases q with ⟨q, a, b, q'⟩ | ⟨T, f, oT, q, q', n1, n2, n3⟩
  · exact .inl ⟨k' _ _ q (by simp), a, b, k' _ _ q' (by simp)⟩
  · obtain ⟨o', e⟩ := kT _ _ q'
    exact .inr ⟨T, f, o', k' _ _ q (by simp), e, n1, n2, n3⟩
end
end DLZ
namespace DLZ
open PySem PySem.Spec PyProof.Rows L2 Evl DL
open PySem.Sem (wp)
inductive TN (S : Addr) (xs ys : List V) (H0 : Hp) : Nat → List Addr → Hp → Prop
  | nil : TN S xs ys H0 0 [] H0
  | snoc {i : Nat} {bs : List Addr} {H : Hp} {T : Addr} {x y : V} : TN S xs ys H0 i bs H → xs[i]? = some x → ys[i]? = some y → H T = none → T ≠ S → TN S xs ys H0 (i + 1) (bs ++ [T]) (upd H T (.tup [x, y]))
theorem TN.length {S : Addr} {xs ys : List V} {H0 H : Hp} {i : Nat} {bs : List Addr} (h : TN S xs ys H0 i bs H) : bs.length = i := by
  induction h with
  | nil => rfl
  | snoc _ _ _ _ _ ih => rw [List.length_append, ih]; rfl
section
variable {X : Cx} {pins : List (Addr × Obj)} {σ : L2.St}
end
end DLZ
namespace DL
open PySem PySem.Spec PyProof.Rows L2 Evl
section
variable {X : Cx}
def fSumLT : DRA := arg1 fun d _ μ Q => match d with
  | .list ds => match intsOf ds with
    | some is => Q (.dat (.int is.sum)) μ
    | none => False
  | .tuple ds => match intsOf ds with
    | some is => Q (.dat (.int is.sum)) μ
    | none => False
  | _ => False
variable {e : Expr} {es : List Expr} {p pos : Pos}
theorem ints_of_map : ∀ ns : List Int, intsOf (ns.map PyData.int) = some ns
  | [] => rfl
  | b :: r => by simp [intsOf, ints_of_map r]
@[simp ↓] theorem o_sumL {ns : List Int} {μ : Mu} {Q : DQ} : fSumLT [.dat (.list (ns.map PyData.int))] μ Q = Q (.dat (.int ns.sum)) μ := by simp [fSumLT, arg1, ints_of_map]
@[simp ↓] theorem o_sumT {ns : List Int} {μ : Mu} {Q : DQ} : fSumLT [.dat (.tuple (ns.map PyData.int))] μ Q = Q (.dat (.int ns.sum)) μ := by simp [fSumLT, arg1, ints_of_map]
end
end DL
namespace DL
open PySem PySem.Spec PyProof.Rows L2 Evl
structure ErrT (K : PySem.W.Frag) (mg : Str → Option Value) (x f : Str) (st : Stmt) (q : Str) (C fI : Addr) : Prop where
  gC : mg x = some (.ref C)
  oex : OexC K C
  xfc : XfC K C
  noF : PySem.W.findIn K (.ref C) f = some none
  iC : PySem.W.findIn K (.ref C) "__init__" = some (some (.ref fI))
  tI : PySem.W.typeIn K (.ref fI) = some (.type "function")
  te : PySem.W.exmOne K (.ref C) (.ref C) = some true
  fn : ∃ fd, Fun K "__init__" q st fI fd
def spInit (K : PySem.W.Frag) (f : Str) (C : Addr) : Sp := fun vs H Q _ => ∃ (a : Addr) (y : V), vs = [.ref a, y] ∧ H a = some (exo a C none) ∧ ∀ dx, H dx = none → dx ≠ a → Q .non (upd (upd H dx (exd dx [(f, y)])) a (exo a C (some dx)))
section
variable {P : Program} {w : World} {K : PySem.W.Frag} {mg : Str → Option Value} {base : Heap} {x f q : Str} {st : Stmt} {C fI : Addr}
abbrev DFX := List Sl → Mu → DQ → DQ → Prop
def SpX (K : PySem.W.Frag) (n : Nat) (f : Str) (C : Addr) (φ : DFX) : Sp := fun vs H Q E => ∃ W ss μ Q' R', vs.length = n ∧ SlAll K W vs ss ∧ Rep K W H μ ∧ φ ss μ Q' R' ∧ VOk K W Q' Q ∧
  ∀ v s W' H' μ' dx, Le W W' → Rep K W' H' μ' → SlOk K W' v s → H' dx = some (.xd [(f, v)]) → R' s μ' → E (.ref C) (some dx) H'
theorem Rep.ex {W : Wd} {H H' : Hp} {μ : Mu} (r : Rep K W H μ) (e : Ex H H') : Rep K W H' μ :=
  ⟨r.gf, r.fh.trans e, r.len, r.nd, fun k a c ha hc => let ⟨z1, o, z2, z3⟩ := r.cell k a c ha hc; ⟨z1, o, e a o z2, z3⟩, r.tab⟩
end
section
variable {X : Cx} {x f q : Str} {st : Stmt} {C fI : Addr}
theorem mk_err {K : PySem.W.Frag} {y : V} {H1 : Hp} {Q : XK} (h : ∀ dx H', Ex H1 H' → H' dx = some (.xd [(f, y)]) → Q (.ref C) (some dx) H') : ([y] : List V).length ≤ 1000 ∧ ∀ a, H1 a = none → spInit K f C (.ref a :: ([y] ++ [])) (upd H1 a (exo a C none))
    (fun v H2 => v = .non ∧ ∃ (d : Addr) (fs : List (Str × V)), H2 a = some (exo a C (some d)) ∧ H2 d = some (exd d fs) ∧ H1 d = none ∧ Q (.ref C) (some d) (upd (del H2 a) d (.xd fs))) (fun _ _ _ => False) := by
  refine ⟨by simp, fun a ha => ⟨a, y, rfl, upd_same, fun dx h1 h2 => ⟨rfl, dx, [(f, y)], upd_same, ?_, ?_, ?_⟩⟩⟩
  · rw [upd_ne h2, upd_same]
  · rw [upd_ne h2] at h1; exact h1
  · have hd : H1 dx = none := by rw [upd_ne h2] at h1; exact h1
    refine h dx _ (fun b o e => ?_) upd_same
    have nb : b ≠ dx := fun z => by subst z; rw [hd] at e; cases e
    have na : b ≠ a := fun z => by subst z; rw [ha] at e; cases e
    rw [upd_ne nb, del_ne na, upd_ne na, upd_ne nb, upd_ne na]
    exact e
variable {CX : CXT} {k : Nat} {g : Addr} {fd : FuncData} {ps : List Str} {sp : Sp} {E : L2.St → XK} {y : Str} {p pos : Pos} {e : Expr} {es : List Expr} {t : TA}
theorem pe_callSG (F : FnG X.prog X.w X.K X.mg X.base CX k g fd ps sp) (hr : RoomG k X.A) (hg : Gl X y) (hm : X.mg y = some (.ref g)) (hk : PySem.W.keepIn X.K (.ref g) = true) (hb : Binds X.K fd ps []) (hx : ∀ σ, PassesAt CX X σ (E σ))
    (ha : PA X (e :: es) t) (hdb : (y == ("__debug__" : Str)) = false := by decide) (he : starEach (e :: es) X.env = (false, eval e X.env) :: starEach es X.env := by rfl) (hpl : (backTo pos (starEach es X.env)).any (·.1) = false := by rfl) :
    PE X (.Call (.Name y p) (e :: es) [] pos) (tCallS sp E t) := by
  refine ⟨fun pins s σ H Q I h => wpAny_Call_Name_kw (ld_glob I hg hm ?_ hdb)⟩
  refine PySem.W.callWith_K (h₀ := X.base) I.ok.mod.kin hk (thn (ha.run pos pins s σ H _ I h) fun us s1 z => ?_) he hpl
  obtain ⟨vs, H1, I1, r, q⟩ := z
  have hl : us.length = ps.length := by rw [← r.length]; exact F.len _ _ _ _ q
  have b := hb s1 us I1.kIn (by rw [List.append_nil]; exact hl)
  rw [List.append_nil] at b
  refine ⟨I1.kIn, wpAny_call (codeAny_mono (F.run X.A X.stack s1 H1 ⟨us, []⟩ us vs Q (E σ) hr I1.env0 b r q) fun r s' hq => ?_)⟩
  cases r with
  | error e => exact hx σ pins H1 s1 e s' I1 hq
  | ok fl => cases fl <;> first | exact I1.after hq | exact False.elim hq
theorem EnvOk.none {K : PySem.W.Frag} {W : Wd} {σ : L2.St} {ρ : Rho} (h : EnvOk K W σ ρ) (i : Nat) (o : Option V) : EnvOk K W (σ.set i o) (ρ.set i Option.none) := by
  refine ⟨by simp [h.len], fun j t e => ?_⟩
  by_cases hij : i = j
  · subst hij
    by_cases hl : i < ρ.length
    · rw [List.getElem?_set_self hl] at e; cases e
    · rw [List.getElem?_eq_none (by rw [List.length_set]; omega)] at e; cases e
  · rw [List.getElem?_set_ne hij] at e
    obtain ⟨w, h1, h2⟩ := h.get j t e
    exact ⟨w, by rw [List.getElem?_set_ne hij]; exact h1, h2⟩
structure OwnX (P : Program) (w : World) (K : PySem.W.Frag) (mg : Str → Option Value) (base : Heap) (y : Str) (st : Stmt) (ps : List Str) (k n : Nat) (f : Str) (C : Addr) (φ : DFX) : Prop where
  ex : ∃ g fd, Fun K y y st g fd ∧ FnG P w K mg base (L2.CX P w) k g fd ps (SpX K n f C φ) ∧ mg y = some (.ref g)
end
section
variable {K : PySem.W.Frag} {h : Heap} {mg : Str → Option Value} {x f q : Str} {st : Stmt} {C fI : Addr} {Z : Prop}
theorem err_of (X : K.In h) (G : h.Ns mainGlobals mg) {nm qn : Str} {N : Addr} {bs bm : List Value} {sn : List Str} {sub : List Value} {ab : Bool} {col : Option Bool} {dd : Option Addr} {m0 m1 m2 m3 m5 : Option Value} {od an : Option Addr} {sl : Array (Option Value)} {oc kV dc pm cd ct : Value}
    (aC : PySem.W.nsIn K mainGlobals x = some (some (.ref C))) (xL : K.lookup C = some (excClassObj nm qn C N bs bm true sn sub ab col dd m0 m1 m2 m3 m5 "ValueError.__new__")) (hbm : PySem.HandSPX.refsVE bm = true)
    (sa : PySem.W.findIn K (.ref C) "__setattr__" = some (some (.builtin "object.__setattr__"))) (ga : PySem.W.findIn K (.ref C) "__getattribute__" = some (some (.builtin "BaseException.__getattribute__"))) (gg : PySem.W.findIn K (.ref C) "__getattr__" = some none) (nb : PySem.W.findIn K (.ref C) f = some none)
    (a1 : PySem.W.findIn K (.ref C) "__init__" = some (some (.ref fI))) (t1 : PySem.W.typeIn K (.ref fI) = some (.type "function"))
    (l1 : K.lookup fI = some ⟨oc, od, .func (PySem.W.fnOf "__init__" q (defArgs st) (defBody st) (defScope st) .none kV dc pm an cd ct), sl⟩) (c1 : PySem.W.codeIn K cd q = true) (kf : PySem.W.keepIn K (.ref fI) = true)
    (kC : PySem.W.keepIn K (.ref C) = true) (eC : PySem.W.subIn K (.ref C) (.type "BaseException") = some true) (tC : PySem.W.typeIn K (.ref C) = some (.type "type")) (hC : PySem.W.hasDictIn K C = true) (sC : PySem.W.subIn K (.ref C) (.ref C) = some true)
    (z : ErrT K mg x f st q C fI → Z) : Z :=
  z { gC := PySem.W.mg_of X G aC, oex := ⟨⟨nm, qn, N, bs, bm, sn, sub, ab, col, dd, m0, m1, m2, m3, m5, xL, hbm⟩, sa, eC, tC, kC⟩, xfc := ⟨ga, gg, eC, hC⟩, noF := nb, iC := a1, tI := t1, te := PySem.W.exm_ref eC hC tC sC, fn := ⟨_, fun_mk l1 c1 kf⟩ }
end
end DL
namespace DL
open PySem PySem.Spec PyProof.Rows L2 Evl
section
variable {X : Cx}
end
end DL
namespace DL
open PySem PySem.Spec PyProof.Rows L2 Evl
section
variable {X : Cx}
end
section
variable {X : Cx} {K : PySem.W.Frag}
def taOf (K : PySem.W.Frag) (d : DA) : TA := fun σ H Q => ∃ W ρ μ Q', EnvOk K W σ ρ ∧ Rep K W H μ ∧ d ρ μ Q' ∧ AOk K W Q' Q
theorem PDA.of {X : Cx} {es : List Expr} {d : DA} (h : PDA X es d) : PA X es (taOf X.K d) := by
  obtain ⟨t, p, l⟩ := h
  exact ⟨fun cpos pins s σ H Q I ⟨W, ρ, μ, Q', he, r, hd, q⟩ => p.run cpos pins s σ H Q I (l ρ μ Q' hd W σ H he r Q q)⟩
variable {vx tg iter : Expr} {es : List Expr} {x1} {ifs : List Expr} {scope : Scope} {own : List (Str × Nat)} {pos kpos : Pos} {i : DI} {g : DG} {t : DT} {ak : DA} {ev : DE} {n : Nat}
end
end DL
namespace DL
open PySem PySem.Spec PyProof.Rows L2 Evl PySem.W
section
variable {X : Cx}
end
section
variable {X : Cx} {e : Expr} {es : List Expr} {p pos : Pos} {k : Nat}
end
end DL
namespace DL
open PySem PySem.Spec PyProof.Rows L2 Evl
section
variable {X : Cx} {K : PySem.W.Frag}
end
end DL
namespace DL
open PySem PySem.Spec PyProof.Rows L2 Evl
section
variable {P : Program} {w : World} {A : Around}
end
section
variable {X : Cx} {pins : List (Addr × Obj)} {σ : L2.St} {H : Hp} {s : Shared}
end
end DL
namespace DL
open PySem PySem.Spec PyProof.Rows L2 Evl
def seqR (t : Bool) (ds : List PyData) : PyData := if t then .tuple ds else .list ds
def iZpG (t u : Bool) (a : DA) : DI := fun ρ μ R => a ρ μ fun ss μ1 => match ss with
  | [x, y] => ∃ ds es, rd μ1 x = some (seqR t ds) ∧ rd μ1 y = some (seqR u es) ∧ R (zipS x y ds es) (fun ν => rd ν x = some (seqR t ds) ∧ rd ν y = some (seqR u es)) μ1
  | _ => False
section
variable {X : Cx} {p pos : Pos}
end
end DL
namespace DL
open PySem PySem.Spec PyProof.Rows L2 Evl
section
variable {D : DEnds} {ρ : Rho} {μ : Mu} {Q : DQ}
end
section
variable {X : Cx} {K : PySem.W.Frag} {tg a b c e e2 : Expr} {p pos : Pos} {da : DA}
def iZpE (a : DA) : DI := fun ρ μ R => ∃ t u, iZpG t u a ρ μ R
end
def rRevL : DR1 := fun x μ Q => match rd μ x with
  | some (.list ds) => Q (mk (isV x) (.list ds.reverse)) μ
  | _ => False
section
variable {X : Cx} {e : Expr} {k : Nat} {p1 p2 p3 pos : Pos} {d : DE} {ds : List PyData} {μ : Mu} {Q : DQ}
@[simp ↓] theorem o_revL : rRevL (.dat (.list ds)) μ Q = Q (.dat (.list ds.reverse)) μ := rfl
end
end DL
namespace DL
open PySem PySem.Spec PyProof.Rows L2 Evl
section
variable {X : Cx} {a b : Expr} {da db : DE} {pos : Pos}
def bI (b : Bool) : Int := if b = true then 1 else 0
def numD : PyData → Option Int
  | .int i => some i
  | .bool c => some (bI c)
  | _ => none
def rNum (g : Int → Int → Int) : DR2 := fun x y μ Q => match rd μ x, rd μ y with
  | some d, some (.int j) => ∃ i, numD d = some i ∧ Q (.dat (.int (g i j))) μ
  | _, _ => False
def rAddB : DR2 := rNum (· + ·)
def rSubB : DR2 := rNum (· - ·)
@[simp ↓] theorem o_addB {d : PyData} {j : Int} {μ : Mu} {Q : DQ} : rAddB (.dat d) (.dat (.int j)) μ Q = ∃ i, numD d = some i ∧ Q (.dat (.int (i + j))) μ := rfl
@[simp ↓] theorem o_subB {d : PyData} {j : Int} {μ : Mu} {Q : DQ} : rSubB (.dat d) (.dat (.int j)) μ Q = ∃ i, numD d = some i ∧ Q (.dat (.int (i - j))) μ := rfl
variable {e : Expr} {es : List Expr} {p : Pos}
end
end DL
namespace DL
open PySem PySem.Spec PyProof.Rows L2 Evl
section
variable {X : Cx}
section
variable {ns : List Int} {μ : Mu} {Q : DQ}
end
end
end DL
namespace DL
open PySem PySem.Spec PyProof.Rows L2 Evl
section
variable {P : Program} {w : World} {A : Around} {E : Value → Shared → Prop} {s : Shared} {Kt : Type} [DecidableEq Kt] {knd : PySem.KeyKind P w Kt}
theorem setOf_keep {h h' : Heap} {a : Addr} {S : Kt → Bool} {n : Nat} (R : h.SetOf knd a S n) (k : ∀ o, h.get? a = some o → h'.get? a = some o) : h'.SetOf knd a S n := by
  obtain ⟨o, es, ep, t, ho, r⟩ := R
  exact ⟨o, es, ep, t, k o ho, r⟩
structure SetG (knd : PySem.KeyKind P w Kt) (h : Heap) (a : Addr) (us ks : List Kt) : Prop where
  nd : us.Nodup
  mem : ∀ k, k ∈ us ↔ k ∈ ks
  ob : h.SetOf knd a (fun j => decide (j ∈ us)) us.length
theorem SetG.keep {h h' : Heap} {a : Addr} {us ks : List Kt} (R : SetG knd h a us ks) (k : ∀ o, h.get? a = some o → h'.get? a = some o) : SetG knd h' a us ks := ⟨R.nd, R.mem, setOf_keep R.ob k⟩
end
def IsCntA (ks : List Leaf) (c : Nat) : Prop := ∃ us : List Leaf, us.Nodup ∧ (∀ k, k ∈ us ↔ k ∈ ks) ∧ us.length = c
section
variable {X : Cx}
end
section
variable {ds : List PyData} {ks : List Leaf} {ns : List Int} {μ : Mu} {Q : DQ}
theorem nodupLen {α : Type} [DecidableEq α] : ∀ {l m : List α}, l.Nodup → (∀ x ∈ l, x ∈ m) → l.length ≤ m.length
  | [], _, _, _ => Nat.zero_le _
  | x :: l, m, nd, h => by
    have n := List.nodup_cons.mp nd
    have hx := h x (List.mem_cons_self ..)
    have q := nodupLen (l := l) (m := m.erase x) n.2 fun y hy => (List.mem_erase_of_ne (fun e => n.1 (by rw [← e]; exact hy))).mpr (h y (List.mem_cons_of_mem _ hy))
    rw [List.length_erase_of_mem hx] at q
    have := List.length_pos_of_mem hx
    rw [List.length_cons]
    omega
theorem nodupOf {α : Type} [DecidableEq α] : ∀ {xs us : List α}, us.Nodup → (∀ k ∈ us, k ∈ xs) → xs.length ≤ us.length → xs.Nodup
  | [], _, _, _, _ => .nil
  | x :: xs, us, nd, hs, hl => by
    rw [List.length_cons] at hl
    have hx : x ∉ xs := fun hx => by
      have := nodupLen nd fun k hk => (List.mem_cons.mp (hs k hk)).elim (fun e => by rw [e]; exact hx) id
      omega
    refine List.nodup_cons.mpr ⟨hx, nodupOf (us := us.erase x) (nd.erase x) (fun k hk => ?_) ?_⟩
    · have m := (List.Nodup.mem_erase_iff nd).mp hk
      exact (List.mem_cons.mp (hs k m.2)).elim (fun e => absurd e m.1) id
    · have := List.length_erase (a := x) (l := us)
      split at this <;> omega
theorem IsCntA.le {c : Nat} (h : IsCntA ks c) : c ≤ ks.length := by
  obtain ⟨us, nd, hm, hl⟩ := h
  rw [← hl]
  exact nodupLen nd fun k hk => (hm k).mp hk
theorem IsCntA.full {c : Nat} (h : IsCntA ks c) : c = ks.length ↔ ks.Nodup := by
  obtain ⟨us, nd, hm, hl⟩ := h
  rw [← hl]
  refine ⟨fun e => nodupOf nd (fun k hk => (hm k).mp hk) (by omega), fun n => ?_⟩
  have a := nodupLen nd fun k hk => (hm k).mp hk
  have b := nodupLen n fun k hk => (hm k).mpr hk
  omega
end
end DL
namespace DL
open PySem PySem.Spec PyProof.Rows L2 Evl
section
variable {X : Cx} {e : Expr} {es : List Expr} {p pos : Pos} {k : Nat}
end
section
variable {X : Cx} {x f q : Str} {st : Stmt} {C fI : Addr}
end
end DL
namespace DL
open PySem PySem.Spec PyProof.Rows L2 Evl
open LamX
section
variable {K : PySem.W.Frag} {W : Wd} {H : Hp} {μ : Mu}
theorem Rep.tbl (r : Rep K W H μ) {k : Nat} {P : Addr} {q : Str} (h : μ[k]? = some (.tab P q)) : W.ad[k]? = some P ∧ W.F P = none ∧ ∃ ps, H P = some (.tbl ps) ∧ TblOk W.G q ps := by
  have ha := r.tab k P q h
  obtain ⟨q1, o, q2, q3⟩ := r.cell k P _ ha h
  cases o <;> first | exact False.elim q3 | skip
  exact ⟨ha, q1, _, q2, q3⟩
theorem Rep.tbw (r : Rep K W H μ) {k : Nat} {P : Addr} {q : Str} (h : μ[k]? = some (.tab P q)) {ps : Array Value} (hp : TblOk W.G q ps) : Rep K W (upd H P (.tbl ps)) μ := by
  obtain ⟨ha, q1, _⟩ := r.tbl h
  refine ⟨r.gf, Ex.mut r.fh q1, r.len, r.nd, fun j b c' hb hc' => ?_, r.tab⟩
  by_cases hj : k = j
  · subst hj
    rw [ha] at hb; cases hb
    rw [h] at hc'; cases hc'
    exact ⟨q1, _, upd_same, hp⟩
  · obtain ⟨q3, o3, q4, q5⟩ := r.cell j b c' hb hc'
    have ne : b ≠ P := fun z => hj (r.nd k j P ha (z ▸ hb))
    exact ⟨q3, o3, by rw [upd_ne ne]; exact q4, q5⟩
end
theorem TblOk.one {G G' : Hp} {q : Str} {ps : Array Value} {at0 : Pos} {c' : Addr} (t : TblOk G q ps) (k : ∀ b o, G b = some o → (∀ ps, o ≠ .tbl ps) → G' b = some o) (h : G' c' = some (CodeO c' q)) : TblOk G' q (ps ++ #[rawInt at0.line, rawInt at0.col, .ref c']) := by
  have e : (ps ++ #[rawInt at0.line, rawInt at0.col, .ref c']).toList = ps.toList ++ [rawInt at0.line, rawInt at0.col, .ref c'] := Array.toList_append
  unfold TblOk
  rw [e]
  constructor
  · exact PySem.TriplesOk_snoc _ _ _ _ t.1
  · intro at_ v hv
    refine (among_app _ t.1 hv).elim (fun z => ?_) fun z => ⟨c', z, h⟩
    have ⟨d, e1, e2⟩ := t.2 at_ v z
    exact ⟨d, e1, k d _ e2 codeO_ne⟩
section
variable {X : Cx} {pins : List (Addr × Obj)} {σ : L2.St} {H : Hp} {s : Shared}
theorem inv_beyond (I : Inv X pins σ H s) {f : Addr} (hf : s.heap.objs.size ≤ f) : H f = none ∧ f ∉ frs X.stack := by
  refine ⟨I.hok.fresh hf, fun z => ?_⟩
  cases I.stkSub _ z with
  | head _ => exact absurd I.lt (Nat.not_lt.mpr hf)
  | tail _ h => exact I.nofs hf h
structure LamAt (X : Cx) (pins : List (Addr × Obj)) (σ : L2.St) (H : Hp) (n : Nat) (P : Addr) (q : Str) (ps : Array Value) (o : Value → Addr → Value → Obj) (f c' : Addr) (H1 : Hp) (s' : Shared) : Prop where
  inv : Inv X pins σ H1 s'
  way : H1 = H ∨ ∃ more, H c' = none ∧ H1 = upd (upd H P (.tbl (ps ++ more))) c' (CodeO c' q) ∧ ∀ G G' : Hp, TblOk G q ps → (∀ b o, G b = some o → (∀ ps, o ≠ .tbl ps) → G' b = some o) → G' c' = some (CodeO c' q) → TblOk G' q (ps ++ more)
  fun_ : ∃ pm ctv, s'.heap.get? f = some (o pm c' ctv)
  off : H1 f = none
  nofr : f ∉ frs X.stack
  code : H1 c' = some (CodeO c' q)
  beyond : n ≤ f
end
end DL
namespace DL
open PySem PySem.Spec PyProof.Rows L2 Evl
open LamX
structure Kp (fs : List Addr) (s s' : Shared) : Prop where
  keep : ∀ b o, s.heap.get? b = some o → b ∉ fs → s'.heap.get? b = some o
  slot : ∀ b o, s.heap.get? b = some o → b ∈ fs → ∃ sl, s'.heap.get? b = some { o with slots := sl }
  os : s'.os = s.os
  bare : AllBare s'.gens
theorem Kp.refl {fs : List Addr} {s : Shared} (hb : AllBare s.gens) : Kp fs s s := ⟨fun _ _ e _ => e, fun b o e _ => ⟨o.slots, e⟩, rfl, hb⟩
theorem Kp.trans {fs : List Addr} {s s1 s2 : Shared} (a : Kp fs s s1) (b : Kp fs s1 s2) : Kp fs s s2 := ⟨fun c o e h => b.keep c o (a.keep c o e h) h, fun c o e h => by
  obtain ⟨sl, e1⟩ := a.slot c o e h
  obtain ⟨sl2, e2⟩ := b.slot c _ e1 h
  exact ⟨sl2, e2⟩, b.os.trans a.os, b.bare⟩
section
variable {P : Program} {w : World} {K : PySem.W.Frag} {mg : Str → Option Value} {base : Heap} {A : Around} {outer : List Env} {s s' : Shared} {H : Hp}
theorem Kp.hok (e0 : Env0 P w K mg base A outer s H) (k : Kp (frs outer) s s') : HOk P w H s'.heap := fun a u e => by
  have nf : ∀ b, H b ≠ none → b ∉ frs outer := fun b h z => h (e0.frf b z)
  exact (e0.hok a u e).stay (fun b v hb q => k.keep b v q (nf b (by rcases hb with z | z <;> rw [z] <;> simp [e]))) (fun b z => z) fun b xs z => z
theorem Kp.env0 (e0 : Env0 P w K mg base A outer s H) (k : Kp (frs outer) s s') (hb : base.objs.size ≤ s'.heap.objs.size) : Env0 P w K mg base A outer s' H := by
  have nb : ∀ b o, base.get? b = some o → b ∉ frs outer := fun b o e z => by
    have := (e0.funs.mem z).1
    rw [e] at this
    cases this
  refine ⟨e0.frames, e0.mod, fun b o e => ⟨k.keep b o (e0.bs b o e).1 (nb b o e), (e0.bs b o e).2⟩, hb, ?_, e0.frf, k.hok e0, k.bare⟩
  refine e0.funs.of_keeps fun b o e _ => ?_
  by_cases z : b ∈ frs outer
  · obtain ⟨sl, e1⟩ := k.slot b o e z
    exact ⟨_, e1, rfl⟩
  · exact ⟨o, k.keep b o e z, rfl⟩
theorem Kp.un (k : Kp (frs outer) s s') : Un (frs outer) [] H H s.heap s'.heap :=
  ⟨fun b o e _ h _ => k.keep b o e h, fun b o e _ h _ => k.slot b o e h, fun b o _ e _ => e, fun b o e _ => by
    by_cases z : b ∈ frs outer
    · obtain ⟨sl, e1⟩ := k.slot b o e z
      exact ⟨_, e1⟩
    · exact ⟨o, k.keep b o e z⟩, fun b xs e => e, fun b o u e => e, fun b ps e => ⟨#[], by simpa using e⟩⟩
end
section
variable {X : Cx} {pins : List (Addr × Obj)} {σ : L2.St} {H : Hp} {s : Shared}
end
end DL
namespace DL
open PySem PySem.Spec PyProof.Rows L2 Evl
open LamX
section
variable {X : Cx} {K : PySem.W.Frag}
def Made (P : Addr) (q : Str) (ps : Array Value) (H H1 : Hp) : Prop := H1 = H ∨ ∃ c' more, H c' = none ∧ H1 = upd (upd H P (.tbl (ps ++ more))) c' (CodeO c' q) ∧ ∀ G G' : Hp, TblOk G q ps → (∀ b o, G b = some o → (∀ ps, o ≠ .tbl ps) → G' b = some o) → G' c' = some (CodeO c' q) → TblOk G' q (ps ++ more)
theorem Made.at {P : Addr} {q : Str} {ps : Array Value} {H H1 : Hp} (h : Made P q ps H H1) (hP : H P = some (.tbl ps)) : ∀ b o, H b = some o → (∀ ps, o ≠ .tbl ps) → H1 b = some o := by
  intro b o e n
  rcases h with rfl | ⟨c', more, nC, rfl, _⟩
  · exact e
  · rw [upd_ne (ne_of_none e nC), upd_ne (fun z => n ps (Option.some.inj (e.symm.trans (by rw [z]; exact hP))))]
    exact e
end
end DL
namespace DL
open PySem PySem.Spec PyProof.Rows L2 Evl
open LamX
end DL
namespace DL
open PySem PySem.Spec PyProof.Rows L2 Evl
open LamX
section
variable {P : Program} {w : World} {K : PySem.W.Frag} {mg mb : Str → Option Value} {k : Nat} {fa a c T : Addr} {fd : FuncData} {x : Str} {sp : Sp} {s₁ : Shared} {vs : List Value} {ns : List Int}
end
end DL
namespace DL
open PySem PySem.Spec PyProof.Rows L2 Evl
section
variable {CX : CXT} {P : Program} {w : World} {K : PySem.W.Frag} {mg : Str → Option Value} {base : Heap} {k : Nat} {f : Addr} {ps : List Str} {sp : Sp}
theorem fnG_ofC {x qual : Str} {st : Stmt} {fd : FuncData} {N : List Str} (F : Fun K x qual st f fd) (S : FnScope N ps (defScope st)) (len : ∀ vs H Q E, sp vs H Q E → vs.length = ps.length)
    (body : ∀ (cdv : Value), fd.code = cdv → ∀ (A : Around) (outer : List Env) (s : Shared) (H : Hp) (vs : List V) (Q : VK) (E : XK), RoomG k (A.deeper (envOfC qual (defScope st) s.heap.objs.size f cdv)) → sp vs H Q E →
      ∃ t, PSs (cxOf CX P w K mg base N qual (defScope st) f cdv A outer s H E) (defBody st) t ∧ t { nx := fun _ H' => Q .non H', rt := Q } (L2.start N vs) H) : FnG P w K mg base CX (k + 1) f fd ps sp := by
  obtain ⟨oc, od, kV, doc, pm, an, cdv, ct, osl, rfl, lk, hcd⟩ := F.ex
  refine ⟨len, fun A outer s H args us vs Q E room e0 bind rel hsp => ?_⟩
  have keep : ∀ b o, base.get? b = some o → s.heap.get? b = some o := fun b o e => (e0.bs b o e).1
  have par : ∀ y ∈ ps.zip us, (defScope st).names.lookup y.1 = some .local ∨ ((defScope st).names.lookup y.1 = some .cell ∧ ((cellsFrom (s.heap.objs.size + 1) (defScope st).names []).lookup y.1).isSome = true) := by
    rintro ⟨n, v⟩ hy
    cases S.par n (List.of_mem_zip hy).1 with
    | inl q => exact .inl q
    | inr q => exact .inr ⟨q, PySem.W.cellsFrom_some _ _ _ (.inl q)⟩
  refine codeAny_call_function room.r.depth (e0.mod.kin.keeps keep _ _ lk) rfl S.co S.gen rfl (PySem.W.codeRec_of (e0.mod.kin.keeps keep) hcd) (bind _ _ _ _ ?_)
  refine wpAny_newFunctionEnv_cells S.kind par fun env he s1 x => ?_
  subst he
  refine ⟨(e0.mod.nolimit.keeps keep).keeps x.toInCall.keep, codeAny_func ?_⟩
  obtain ⟨t, ht, hq⟩ := body cdv rfl A outer s H vs Q E (room.deeper _) hsp
  have I := inv_start (CX := CX) (E := E) (f := f) (qual := qual) (cd := cdv) S room.r.hd e0 (len _ _ _ _ hsp) rel x
  refine wpAny_mono (ht.run [] s1 _ H _ I hq) (fun fl s' hs => ?_) (fun _ _ z => z)
  cases fl with
  | ret u =>
    obtain ⟨v, σ', H', J, rv, q⟩ := hs
    exact ⟨v, H', J.os, J.bare, J.base, J.hok, rv, q⟩
  | next =>
    obtain ⟨σ', H', J, q⟩ := hs
    exact ⟨.non, H', J.os, J.bare, J.base, J.hok, rfl, q⟩
  | brk => exact hs.elim fun _ z => z.elim fun _ z => False.elim z.2
  | cont => exact hs.elim fun _ z => z.elim fun _ z => False.elim z.2
end
section
variable {P : Program} {w : World} {K : PySem.W.Frag} {mg : Str → Option Value} {base : Heap}
theorem code_of {h : Heap} {x q : Str} {st : Stmt} {f c T : Addr} {fd : FuncData} (X : K.In h) (G : h.Ns mainGlobals mg) (ht : PySem.W.tabIn K x = some (c, T)) (F : Fun K x q st f fd) (hf : mg x = some (.ref f)) : fd.code = .ref c := by
  obtain ⟨oc, od, kV, doc, pm, an, cdv, ct, osl, e, lk, hcd⟩ := F.ex
  unfold PySem.W.tabIn at ht
  split at ht
  · rename_i f' hn
    have e1 := PySem.W.mg_of X G hn
    rw [hf] at e1
    cases e1
    rw [lk] at ht
    dsimp only at ht
    split at ht
    · rename_i c' hc
      split at ht
      · split at ht
        · cases ht
          exact hc
        · cases ht
      · cases ht
    · cases ht
  · cases ht
end
class TabAt where
  T : Addr
end DL
namespace DL
open PySem PySem.Spec PyProof.Rows L2 Evl
open LamX
theorem tabIn_of {K : PySem.W.Frag} {x : Str} {f c T : Addr} {oc oc2 : Value} {od od2 : Option Addr} {fd : FuncData} {sl sl2 : Array (Option Value)} {vs : Array Value} (a : PySem.W.nsIn K mainGlobals x = some (some (.ref f))) (l : K.lookup f = some ⟨oc, od, .func fd, sl⟩) (b : fd.code = .ref c)
    (e : K.lookup c = some ⟨oc2, od2, .fields vs, sl2⟩) (d : vs[11]? = some (.ref T)) : PySem.W.tabIn K x = some (c, T) := by
  unfold PySem.W.tabIn
  rw [a]
  dsimp only
  rw [l]
  dsimp only
  rw [b]
  dsimp only
  rw [e]
  dsimp only
  rw [d]
end DL
namespace DL
open PySem PySem.Spec PyProof.Rows L2 Evl
section
variable {X : Cx}
end
structure KasOk (K : PySem.W.Frag) (G : Hp) (ps : List Addr) (kas : List (List Key × Addr × V)) (acc : List (List Key × PyData)) : Prop where
  pair : Paired (fun p k => G p = some (.tup [.ref k.2.1, k.2.2]) ∧ G k.2.1 = some (.tup (k.1.map kV))) ps kas
  dat : Paired (fun k a => k.1 = a.1 ∧ Dv K G k.2.2 a.2) kas acc
section
variable {X : Cx} {K : PySem.W.Frag}
theorem KasOk.mono {G G' : Hp} {ps : List Addr} {kas : List (List Key × Addr × V)} {acc : List (List Key × PyData)} (h : KasOk K G ps kas acc) (e : Ex G G') : KasOk K G' ps kas acc :=
  ⟨Paired.mapP h.pair fun _ _ z => ⟨e _ _ z.1, e _ _ z.2⟩, Paired.mapP h.dat fun _ _ z => ⟨z.1, z.2.mono e⟩⟩
theorem KasOk.snoc {G : Hp} {ps : List Addr} {kas : List (List Key × Addr × V)} {acc : List (List Key × PyData)} (h : KasOk K G ps kas acc) {p b : Addr} {ks : List Key} {v : V} {d : PyData} (h1 : G p = some (.tup [.ref b, v])) (h2 : G b = some (.tup (ks.map kV))) (h3 : Dv K G v d) : KasOk K G (ps ++ [p]) (kas ++ [(ks, b, v)]) (acc ++ [(ks, d)]) :=
  ⟨Paired.snoc h.pair ⟨h1, h2⟩, Paired.snoc h.dat ⟨rfl, h3⟩⟩
variable {vx tg iter : Expr} {es : List Expr} {x1 x2} {ifs : List Expr} {scope : Scope} {own : List (Str × Nat)} {pos kpos epos p cpos : Pos} {i : DI} {g : DG} {t : DT} {ak : DA} {ev : DE} {n : Nat}
end
end DL
namespace DL
open PySem PySem.Spec PyProof.Rows L2 Evl
section
variable {X : Cx} {o i e value : Expr} {pos pos' tpos : Pos} {td ty tv : TE} {k : Nat}
def putKV (x y v : Sl) (μ : Mu) (Q : Mu → Prop) : Prop := match x, v with
  | .cell k, .dat d => match μ[k]? with
    | some (.dctT es) => ∃ ds ks, rd μ y = some (.tuple ds) ∧ keysA ds = some ks ∧ (valD es ks).isSome = true ∧ es.length < sizeLine ∧ Q (μ.set k (.dctT (putD es ks d)))
    | _ => False
  | _, _ => False
def dDPutV (od id vd : DE) : DS := fun D ρ μ => vd ρ μ fun v μ1 => od ρ μ1 fun x μ2 => id ρ μ2 fun y μ3 => putKV x y v μ3 (D.nx ρ)
end
section
variable {D : DEnds} {ρ : Rho} {μ : Mu} {Q : DQ} {a b c : DE}
@[simp ↓] theorem e_dDPutV : dDPutV a b c D ρ μ = c ρ μ fun v μ1 => a ρ μ1 fun x μ2 => b ρ μ2 fun y μ3 => putKV x y v μ3 (D.nx ρ) := rfl
end
end DL
namespace DL
open PySem PySem.Spec PyProof.Rows L2 Evl
section
variable {K : PySem.W.Frag}
end
section
variable {P : Program} {w : World} {K : PySem.W.Frag} {mg : Str → Option Value} {base : Heap}
end
section
variable {X : Cx} {K : PySem.W.Frag}
end
section
variable {D : DEnds} {ρ : Rho} {μ : Mu} {Q : DQ}
end
end DL
namespace DLZ
open PySem PySem.Spec PyProof.Rows L2 Evl DL
open PySem.Sem (wp)
def Told (F0 : Value) : Prop := F0 = .none ∨ ∃ T : Addr, F0 = rawInt T
section
variable {P : Program} {w : World} {A : Around} {E : Value → Shared → Prop} {s : Shared} {z TI TO i1 i2 : Addr} {f1 f2 : List Addr} {n1 n2 i : Nat} {P1 P2 : Nat → Value → Prop} {S1 S2 : Nat → Heap → Prop} {a1 a2 F0 : Value} {f : Bool}
theorem seen {a : Addr} {Q : Option Obj → Shared → Prop} (h : Q (s.heap.get? a) s) : wpAny (model P w) A (loadIfAlive a) Q E s := fun _ _ _ => h
end
end DLZ
namespace DL
open PySem PySem.Spec PyProof.Rows L2 Evl DLZ
section
variable {X : Cx} {p pos : Pos}
end
end DL
namespace DL
open PySem PySem.Spec PyProof.Rows L2 Evl
section
variable {X : Cx}
end
section
variable {μ : Mu} {Q : DQ}
end
end DL
namespace DL
open PySem PySem.Spec PyProof.Rows L2 Evl
open PySem.W (alike alikeAll dataLt minD maxD AlikeAll)
section
variable {X : Cx} {K : PySem.W.Frag} {e : Expr} {es : List Expr} {p pos : Pos} {k : Nat}
end
section
variable {μ : Mu} {Q : DQ}
end
end DL
namespace DL
open PySem PySem.Spec PyProof.Rows L2 Evl
section
variable {X : Cx} {o i e value : Expr} {pos pos' tpos : Pos} {k : Nat}
end
section
variable {D : DEnds} {ρ : Rho} {μ : Mu} {Q : DQ} {a b c : DE}
end
end DL
namespace DL
open PySem PySem.Spec PyProof.Rows L2 Evl
section
variable {X : Cx}
end
section
variable {μ : Mu} {Q : DQ}
end
end DL
namespace L2
open PySem PySem.Spec PyProof.Rows
section
variable {X : Cx} {pins : List (Addr × Obj)} {σ : St} {H : Hp} {s : Shared} {d : Addr} {o : Obj}
end
section
variable {P : Program} {w : World} {K : PySem.W.Frag} {d : Addr} {o : Obj} {es : Array DictEntry} {ep : Nat}
end
section
variable {X : Cx} {e : Expr} {td : TE} {apos cpos : Pos}
end
end L2
namespace DL
open PySem PySem.Spec PyProof.Rows L2 Evl
section
variable {K : PySem.W.Frag} {W W' : Wd} {H H' : Hp} {μ : Mu} {a : Addr} {od : Obj} {u : HO} {j : Nat}
end
section
variable {X : Cx} {K : PySem.W.Frag}
variable {elt e0 : Expr} {ifs : List Expr} {elts : List Expr} {scope : Scope} {own : List (Str × Nat)} {pos apos cpos tpos npos : Pos} {kk : Nat} {x : Str} {g : DG} {t : DT} {e : DE}
end
end DL
namespace DL
open PySem PySem.Spec PyProof.Rows L2 Evl
section
variable {X : Cx} {K : PySem.W.Frag}
variable {kx vx tg iter : Expr} {ifs : List Expr} {scope : Scope} {own : List (Str × Nat)} {pos : Pos} {i : DI} {g : DG} {t : DT} {ek : DE} {ev : DE} {n : Nat}
end
end DL
namespace DL
open PySem PySem.Spec PyProof.Rows L2 Evl
section
variable {X : Cx}
variable {kx vx tg iter : Expr} {ifs : List Expr} {scope : Scope} {own : List (Str × Nat)} {pos spos py : Pos} {y : Str} {i : DI} {g : DG} {t : DT} {ek : DE} {ev : DE} {n : Nat}
end
end DL
namespace DL
open PySem PySem.Spec PyProof.Rows L2 Evl
section
variable {X : Cx} {K : PySem.W.Frag} {o e e2 : Expr} {apos cpos : Pos} {od ed ed2 : DE}
def mSw : DM := fun o vs μ Q => match o, vs with
  | .dat (.str a), [.dat (.str b)] => Q (.dat (.bool (Txt.startswith a b))) μ
  | _, _ => False
def mSw3 : DM := fun o vs μ Q => match o, vs with
  | .dat (.str a), [.dat (.str b), .dat (.int i)] => Q (.dat (.bool (Txt.startswith3 a b i))) μ
  | _, _ => False
def dMtS (m : DM) (o : DE) (a : DA) : DE := fun ρ μ Q => o ρ μ fun x μ1 => (∃ z, x = .dat (.str z)) ∧ a ρ μ1 fun ss μ2 => m x ss μ2 Q
theorem le_bmStr {r : V → List V → Hp → VK → Prop} {m : DM} {to : TE} {ta : TA} {o : DE} {a : DA} (ho : LE K to o) (ha : LA K ta a)
    (hr : ∀ x xs μ Q', m x xs μ Q' → ∀ W H v vs, Rep K W H μ → SlOk K W v x → SlAll K W vs xs → ∀ Q, VOk K W Q' Q → r v vs H Q) : LE K (tBM K "str" r to ta) (dMtS m o a) := fun ρ μ Q' h W σ H he rp Q q =>
  ho ρ μ _ h W σ H he rp _ fun v x W1 H1 μ1 le1 r1 hx h1 => by
    obtain ⟨⟨z, rfl⟩, h1⟩ := h1
    cases (show Dv K W1.G v (.str z) from hx)
    exact ⟨rfl, ha ρ μ1 _ h1 W1 σ H1 (he.mono le1) r1 _ fun vs ss W2 H2 μ2 le2 r2 hss h2 => hr _ ss μ2 Q' h2 W2 H2 _ vs r2 (Dv.str z) hss Q (q.le (le1.trans le2))⟩
theorem pd_startswith (ho : PD X o od) (he : PD X e ed) (hs1 : starEach [e] X.env = (false, eval e X.env) :: starEach [] X.env := by rfl)
    (hbase : attributeBase o "startswith" X.env (eval o X.env) = eval o X.env := by rfl)
    (hfew : ((backTo cpos (starEach [e] X.env)).all (fun x => !x.1) && (backToKw cpos (keywordEach [] X.env)).all (fun x => x.1.isSome) && decide ([e].length + ([] : List Keyword).length + (if ([] : List Keyword).isEmpty then 0 else 1) < 30)) = true := by rfl)
    (hline : (apos.endLine == cpos.line) = true := by rfl) (hplain : (backTo cpos (starEach [] X.env)).any (·.1) = false := by rfl) : PD X (.Call (.Attribute o "startswith" apos) [e] [] cpos) (dMtS mSw od (aCons ed aNil)) := by
  obtain ⟨t1, p1, l1⟩ := ho
  obtain ⟨t2, p2, l2⟩ := he
  refine ⟨_, pe_bm F.plainAttrs_str F.slot_str_startswith F.type_str_startswith mt_startswith p1 (pa_cons p2 pa_nil hs1) hbase hfew hline hs1 hplain, le_bmStr l1 (la_cons l2 la_nil) fun x xs μ Q' h W H v vs r hx hss Q q => ?_⟩
  unfold mSw at h
  split at h
  · rename_i a b
    obtain ⟨u, rfl, hu⟩ := slAll1 hss
    cases (show Dv X.K W.G v (.str a) from hx)
    cases (show Dv X.K W.G u (.str b) from hu)
    exact ⟨a, b, rfl, rfl, q.dat r (Dv.bl _) h⟩
  · exact False.elim h
theorem pd_startswith3 (ho : PD X o od) (he : PD X e ed) (he2 : PD X e2 ed2) (hs1 : starEach [e, e2] X.env = (false, eval e X.env) :: starEach [e2] X.env := by rfl) (hs2 : starEach [e2] X.env = (false, eval e2 X.env) :: starEach [] X.env := by rfl)
    (hbase : attributeBase o "startswith" X.env (eval o X.env) = eval o X.env := by rfl)
    (hfew : ((backTo cpos (starEach [e, e2] X.env)).all (fun x => !x.1) && (backToKw cpos (keywordEach [] X.env)).all (fun x => x.1.isSome) && decide ([e, e2].length + ([] : List Keyword).length + (if ([] : List Keyword).isEmpty then 0 else 1) < 30)) = true := by rfl)
    (hline : (apos.endLine == cpos.line) = true := by rfl) (hplain : (backTo cpos (starEach [e2] X.env)).any (·.1) = false := by rfl) : PD X (.Call (.Attribute o "startswith" apos) [e, e2] [] cpos) (dMtS mSw3 od (aCons ed (aCons ed2 aNil))) := by
  obtain ⟨t1, p1, l1⟩ := ho
  obtain ⟨t2, p2, l2⟩ := he
  obtain ⟨t3, p3, l3⟩ := he2
  refine ⟨_, pe_bm F.plainAttrs_str F.slot_str_startswith F.type_str_startswith mt_startswith3 p1 (pa_cons p2 (pa_cons p3 pa_nil hs2) hs1) hbase hfew hline hs1 hplain, le_bmStr l1 (la_cons l2 (la_cons l3 la_nil)) fun x xs μ Q' h W H v vs r hx hss Q q => ?_⟩
  unfold mSw3 at h
  split at h
  · rename_i a b i
    obtain ⟨u, w, rfl, hu, hw⟩ := slAll2 hss
    cases (show Dv X.K W.G v (.str a) from hx)
    cases (show Dv X.K W.G u (.str b) from hu)
    cases (show Dv X.K W.G w (.int i) from hw)
    exact ⟨a, b, i, rfl, rfl, q.dat r (Dv.bl _) h⟩
  · exact False.elim h
end
end DL
namespace DL
open PySem PySem.Spec PyProof.Rows L2 Evl
def tiOf (K : PySem.W.Frag) (d : DI) : TI := fun σ H R => ∃ W ρ μ R', EnvOk K W σ ρ ∧ Rep K W H μ ∧ d ρ μ R' ∧ ∀ J ss C W' H' μ', Le W W' → Rep K W' H' μ' → ItOk K W' J ss C → R' ss C μ' → R J H'
theorem PDI.of {X : Cx} {tg e : Expr} {d : DI} (h : PDI X tg e d) : PI X tg e (tiOf X.K d) := by
  obtain ⟨t, p, l⟩ := h
  exact ⟨fun pins s σ H R I ⟨W, ρ, μ, R', he, r, hd, q⟩ => p.run pins s σ H R I (l ρ μ R' hd W σ H he r R q)⟩
section
variable {X : Cx} {K : PySem.W.Frag}
variable {elt tg iter tg1 iter1 : Expr} {ifs ifs1 : List Expr} {scope : Scope} {own : List (Str × Nat)} {pos : Pos} {i i1 : DI} {g g1 : DG} {t t1 : DT} {e : DE}
end
end DL
namespace DL
open PySem PySem.Spec PyProof.Rows L2 Evl
section
variable {X : Cx} {k : Nat} {y x f q : Str} {e : Expr} {es : List Expr} {p pos : Pos} {ps : List Str} {C fI : Addr}
end
end DL
namespace DL
open PySem PySem.Spec PyProof.Rows L2 Evl
abbrev RQ := Addr → Str → Sl → Rho → Mu → Prop
abbrev RQF := Addr → Str → Sl → Mu → Prop
abbrev DSX := RQ → DS
abbrev DEX := RQ → DE
abbrev DFE := List Sl → Mu → DQ → RQF → Prop
def ErrD (H : Hp) (od : Option Addr) (f : Str) (v : V) : Prop := (∃ dx, od = some dx ∧ H dx = some (.xd [(f, v)])) ∨ (od = none ∧ f = ("" : Str) ∧ v = .non)
theorem ErrD.some {H : Hp} {od : Option Addr} {f : Str} {v : V} (h : ErrD H od f v) (ne : f ≠ ("" : Str)) : ∃ dx, od = .some dx ∧ H dx = .some (.xd [(f, v)]) := h.elim id fun z => absurd z.2.1 ne
section
variable (K : PySem.W.Frag)
def ROk (W : Wd) (R' : RQ) (XW : WX) : Prop := ∀ (C : Addr) (f : Str) (v : V) (s : Sl) (σ' : L2.St) (ρ' : Rho) (W' : Wd) (H' : Hp) (μ' : Mu) (dx : Option Addr),
  Le W W' → Rep K W' H' μ' → EnvOk K W' σ' ρ' → SlOk K W' v s → ErrD H' dx f v → R' C f s ρ' μ' → XW (.ref C) dx σ' H'
def REOk (W : Wd) (R' : RQF) (E : XK) : Prop := ∀ (C : Addr) (f : Str) (v : V) (s : Sl) (W' : Wd) (H' : Hp) (μ' : Mu) (dx : Option Addr),
  Le W W' → Rep K W' H' μ' → SlOk K W' v s → ErrD H' dx f v → R' C f s μ' → E (.ref C) dx H'
def LSX (XW : WX) (t : TS) (d : DSX) : Prop := ∀ R' D' ρ μ, d R' D' ρ μ → ∀ W σ H, EnvOk K W σ ρ → Rep K W H μ → ∀ D : Ends, EndsOk K W D' D → ROk K W R' XW → t D σ H
def LEX (XW : WX) (t : TE) (d : DEX) : Prop := ∀ R' ρ μ Q', d R' ρ μ Q' → ∀ W σ H, EnvOk K W σ ρ → Rep K W H μ → ∀ Q : VK, VOk K W Q' Q → ROk K W R' XW → t σ H Q
end
def PDSX (X : Cx) (XW : WX) (st : Stmt) (d : DSX) : Prop := ∃ t, PS X st t ∧ LSX X.K XW t d
def PDSsX (X : Cx) (XW : WX) (sts : List Stmt) (d : DSX) : Prop := ∃ t, PSs X sts t ∧ LSX X.K XW t d
def PDX (X : Cx) (XW : WX) (e : Expr) (d : DEX) : Prop := ∃ t, PE X e t ∧ LEX X.K XW t d
section
variable {K : PySem.W.Frag} {W W1 : Wd} {R' : RQ} {XW : WX}
theorem ROk.le (h : ROk K W R' XW) (l : Le W W1) : ROk K W1 R' XW := fun C f v s σ' ρ' W' H' μ' dx l' => h C f v s σ' ρ' W' H' μ' dx (l.trans l')
end
section
variable {X : Cx} {XW : WX} {st : Stmt} {sts rest : List Stmt} {e : Expr} {d a : DSX} {b : DSX} {dd : DS} {de : DEX} {pos : Pos}
theorem pdx_of (h : PDS X st dd) : PDSX X XW st (fun _ => dd) := by
  obtain ⟨t, p, l⟩ := h
  exact ⟨t, p, fun R' D' ρ μ h W σ H he r D hd _ => l D' ρ μ h W σ H he r D hd⟩
theorem pdsx_of (h : PDSs X sts dd) : PDSsX X XW sts (fun _ => dd) := by
  obtain ⟨t, p, l⟩ := h
  exact ⟨t, p, fun R' D' ρ μ h W σ H he r D hd _ => l D' ρ μ h W σ H he r D hd⟩
theorem pdsx_nil : PDSsX X XW [] (fun _ => dNext) := pdsx_of pds_nil
theorem pdsx_cons (h1 : PDSX X XW st a) (h2 : PDSsX X XW rest b) : PDSsX X XW (st :: rest) (fun R => dSeq (a R) (b R)) := by
  obtain ⟨t1, p1, l1⟩ := h1
  obtain ⟨t2, p2, l2⟩ := h2
  exact ⟨_, pss_cons p1 p2, fun R' D' ρ μ h W σ H he r D hd hR => l1 R' _ ρ μ h W σ H he r _ (hd.with_nx fun σ1 ρ1 W1 H1 μ1 le1 r1 he1 q => l2 R' D' ρ1 μ1 q W1 σ1 H1 he1 r1 D (hd.le le1) (hR.le le1)) hR⟩
theorem pdsx_one (h1 : PDSX X XW st a) : PDSsX X XW [st] a := by
  obtain ⟨t1, p1, l1⟩ := h1
  exact ⟨_, pss_one p1, l1⟩
theorem pdx_if {c : Expr} {sa sb : List Stmt} {t : DT} (hc : PDT X c t) (ha : PDSsX X XW sa a) (hb : PDSsX X XW sb b) : PDSX X XW (.If c sa sb pos) (fun R => dIfS t (a R) (b R)) := by
  obtain ⟨tc, p, l⟩ := hc
  obtain ⟨t1, p1, l1⟩ := ha
  obtain ⟨t2, p2, l2⟩ := hb
  refine ⟨_, ps_if p p1 p2, fun R' D' ρ μ h W σ H he r D hd hR => l ρ μ _ h W σ H he r _ fun k W1 H1 μ1 le1 r1 q => ?_⟩
  cases k with
  | true => exact l1 R' D' ρ μ1 q W1 σ H1 (he.mono le1) r1 D (hd.le le1) (hR.le le1)
  | false => exact l2 R' D' ρ μ1 q W1 σ H1 (he.mono le1) r1 D (hd.le le1) (hR.le le1)
theorem pdx_expr (h : PDX X XW e de) (hs : swapsWith e none pos.line X.env = pure false := by rfl) : PDSX X XW (.Expr e pos) (fun R => dDrop (de R)) := by
  obtain ⟨t, p, l⟩ := h
  exact ⟨_, ps_expr p hs, fun R' D' ρ μ h W σ H he r D hd hR => l R' ρ μ _ h W σ H he r _ (fun v s W1 H1 μ1 le1 r1 hs q => hd.nx σ ρ W1 H1 μ1 le1 r1 (he.mono le1) q) hR⟩
theorem pdx_set {i : Nat} {x : Str} {pos' : Pos} (hN : X.N.Nodup) (h : PDX X XW e de) (hi : X.N[i]? = some x := by rfl) (hx : Loc X.env.scope x := by exact Or.inl rfl) (hs : swapsWith e (some (.Name x pos')) pos.line X.env = pure false := by rfl)
    (hf : X.fn x = true ∨ X.env.scope.names.lookup x = some .local := by exact .inl rfl) : PDSX X XW (.Assign [.Name x pos'] e pos) (fun R => dAsg (de R) i) := by
  obtain ⟨t, p, l⟩ := h
  exact ⟨_, ps_set hN hi hx p hs hf, fun R' D' ρ μ h W σ H he r D hd hR => l R' ρ μ _ h W σ H he r _ (fun v s W1 H1 μ1 le1 r1 hs q => hd.nx _ _ W1 H1 μ1 le1 r1 ((he.mono le1).set i hs) q) hR⟩
def dRaise (C : Addr) (f : Str) (da : DA) : DSX := fun R _ ρ μ => da ρ μ fun ss μ1 => ∃ s, ss = [s] ∧ R C f s ρ μ1
theorem pdx_raise {x f q : Str} {sti : Stmt} {C fI : Addr} {ae : Expr} {da : DA} {N : List Str} {fdI : FuncData} {p pos2 : Pos} {j : Nat} (tk : Takes X XW) (T : ErrT X.K X.mg x f sti q C fI) (F1 : FnOk X.prog X.w X.K X.mg X.base CX0 1 fI fdI N (spInit X.K f C)) (hrm : Room (j + 2) X.A) (hb : Binds X.K fdI N [])
    (ha : PDA X [ae] da) (hcalm : X.calm = true := by rfl) (hg : Gl X x := by rfl) (hdb : (x == ("__debug__" : Str)) = false := by decide) (hse : starEach (ae :: []) X.env = (false, eval ae X.env) :: starEach [] X.env := by rfl) (hpl : (backTo pos (starEach [] X.env)).any (·.1) = false := by rfl) :
    PDSX X XW (.Raise (some (.Call (.Name x p) [ae] [] pos)) none pos2) (dRaise C f da) := by
  obtain ⟨ta, pa, la⟩ := ha
  have P := pmk_oex (X := X) (p := p) (pos := pos) (dvs := []) (ds := []) T.oex T.iC T.tI F1 (hrm.mono (by omega)) hb .nil pass0 hg T.gC pa hdb hse hpl
  refine ⟨_, ps_raise hcalm tk P, fun R' D' ρ μ h W σ H hE r D hd hR => ?_⟩
  refine la ρ μ _ h W σ H hE r _ fun vs ss W2 H2 μ2 le2 r2 hss h2 => ?_
  obtain ⟨s, rfl, h2⟩ := h2
  obtain ⟨v, rfl, hs⟩ := slAll1 hss
  exact mk_err (Q := fun cls d H2 => XW cls d σ H2) fun dx H' ex hx => hR C f v s σ ρ W2 H' μ2 (some dx) le2 (r2.ex ex) (hE.mono le2) hs (.inl ⟨dx, rfl, hx⟩) h2
def SpE (K : PySem.W.Frag) (n : Nat) (φ : DFE) : Sp := fun vs H Q E => ∃ W ss μ Q' R', vs.length = n ∧ SlAll K W vs ss ∧ Rep K W H μ ∧ φ ss μ Q' R' ∧ VOk K W Q' Q ∧ REOk K W R' E
structure OwnE (P : Program) (w : World) (K : PySem.W.Frag) (mg : Str → Option Value) (base : Heap) (y : Str) (st : Stmt) (ps : List Str) (k n : Nat) (φ : DFE) : Prop where
  ex : ∃ g fd, Fun K y y st g fd ∧ FnG P w K mg base (L2.CX P w) k g fd ps (SpE K n φ) ∧ mg y = some (.ref g)
def PureE (N : List Str) (n : Nat) (φ : DFE) (ds : DSX) : Prop := ∀ ss μ Q' R', ss.length = n → φ ss μ Q' R' →
  ds (fun C f s _ μ' => finQ μ.length (R' C f) s μ') ⟨fun _ μ' => finQ μ.length Q' (.dat .none) μ', finQ μ.length Q', fun _ _ => False, fun _ _ => False⟩ (startD N ss) μ
theorem okE {P : Program} {w : World} {K : PySem.W.Frag} {mg : Str → Option Value} {base : Heap} {x qual : Str} {st : Stmt} {f : Addr} {fd : FuncData} {N ps : List Str} {k n : Nat} {φ : DFE} {ds : DSX} (F : Fun K x qual st f fd) (S : FnScope N ps (defScope st)) (hn : n = ps.length)
    (hbody : ∀ (cdv : Value) (A : Around) (outer : List Env) (s : Shared) (H : Hp) (E : XK), RoomG k (A.deeper (envOfC qual (defScope st) s.heap.objs.size f cdv)) →
      PDSsX (cxOf (L2.CX P w) P w K mg base N qual (defScope st) f cdv A outer s H E) (fun cls d _ H => E cls d H) (defBody st) ds)
    (hφ : PureE N n φ ds) : FnG P w K mg base (L2.CX P w) (k + 1) f fd ps (SpE K n φ) := by
  refine fnG_of F S (fun vs H Q E h => ?_) (fun cdv A outer s H vs Q E hr h => ?_)
  · obtain ⟨_, _, _, _, _, h, _⟩ := h
    exact h.trans hn
  · obtain ⟨W, ss, μ, Q', R', hl, hss, r, hp, q, qE⟩ := h
    obtain ⟨t, p, l⟩ := hbody cdv A outer s H E hr
    refine ⟨t, p, l _ _ (startD N ss) μ (hφ ss μ Q' R' (by rw [← hss.length]; exact hl) hp) W _ H (env_start hss) r _ ?_ ?_⟩
    · have fq := finQ_ok q
      rw [r.len] at fq
      refine ⟨fun σ1 ρ1 W1 H1 μ1 l1 r1 he1 h1 => ?_, fq, fun σ1 ρ1 W1 H1 μ1 l1 r1 he1 h1 => h1, fun σ1 ρ1 W1 H1 μ1 l1 r1 he1 h1 => h1⟩
      exact fq .non (.dat .none) W1 H1 μ1 l1 r1 .non h1
    · intro C fn v s1 σ1 ρ1 W1 H1 μ1 dx l1 r1 he1 hs1 hx h1
      have fq := finQ_ok (Q' := R' C fn) (Q := fun v H' => ∀ dx, ErrD H' dx fn v → E (.ref C) dx H') (W := W) (K := K) fun v s W' H' μ' l' r' hs' h' dx hx' => qE C fn v s W' H' μ' dx l' r' hs' hx' h'
      rw [r.len] at fq
      exact fq v s1 W1 H1 μ1 l1 r1 hs1 h1 dx hx
def dCallE (n : Nat) (φ : DFE) (a : DA) : DEX := fun R ρ μ Q => a ρ μ fun ss μ1 => ss.length = n ∧ φ ss μ1 Q (fun C f s μ2 => R C f s ρ μ2)
theorem pdx_call {φ : DFE} {a : DA} {y : Str} {es : List Expr} {p : Pos} {stg : Stmt} {ps : List Str} {k n : Nat} (tk : Takes X XW) (o : OwnE X.prog X.w X.K X.mg X.base y stg ps k n φ) (hr : RoomG k X.A)
    (hb : ∀ (kV doc pm : Value) (an : Option Addr) (cdv ct : Value) (us : List Value), us.length = ps.length → bindArgs (PySem.W.fnOf y y (defArgs stg) (defBody stg) (defScope stg) .none kV doc pm an cdv ct) ⟨us, []⟩ = pure (ps.zip us))
    (ha : PDA X (e :: es) a) (hg : Gl X y := by rfl) (hdb : (y == ("__debug__" : Str)) = false := by decide)
    (he : starEach (e :: es) X.env = (false, eval e X.env) :: starEach es X.env := by rfl) (hpl : (backTo pos (starEach es X.env)).any (·.1) = false := by rfl) : PDX X XW (.Call (.Name y p) (e :: es) [] pos) (dCallE n φ a) := by
  obtain ⟨g, fd, F, G, hm⟩ := o
  obtain ⟨ta, pa, la⟩ := ha
  refine ⟨_, pe_callSG G hr hg hm F.kp (F.binds hb) (fun σ => passAt tk σ) pa hdb he hpl, fun R' ρ μ Q' h W σ H hE r Q q hR => ?_⟩
  refine la ρ μ _ h W σ H hE r _ fun vs ss W1 H1 μ1 le1 r1 hss h1 => ?_
  obtain ⟨hn, h1⟩ := h1
  exact ⟨W1, ss, μ1, _, _, by rw [hss.length]; exact hn, hss, r1, h1, q.le le1, fun C f v s W2 H2 μ2 dx le2 r2 hs2 hx h2 => hR C f v s σ ρ W2 H2 μ2 dx (le1.trans le2) r2 (hE.mono (le1.trans le2)) hs2 hx h2⟩
end
end DL
namespace PySem.W
open PySem PySem.Calls PyProof.Rows PySem.Spec
theorem isa_yes {K : Frag} {x t c : Value} {P : Heap → Prop} (ne : (t == c) = false) (below : kitCls K t c = some true) (ty : ∀ (M : Model) (h : Heap), K.In h → P h → Looks M h (typeOf x) t) : Answers (fun s => K.In s.heap ∧ P s.heap) x c true := by
  intro dep tk prog w A R st hst
  obtain ⟨hp, g, dr, n, os⟩ := st
  obtain ⟨⟨inK, p⟩, fin⟩ := hst
  have tx := ty (model prog w) hp inK p
  obtain ⟨tc, isT, sub⟩ := kit_cls (M := model prog w) (h := hp) inK below
  have yes : Looks (model prog w) hp (isInstance x c) true := tx.andThen sub
  have nt : ¬ (t == c) = true := by rw [ne]; exact Bool.false_ne_true
  unfold Builtin.«isinstance.nested»
  refine wpAny_bind (tx.at ?_)
  rw [if_neg nt]
  refine wpAny_bind (tc.at ?_)
  rw [if_pos (by decide)]
  k_delta "plainIsInstance"
  refine wpAny_bind (wpAny_bind (isT.at ?_))
  simp only [Bool.not_true, Bool.false_eq_true, if_false]
  refine wpAny_bind (Looks.at yes ?_)
  first
    | exact wpAny_pure (wpAny_pure (fin n))
    | (simp only [if_true]; first | exact wpAny_pure (wpAny_pure (fin n)) | exact wpAny_pure (fin n) | exact wpAny_bind (wpAny_pure (wpAny_pure (fin n))))
end PySem.W
namespace DL
open PySem PySem.Spec PyProof.Rows L2 Evl
def rIsX (K : PySem.W.Frag) (a : Addr) (cls : Value) (C : Addr) : List V → Hp → VK → Prop := fun xs H Q => ∃ (c : V) (cv : Value), xs = [.ref a, c] ∧ (∀ u, RelV c u → u = cv) ∧ cls = .ref C ∧ (Value.ref C == cv) = false ∧ PySem.W.kitCls K (.ref C) cv = some true ∧ Q (.bl true) H
theorem call_isX {X : Cx} {a C : Addr} {oe : Obj} {cls : Value} {d : Option Addr} {pn : List (Addr × Obj)} (hz : Zc cls d oe) : CallR (X.suite a ((a, oe) :: pn)) (.builtin "isinstance") (rIsX X.K a cls C) := by
  intro pins s σ H xs us Q I rs h
  obtain ⟨c, cv, rfl, hcv, rfl, ne, e, q⟩ := h
  rcases rs with _ | ⟨ra, _ | ⟨rc, rs'⟩⟩
  cases rs'
  cases ra
  cases hcv _ rc
  have at_ := (I.pin (a, oe) (List.mem_append.mpr (.inl List.mem_cons_self))).1
  have A0 := PySem.W.isa_yes (K := X.K) (x := .ref a) (t := .ref C) (c := cv) (P := fun h => h.get? a = some oe) ne e fun M h _ p A Q E s k q' => wpAny_typeOf_ref (k _ _ p) (by rw [hz.1]; exact q')
  refine PySem.call_isinstance (S := fun _ R st => (X.K.In st.heap ∧ st.heap.get? a = some oe) ∧ ∀ n, R (.ok (.ret (.bool true))) { st with toks := n }) ?_ ⟨⟨I.kIn, at_⟩, fun n => ⟨.bl true, H, I.kept (t' := n) fun _ _ z => z, rfl, q⟩⟩
  exact fun prog w A R st hs => PySem.isinstance_outer (A0 0 _ prog w A R st hs) (fun z => nomatch z)
end DL
namespace DL
open PySem PySem.Spec PyProof.Rows L2 Evl
structure Kin (K : PySem.W.Frag) (mg : Str → Option Value) (bn : Str) (C B : Addr) : Prop where
  gB : mg bn = some (.ref B)
  ne : (Value.ref C == Value.ref B) = false
  below : PySem.W.kitCls K (.ref C) (.ref B) = some true
section
variable {X : Cx} {k : Nat} {y x f q bn : Str} {e : Expr} {es : List Expr} {p pos : Pos} {ps : List Str} {C B fI : Addr}
end
end DL
namespace DL
open PySem PySem.Spec PyProof.Rows L2 Evl
section
variable {X : Cx} {K : PySem.W.Frag}
end
section
variable {P : Program} {w : World} {K : PySem.W.Frag} {mg : Str → Option Value} {base : Heap} {x f q : Str} {st : Stmt} {C fI : Addr}
theorem ok_init2 {fd : FuncData} {N : List Str} (hN : ∃ a b, N = [a, b]) (T : ErrT K mg x f st q C fI) (F : Fun K "__init__" q st fI fd) (S : FnScope N N (defScope st))
    (hb : ∀ (cdv : Value) (A : Around) (outer : List Env) (s : Shared) (H : Hp) (E : XK), PSs (cxOf CX0 P w K mg base N q (defScope st) fI cdv A outer s H E).nox (defBody st) (tOst K f (tVar 0) (tVar 1))) : FnOk P w K mg base CX0 1 fI fd N (spInit K f C) := by
  obtain ⟨n1, n2, rfl⟩ := hN
  refine F.ok S (fun vs H Q E h => ?_) (fun cdv A outer s H vs Q E hr h => ⟨_, hb cdv A outer s H E, ?_⟩)
  · obtain ⟨a, y, rfl, _⟩ := h
    rfl
  · obtain ⟨a, y, rfl, ha, k⟩ := h
    exact ⟨y, rfl, .ref a, rfl, a, C, rfl, T.oex, T.noF, .inl ⟨ha, fun dx h1 h2 => k dx h1 h2⟩⟩
end
theorem kin_of {K : PySem.W.Frag} {h : Heap} {mg : Str → Option Value} {bn : Str} {C B : Addr} {Z : Prop} (X : K.In h) (G : h.Ns mainGlobals mg) (aB : PySem.W.nsIn K mainGlobals bn = some (some (.ref B))) (hB : PySem.W.hasDictIn K B = true) (tB : PySem.W.typeIn K (.ref B) = some (.type "type"))
    (neB : (Value.ref C == Value.ref B) = false) (sB : PySem.W.subIn K (.ref C) (.ref B) = some true) (z : Kin K mg bn C B → Z) : Z := by
  refine z ⟨PySem.W.mg_of X G aB, neB, ?_⟩
  obtain ⟨cd, hc, _⟩ := PySem.W.any_some hB
  have e : ((PySem.W.clsIn K B).isSome && PySem.W.typeIn K (.ref B) == some (.type "type")) = true := by rw [hc, tB]; rfl
  show (if ((PySem.W.clsIn K B).isSome && PySem.W.typeIn K (.ref B) == some (.type "type")) = true then PySem.W.subIn K (.ref C) (.ref B) else none) = some true
  rw [if_pos e]
  exact sB
end DL
namespace DL
open PySem PySem.Spec PyProof.Rows L2 Evl
theorem kin_ofT {K : PySem.W.Frag} {h : Heap} {mg : Str → Option Value} {x f q bn : Str} {st : Stmt} {C B fI : Addr} {Z : Prop} (T : ErrT K mg x f st q C fI) (X : K.In h) (G : h.Ns mainGlobals mg) (aB : PySem.W.nsIn K mainGlobals bn = some (some (.ref B))) (hB : PySem.W.hasDictIn K B = true) (tB : PySem.W.typeIn K (.ref B) = some (.type "type"))
    (sB : PySem.W.subIn K (.ref C) (.ref B) = some true) (neB : (Value.ref C == Value.ref B) = false) (z : Kin K mg bn C B → Z) : Z := kin_of X G aB hB tB neB sB z
end DL
namespace DL
open PySem PySem.Spec PyProof.Rows L2 Evl LamX NdefX
structure LamI where
  q : Str
  params : Arguments
  body : Expr
  scope : Scope
  cl : List (Str × Addr)
  c : Addr
def LamI.obj (L : LamI) (f : Addr) : Heap → Prop := fun h => ∃ pm ctv, h.get? f = some (PySem.W.kla_obj "<lambda>" L.q L.params L.body L.scope L.cl pm L.c ctv)
abbrev LamI.nf (L : LamI) : NF := ⟨"<lambda>", L.q, L.params, [], L.scope, L.cl, L.c⟩
theorem lamAt_ok {P : Program} {w : World} {H : Hp} {h : Heap} {f : Addr} {L : LamI} (x : L.obj f h) : ObjOk P w H h f (.ext (L.obj f)) := by
  obtain ⟨pm, ctv, e⟩ := x
  exact ⟨⟨pm, ctv, e⟩, ⟨_, e⟩, fun h1 h2 ⟨pm, ctv, e1⟩ k => ⟨pm, ctv, k _ e1⟩⟩
section
variable {CX : CXT} {P : Program} {w : World} {K : PySem.W.Frag} {mg : Str → Option Value} {base : Heap} {N fr : List Str} {L : LamI} {f : Addr} {A : Around} {outer : List Env} {s : Shared} {H : Hp} {E : XK} {Q : VK} {ws : List (Option V)} {k : Nat}
theorem lam_run (S : NScope N [] fr L.scope) (hb : ∀ (pm ctv : Value), bindArgs (PySem.W.kla_fn "<lambda>" L.q L.params L.body L.scope L.cl pm (.ref L.c) ctv) ⟨[], []⟩ = pure []) (hr : RoomG (k + 1) A) (e0 : Env0 P w K mg base A outer s H)
    (hf : L.obj f s.heap) (hc : H L.c = some (CodeO L.c L.q)) (C : CellsAt L.cl fr ws s.heap H)
    (hbody : RoomG k (A.deeper (envF L.nf f s.heap.objs.size)) → ∃ t, PE (ncx CX P w K mg base N L.nf f A outer s H E) L.body t ∧ t (startF N [] ws) H Q) :
    codeAny (model P w) A (.call (.ref f) ⟨[], []⟩) (CR CX outer P w H s Q E) s := by
  obtain ⟨pm, ctv, ho⟩ := hf
  have lim : s.heap.NoLimit := e0.mod.nolimit.keeps fun b o e => (e0.bs b o e).1
  have code : s.heap.CodeRec (.ref L.c) L.q := codeO_at e0.hok hc
  refine PySem.W.kla_callFunE hr.r.depth ho rfl S.co S.gen rfl code ?_
  rw [hb pm ctv]
  refine wpAny_pure (wpAny_newFunctionEnv S.nocell (fun y hy => by cases hy) (fun h₁ hns hsb => ⟨lim.fresh _ hsb, ?_⟩) S.kind)
  have kp : ∀ b o, s.heap.get? b = some o → h₁.get? b = some o := fun b o e => hsb.extBut b o (Nat.ne_of_lt (Heap.lt_size e)) (Heap.get?_push_of_some _ e)
  obtain ⟨t, ht, hq⟩ := hbody (hr.deeper _)
  have I : Inv (ncx CX P w K mg base N L.nf f A outer s H E) [] (startF N [] ws) H { s with heap := h₁, toks := s.toks } := inv_startN (ps := []) (us := []) S hr.r.hd e0 rfl .nil C hns kp
  refine PySem.W.kla_codeExpr (wpAny_mono (ht.run [] _ (startF N [] ws) H _ I hq) (fun u s' hs => ?_) fun e s' hs => hs)
  obtain ⟨v, H', J, rv, q⟩ := hs
  exact ⟨v, H', J.os, J.bare, J.base, J.hok, rv, q⟩
end
theorem get_eq {h : Heap} {a : Addr} : h.get? a = (match h.objs[a]? with
  | some ⟨_, _, .freed, _⟩ => Option.none
  | o => o) := rfl
theorem snap (h base : Heap) (cs : List Addr) : ∃ b' : Heap, b'.objs.size = h.objs.size ∧ ∀ b o, b'.get? b = some o ↔ h.get? b = some o ∧ ((∃ u, base.get? b = some u) ∨ b ∈ cs) := by
  refine ⟨⟨h.objs.mapIdx fun i o => if ((base.get? i).isSome || cs.contains i) = true then o else { o with data := .freed }, h.life⟩, Array.size_mapIdx, fun b o => ?_⟩
  have iff : ((base.get? b).isSome || cs.contains b) = true ↔ ((∃ u, base.get? b = some u) ∨ b ∈ cs) := by
    rw [Bool.or_eq_true, Option.isSome_iff_exists, List.contains_iff_mem]
  rw [get_eq, get_eq, ← iff]
  dsimp only
  rw [Array.getElem?_mapIdx]
  cases e : h.objs[b]? with
  | none => simp
  | some u =>
    cases c : ((base.get? b).isSome || cs.contains b) with
    | true => simp
    | false => simp
section
variable {X : Cx} {pins : List (Addr × Obj)} {σ : L2.St} {H : Hp} {s : Shared}
theorem env0_snap (I : Inv X pins σ H s) (cs : List Addr) (hc : ∀ c ∈ cs, H c = none ∧ c ∉ frs X.stack) :
    ∃ base : Heap, Env0 X.prog X.w X.K X.mg base X.A X.stack s H ∧ ∀ c ∈ cs, ∀ o, s.heap.get? c = some o → base.get? c = some o := by
  have e0 := I.env0
  obtain ⟨b', sz, iff⟩ := snap s.heap X.base cs
  have keep : ∀ b o, X.base.get? b = some o → b'.get? b = some o := fun b o e => (iff b o).mpr ⟨(e0.bs b o e).1, .inl ⟨o, e⟩⟩
  have back : ∀ b o, b'.get? b = some o → s.heap.get? b = some o ∧ H b = none := fun b o e => by
    obtain ⟨h1, h2⟩ := (iff b o).mp e
    refine ⟨h1, ?_⟩
    rcases h2 with ⟨u, h2⟩ | h2
    · exact (e0.bs b u h2).2
    · exact (hc b h2).1
  have funs : ∀ l : List Env, (∀ b ∈ frs l, b ∉ cs) → s.heap.FunFrames X.base l → s.heap.FunFrames b' l := by
    intro l
    induction l with
    | nil => intro _ _; trivial
    | cons env rest ih =>
      intro hn hl
      obtain ⟨hk, ⟨L, o, hf, hb, ho, hd⟩, hr⟩ := hl
      refine ⟨hk, ⟨L, o, hf, ?_, ho, hd⟩, ih (fun b hb => hn b ?_) hr⟩
      · cases e : b'.get? L with
        | none => rfl
        | some u =>
          rcases ((iff L u).mp e).2 with ⟨v, z⟩ | z
          · rw [hb] at z; cases z
          · exact absurd z (hn L (by unfold frs; rw [List.filterMap_cons, hf]; exact List.mem_cons_self))
      · unfold frs at hb ⊢
        rw [List.filterMap_cons, hf]
        exact List.mem_cons_of_mem _ hb
  refine ⟨b', ⟨e0.frames, ⟨e0.mod.kin.keeps keep, e0.mod.glob.keeps keep, ?_, e0.mod.nolimit.keeps keep⟩, back, Nat.le_of_eq sz, funs _ (fun b hb z => (hc b z).2 hb) e0.funs, e0.frf, e0.hok, e0.bare⟩, fun c h o e => (iff c o).mpr ⟨e, .inr h⟩⟩
  obtain ⟨mb, h1, h2⟩ := e0.mod.blt
  exact ⟨mb, h1.keeps keep, h2⟩
theorem own_cell (I : Inv X pins σ H s) {y : Str} {c : Addr} (hf : X.fn y = true) (hy : X.env.cells.lookup y = some c) : H c = none ∧ c ∉ frs X.stack := by
  refine ⟨I.freeC y c hy, fun z => ?_⟩
  rcases List.mem_cons.mp (I.stkSub c z) with e | z
  · obtain ⟨v, o, ho, hd⟩ := I.cell y c hy
    obtain ⟨m, hn, _⟩ := I.loc
    obtain ⟨o', es, ep, h1, h2, _⟩ := hn
    rw [← e, ho] at h1
    cases h1
    rw [hd] at h2
    cases h2
  · have lt := Heap.lt_size (I.ok.funs.mem (b := c) z).2.choose_spec.1
    exact absurd lt (Nat.not_lt.mpr (I.ok.cab y c hf hy))
end
end DL
namespace DL
open PySem PySem.Spec PyProof.Rows L2 Evl LamX NdefX
abbrev FV := Mu → DQ → RQF → Prop
def tabF (L : LamI) (f : Addr) (vs : List V) (ds : List PyData) : TabI := .fn (L.obj f) L.c (CodeO L.c L.q) vs ds
section
variable {K : PySem.W.Frag} {W : Wd} {H : Hp} {μ : Mu} {k : Nat} {f : Addr} {L : LamI} {vs : List V} {ds : List PyData}
theorem Rep.fn (r : Rep K W H μ) (h : μ[k]? = some (.tab f (tabF L f vs ds))) : W.ad[k]? = some f ∧ W.F f = none ∧ H f = some (.ext (L.obj f)) ∧ W.G L.c = some (CodeO L.c L.q) ∧ DvAll K W.G vs ds := by
  have ha := r.tab k f _ h
  obtain ⟨q1, o, q2, q3⟩ := r.cell k f _ ha h
  cases o <;> first | exact False.elim q3 | skip
  obtain ⟨e, q4, q5⟩ := q3
  subst e
  exact ⟨ha, q1, q2, q4, q5⟩
theorem Rep.fnAt {P : Program} {w : World} {h : Heap} (r : Rep K W H μ) (hok : HOk P w H h) (hm : μ[k]? = some (.tab f (tabF L f vs ds))) : L.obj f h := (hok f _ (r.fn hm).2.2.1).1
end
structure FnV (P : Program) (w : World) (K : PySem.W.Frag) (mg : Str → Option Value) (base : Heap) (lvl : Nat) (f : Addr) (t : TabI) (φ : FV) : Prop where
  is : ∃ L vs ds, t = tabF L f vs ds
  run : ∀ (A : Around) (outer : List Env) (s : Shared) (H : Hp) (Q : VK) (E : XK) (W : Wd) (μ : Mu) (k : Nat) (Q' : DQ) (R' : RQF), RoomG lvl A → Env0 P w K mg base A outer s H → μ[k]? = some (.tab f t) → Rep K W H μ → φ μ Q' R' → VOk K W Q' Q → REOk K W R' E →
    codeAny (model P w) A (.call (.ref f) ⟨[], []⟩) (CR (L2.CX P w) outer P w H s Q E) s
theorem FnV.mono {P : Program} {w : World} {K : PySem.W.Frag} {mg : Str → Option Value} {base : Heap} {j k : Nat} {f : Addr} {t : TabI} {φ : FV} (F : FnV P w K mg base j f t φ) (h : j ≤ k) : FnV P w K mg base k f t φ :=
  ⟨F.is, fun A outer s H Q E W μ i Q' R' hr => F.run A outer s H Q E W μ i Q' R' (hr.mono h)⟩
structure CapB (cl : List (Str × Addr)) (fr : List Str) (ws : List (Option V)) (h : Heap) : Prop where
  len : ws.length = fr.length
  all : ∀ y c, cl.lookup y = some c → ∃ v, h.IsCell c v
  inj : ∀ x y c, cl.lookup x = some c → cl.lookup y = some c → x = y
  has : ∀ (i : Nat) (y : Str), fr[i]? = some y → ∃ c, cl.lookup y = some c ∧ ∀ v, ws[i]? = some (some v) → ∃ u, L2.RelV v u ∧ h.IsCell c (some u)
theorem CapB.at {P : Program} {w : World} {K : PySem.W.Frag} {mg : Str → Option Value} {base : Heap} {A : Around} {outer : List Env} {s : Shared} {H : Hp} {cl : List (Str × Addr)} {fr : List Str} {ws : List (Option V)} (c : CapB cl fr ws base) (e0 : Env0 P w K mg base A outer s H) : CellsAt cl fr ws s.heap H := by
  refine ⟨c.len, fun y a e => ?_, c.inj, fun i y e => ?_⟩
  · obtain ⟨v, o, ho, hd⟩ := c.all y a e
    exact ⟨(e0.bs a o ho).2, v, o, (e0.bs a o ho).1, hd⟩
  · obtain ⟨a, h1, h2⟩ := c.has i y e
    refine ⟨a, h1, fun v ev => ?_⟩
    obtain ⟨u, r, o, ho, hd⟩ := h2 v ev
    exact ⟨u, r, o, (e0.bs a o ho).1, hd⟩
def rhoF (N : List Str) (es : List (Option PyData)) : Rho := es.map (Option.map Sl.dat) ++ List.replicate (N.length - es.length) none
def fvOf (N : List Str) (es : List (Option PyData)) (de : DEX) : FV := fun μ Q R => de (fun C n s _ μ' => finQ μ.length (R C n) s μ') (rhoF N es) μ (finQ μ.length Q)
theorem rhoF_ok {K : PySem.W.Frag} {W : Wd} {N : List Str} {vs : List V} {ds : List PyData} (h : DvAll K W.G vs ds) (sel : List Nat) : EnvOk K W (startF N [] (sel.map (vs[·]?))) (rhoF N (sel.map (ds[·]?))) := by
  unfold startF rhoF
  refine ⟨by simp, fun i s e => ?_⟩
  by_cases hi : i < sel.length
  · rw [List.getElem?_append_left (by simpa using hi)] at e
    rw [List.map_map, List.getElem?_map] at e
    cases q : sel[i]? with
    | none => rw [q] at e; cases e
    | some j =>
      rw [q] at e
      cases q2 : ds[j]? with
      | none => simp [q2] at e
      | some d =>
        simp [q2] at e
        subst e
        obtain ⟨v, h1, h2⟩ := h.get q2
        refine ⟨v, ?_, h2⟩
        rw [List.map_nil, List.nil_append, List.getElem?_append_left (by simpa using hi), List.getElem?_map, q]
        simp [h1]
  · rw [List.getElem?_append_right (by simpa using Nat.le_of_not_lt hi), List.getElem?_replicate] at e
    split at e <;> cases e
section
variable {P : Program} {w : World} {K : PySem.W.Frag} {mg : Str → Option Value} {base : Heap}
theorem fnV_of {L : LamI} {f : Addr} {vs : List V} {ds : List PyData} {N fr : List Str} {sel : List Nat} {de : DEX} {k : Nat} (S : NScope N [] fr L.scope)
    (hb : ∀ (pm ctv : Value), bindArgs (PySem.W.kla_fn "<lambda>" L.q L.params L.body L.scope L.cl pm (.ref L.c) ctv) ⟨[], []⟩ = pure []) (C : CapB L.cl fr (sel.map (vs[·]?)) base)
    (hbody : ∀ (A : Around) (outer : List Env) (s : Shared) (H : Hp) (E : XK), RoomG k (A.deeper (envF L.nf f s.heap.objs.size)) → PDX (ncx (L2.CX P w) P w K mg base N L.nf f A outer s H E) (fun cls d _ H => E cls d H) L.body de) :
    FnV P w K mg base (k + 1) f (tabF L f vs ds) (fvOf N (sel.map (ds[·]?)) de) := by
  refine ⟨⟨L, vs, ds, rfl⟩, fun A outer s H Q E W μ i Q' R' hr e0 hm r hφ q qE => ?_⟩
  obtain ⟨_, _, _, hG, hD⟩ := r.fn hm
  refine lam_run S hb hr e0 (r.fnAt e0.hok hm) (r.gh _ _ hG) (C.at e0) fun hr2 => ?_
  obtain ⟨t, p, l⟩ := hbody A outer s H E hr2
  refine ⟨t, p, l _ _ μ _ hφ W _ H (rhoF_ok hD sel) r Q ?_ ?_⟩
  · have fq := finQ_ok q
    rw [r.len] at fq
    exact fq
  · intro C n v s1 σ1 ρ1 W1 H1 μ1 dx l1 r1 he1 hs1 hx h1
    have fq := finQ_ok (Q' := R' C n) (Q := fun v H' => ∀ dx, ErrD H' dx n v → E (.ref C) dx H') (W := W) (K := K) fun v s W' H' μ' l' r' hs' h' dx hx' => qE C n v s W' H' μ' dx l' r' hs' hx' h'
    rw [r.len] at fq
    exact fq v s1 W1 H1 μ1 l1 r1 hs1 h1 dx hx
end
abbrev Th := Addr → TabI → FV → Prop
def dCallF (Θ : Th) (i : Nat) : DEX := fun R ρ μ Q => ∃ k f t φ, ρ[i]? = some (some (.cell k)) ∧ μ[k]? = some (.tab f t) ∧ Θ f t φ ∧ φ μ Q (fun C n s μ' => R C n s ρ μ')
section
variable {X : Cx} {XW : WX} {Θ : Th} {lvl i : Nat} {x : Str} {p pos : Pos}
theorem pdx_callF (tk : Takes X XW) (hθ : ∀ f t φ, Θ f t φ → FnV X.prog X.w X.K X.mg X.base lvl f t φ) (hr : RoomG lvl X.A) (hN : X.N[i]? = some x := by rfl) (hv : Vis X.env.scope x := by first | exact Or.inl rfl | exact Or.inr (Or.inl rfl) | exact Or.inr (Or.inr rfl))
    (hd : (x == ("__debug__" : Str)) = false := by decide) (hcd : (x == ("__classdict__" : Str)) = false := by decide) : PDX X XW (.Call (.Name x p) [] [] pos) (dCallF Θ i) := by
  refine ⟨fun σ H Q => ∃ (f : Addr) (t : TabI) (φ : FV) (W : Wd) (μ : Mu) (k : Nat) (Q' : DQ) (R' : RQF), σ[i]? = some (some (.ref f)) ∧ Θ f t φ ∧ μ[k]? = some (Cell.tab f t) ∧ Rep X.K W H μ ∧ φ μ Q' R' ∧ VOk X.K W Q' Q ∧ REOk X.K W R' (WE XW σ), ⟨fun pins s σ H Q I h => ?_⟩, fun R' ρ μ Q' h W σ H hE r Q q hR => ?_⟩
  · obtain ⟨f, t, φ, W, μ, k, Q', R', hs, hT, hm, r, hφ, q, qE⟩ := h
    have F := hθ f t φ hT
    refine wpAny_Call_Name_kw (thn ((pe_var (pos := p) hN hv hd hcd).run pins s σ H (fun v H1 => v = .ref f ∧ H1 = H) I ⟨.ref f, hs, rfl, rfl⟩) fun u s1 ⟨v, H1, I1, r1, q1⟩ => ?_)
    obtain ⟨ev, eH⟩ := q1
    subst ev
    rw [eH] at I1
    obtain rfl : u = Value.ref f := r1
    obtain ⟨L, vs, ds, et⟩ := F.is
    have at_ : L.obj f s1.heap := r.fnAt I1.hok (et ▸ hm)
    have fn : PySem.W.FnAt f s1.heap := by
      obtain ⟨pm, ctv, ho⟩ := at_
      exact ⟨_, _, _, _, ho⟩
    refine PySem.W.callWith_F0 (first := []) fn ?_
    show wpAny _ _ (call (.ref f) []) _ _ _
    refine wpAny_call (codeAny_mono (F.run X.A X.stack s1 H Q (WE XW σ) W μ k Q' R' hr I1.env0 hm r hφ q qE) fun r s' hq => ?_)
    cases r with
    | error e => exact passAt tk σ pins H s1 e s' I1 hq
    | ok fl => cases fl <;> first | exact I1.after hq | exact False.elim hq
  · obtain ⟨k, f, t, φ, h1, h2, h3, h4⟩ := h
    obtain ⟨v, hv1, a, ha, rfl⟩ := hE.get i (.cell k) h1
    have e := r.tab k f t h2
    rw [ha] at e
    cases e
    exact ⟨f, t, φ, W, μ, k, Q', _, hv1, h3, h2, r, h4, q, fun C n v s W2 H2 μ2 dx le2 r2 hs2 hx h2 => hR C n v s σ ρ W2 H2 μ2 dx le2 r2 (hE.mono le2) hs2 hx h2⟩
end
end DL
namespace DL
open PySem PySem.Spec PyProof.Rows L2 Evl LamX NdefX
section
variable {X : Cx} {pins : List (Addr × Obj)} {σ : L2.St} {H H1 : Hp} {s s' : Shared}
theorem Inv.note (I : Inv X pins σ H s) (J : Inv X pins σ H1 s') {f : Addr} {o : HO} (hf : s.heap.objs.size ≤ f) (hn : H1 f = none) (ok : ObjOk X.prog X.w (upd H1 f o) s'.heap f o) : Inv X pins σ (upd H1 f o) s' := by
  have ne : ∀ b, b < s.heap.objs.size → b ≠ f := fun b h z => absurd (Nat.lt_of_lt_of_le h hf) (by rw [z]; exact Nat.lt_irrefl _)
  have old : ∀ b u, X.s_0.heap.get? b = some u → b ≠ f := fun b u e => ne b (Nat.lt_of_lt_of_le (Heap.lt_size e) I.sz)
  have same : ∀ b u, H1 b = some u → upd H1 f o b = some u := fun b u e => by rw [upd_ne (ne_of_none e hn)]; exact e
  refine ⟨J.ok, J.os, J.bare, ⟨J.base.keep, J.base.slot, fun b u e h x => ?_, J.base.there, fun b xs e => same _ _ (J.base.tups b xs e), fun b u v e => same _ _ (J.base.frzs b u v e), fun b ps e => ?_⟩, J.loc, J.cell, ?_, fun x c e => ?_, fun p hp => ?_, fun b u e => ?_, J.len⟩
  · rw [upd_ne (old b u e)]
    exact J.base.free b u e h x
  · obtain ⟨more, q⟩ := J.base.tbls b ps e
    exact ⟨more, same _ _ q⟩
  · rw [upd_ne (ne _ I.lt)]
    exact J.free
  · obtain ⟨v, q⟩ := I.cell x c e
    rw [upd_ne (ne _ q.lt)]
    exact J.freeC x c e
  · obtain ⟨q1, q2, q3⟩ := J.pin p hp
    refine ⟨q1, ?_, q3⟩
    rw [upd_ne (ne _ (Heap.lt_size (I.pin p hp).1))]
    exact q2
  · by_cases z : b = f
    · subst z
      rw [upd_same] at e
      cases e
      exact ok
    · rw [upd_ne z] at e
      exact (J.hok b u e).stay (fun _ _ _ q => q) (fun c q => same _ _ q) fun c xs q => same _ _ q
structure LamN (X : Cx) (pins : List (Addr × Obj)) (σ : L2.St) (H : Hp) (n : Nat) (P : Addr) (q : Str) (ps : Array Value) (L : LamI) (f : Addr) (H1 : Hp) (s' : Shared) : Prop where
  inv : Inv X pins σ H1 s'
  way : (H1 = H ∧ ∀ G, TblOk G q ps → G L.c = some (CodeO L.c q)) ∨ ∃ more, H L.c = none ∧ H1 = upd (upd H P (.tbl (ps ++ more))) L.c (CodeO L.c q) ∧ ∀ G G' : Hp, TblOk G q ps → (∀ b o, G b = some o → (∀ ps, o ≠ .tbl ps) → G' b = some o) → G' L.c = some (CodeO L.c q) → TblOk G' q (ps ++ more)
  fun_ : L.obj f s'.heap
  off : H1 f = none
  offH : H f = none
  beyond : n ≤ f
theorem lam_make4 {c P : Addr} {q : Str} {ps : Array Value} {params : Arguments} {body : Expr} {scope : Scope} {pos : Pos} {E : Value → Shared → Prop} {Q : Value → Shared → Prop} {mk : Addr → LamI} (I : Inv X pins σ H s) (TB : TabB X.base X.mg c P) (hcode : X.env.code = .ref c)
    (hq : X.env.qual ++ "<lambda>" = q) (hP : H P = some (.tbl ps)) (hG : TblOk H q ps) (hdef : defaultsOf params X.env = ([], [])) (hfree : ∀ y ∈ scope.names, y.2 = .free → ∃ c, X.env.cells.lookup y.1 = some c)
    (hmk : ∀ c', mk c' = ⟨q, params, body, scope, cloFrom X.env.cells scope.names [], c'⟩)
    (h : ∀ (f c' : Addr) (H1 : Hp) (s' : Shared), LamN X pins σ H s.heap.objs.size P q ps (mk c') f H1 s' → Q (.ref f) s') :
    wpAny (model X.prog X.w) X.A (eval (.Lambda params body scope pos) X.env) Q E s := by
  have code := TB.code.keeps I.bk
  have blt := TB.bm.keeps I.bk
  have glob := I.mod.glob.keeps I.bk
  have tab := I.hok P _ hP
  have clo := closure_ok hfree
  have qq : ∀ c', (mk c').q = q := fun c' => by rw [hmk c']
  have cc : ∀ c', (mk c').c = c' := fun c' => by rw [hmk c']
  subst hq
  apply PySem.W.kla_eval hdef
  match among : codeAmong pos ps.toList with
  | some cv =>
    obtain ⟨d, rfl, known⟩ := hG.2 pos cv among
    apply PySem.W.kla_makeFunctionHit clo I.ok.glob glob hcode code tab hG.1 among blt
    intro ctv h' tk more beyond
    have nobody := inv_beyond I beyond
    refine h _ d H _ { inv := I.kept fun b o e => Heap.get?_push_of_some _ (more b o e), way := .inl ⟨rfl, fun G tG => ?_⟩, fun_ := ?_, off := nobody.1, offH := nobody.1, beyond }
    · obtain ⟨d', e, k⟩ := tG.2 pos _ among
      cases e
      rw [cc]
      exact k
    · rw [hmk]
      exact ⟨_, ctv, Heap.get?_push_size _ rfl⟩
  | none =>
    apply PySem.W.kla_makeFunction clo I.ok.glob glob hcode code tab hG.1 among TB.gP blt
    rintro d ctv h' tk keep at_ under ⟨d', oc, vs, t, e, r1, r2, r3⟩ grown
    cases e
    have beyond : s.heap.objs.size ≤ h'.objs.size := Nat.le_of_lt (Nat.lt_of_le_of_lt at_ under)
    have nobody := inv_beyond I beyond
    have off : h'.objs.size ≠ d ∧ h'.objs.size ≠ P := ⟨Nat.ne_of_gt under, fun z => absurd (Heap.lt_size tab) (Nat.not_lt.mpr (z ▸ beyond))⟩
    refine h _ d _ _ { inv := inv_table I hP (fun b o ne e => Heap.get?_push_of_some _ (keep b o ne e)) (Heap.get?_push_of_some _ grown) at_ ⟨oc, vs, t, Heap.get?_push_of_some _ r1, r2, r3⟩, way := .inr ⟨#[rawInt pos.line, rawInt pos.col, .ref d], ?_, ?_, fun G G' a b c => ?_⟩, fun_ := ?_, off := ?_, offH := nobody.1, beyond }
    · rw [cc]
      exact I.hok.fresh at_
    · rw [cc]
    · rw [cc] at c
      exact a.one (at0 := pos) b c
    · rw [hmk]
      exact ⟨_, ctv, Heap.get?_push_size _ rfl⟩
    · exact (upd_ne off.1).trans ((upd_ne off.2).trans nobody.1)
end
def dLam (k0 : Nat) (T : Addr) (q : Str) (mk : Addr → LamI) : DE := fun _ μ Q => μ[k0]? = some (.tab T q) ∧ ∀ f c, Q (.cell μ.length) (μ ++ [.tab f (tabF (mk c) f [] [])])
section
variable {K : PySem.W.Frag} {W : Wd} {H : Hp} {μ : Mu} {Q' : DQ} {Q : VK}
theorem getElem?_snoc_lt {α : Type} {l : List α} {x y : α} {k : Nat} (h : (l ++ [x])[k]? = some y) : (k < l.length ∧ l[k]? = some y) ∨ (k = l.length ∧ y = x) := by
  by_cases hl : k < l.length
  · rw [List.getElem?_append_left hl] at h; exact .inl ⟨hl, h⟩
  · rw [List.getElem?_append_right (by omega)] at h
    have e := (List.getElem?_eq_some_iff.mp h).1
    have e' : k - l.length = 0 := by simpa using e
    rw [e'] at h
    exact .inr ⟨by omega, (Option.some.inj h).symm⟩
theorem Rep.fnNew (r : Rep K W H μ) {p : Addr} (hp : H p = none) {q : Heap → Prop} {c : Addr} {oc : HO} {vs : List V} {ds : List PyData} (hc : W.G c = some oc) (hd : DvAll K W.G vs ds) : Rep K (W.cellNew p) (upd H p (.ext q)) (μ ++ [.tab p (.fn q c oc vs ds)]) := by
  have r0 := r.cellNew (c := .lst []) (o := .lst []) hp (show CellOk K W.G (.lst []) (.lst []) from .nil)
  have at_ : (W.ad ++ [p])[μ.length]? = some p := by
    rw [List.getElem?_append_right (by rw [r.len]; exact Nat.le_refl _), r.len, Nat.sub_self]
    rfl
  refine ⟨r.gf, r.fh.trans (Ex.new hp), ?_, r0.nd, fun k a c' ha hc' => ?_, fun k P t hk => ?_⟩
  · have := r0.len
    rw [List.length_append] at this ⊢
    exact this
  · rcases getElem?_snoc_lt hc' with ⟨h1, h2⟩ | ⟨h1, h2⟩
    · have z : (W.ad ++ [p])[k]? = some a := ha
      rw [List.getElem?_append_left (by rw [r.len]; exact h1)] at z
      obtain ⟨q1, o', q2, q3⟩ := r.cell k a c' z h2
      have ne : a ≠ p := fun z => by rw [z, hp] at q2; cases q2
      exact ⟨q1, o', by rw [upd_ne ne]; exact q2, q3⟩
    · subst h1
      have z : (W.ad ++ [p])[μ.length]? = some a := ha
      rw [at_] at z
      cases z
      subst h2
      exact ⟨(r.fresh hp).1, _, upd_same, rfl, hc, hd⟩
  · rcases getElem?_snoc_lt hk with ⟨h1, h2⟩ | ⟨h1, h2⟩
    · show (W.ad ++ [p])[k]? = some P
      rw [List.getElem?_append_left (by rw [r.len]; exact h1)]
      exact r.tab k P t h2
    · subst h1
      cases h2
      exact at_
end
section
variable {X : Cx} {k0 : Nat} {T c0 : Addr} {q : Str} {mk : Addr → LamI} {params : Arguments} {body : Expr} {scope : Scope} {pos : Pos}
theorem pd_lam (TB : TabB X.base X.mg c0 T) (hcode : X.env.code = .ref c0) (hmk : ∀ c', mk c' = ⟨q, params, body, scope, cloFrom X.env.cells scope.names [], c'⟩) (hq : X.env.qual ++ "<lambda>" = q) (hdef : defaultsOf params X.env = ([], []))
    (hfree : ∀ y ∈ scope.names, y.2 = .free → X.env.scope.names.lookup y.1 = some .cell ∨ X.env.scope.names.lookup y.1 = some .free) : PD X (.Lambda params body scope pos) (dLam k0 T q mk) := by
  refine ⟨fun σ H Q => ∃ ps, H T = some (.tbl ps) ∧ TblOk H q ps ∧ ∀ f c' H1, ((H1 = H ∧ ∀ G, TblOk G q ps → G c' = some (CodeO c' q)) ∨ ∃ more, H c' = none ∧ H1 = upd (upd H T (.tbl (ps ++ more))) c' (CodeO c' q) ∧ ∀ G G' : Hp, TblOk G q ps → (∀ b o, G b = some o → (∀ ps, o ≠ .tbl ps) → G' b = some o) → G' c' = some (CodeO c' q) → TblOk G' q (ps ++ more)) →
      H1 f = none → Q (.ref f) (upd H1 f (.ext ((mk c').obj f))), ⟨fun pins s σ H Q I h => ?_⟩, fun ρ μ Q' h W σ H hE r Q q' => ?_⟩
  · obtain ⟨ps, hP, hG, hq2⟩ := h
    refine lam_make4 I TB hcode hq hP hG hdef (fun y hy e => (hfree y hy e).elim (fun z => I.ok.has _ (.inl z)) fun z => I.ok.has _ (.inr z)) hmk fun f c' H1 s' N => ?_
    have cc : (mk c').c = c' := by rw [hmk c']
    have way := N.way
    rw [cc] at way
    exact ⟨.ref f, _, Inv.note I N.inv N.beyond N.off (lamAt_ok N.fun_), rfl, hq2 f c' H1 way N.off⟩
  · obtain ⟨hk, h⟩ := h
    obtain ⟨ha, hF, ps, hP, hT⟩ := r.tbl hk
    refine ⟨ps, hP, hT.mono r.gh, fun f c' H1 way off => ?_⟩
    have cc : (mk c').c = c' := by rw [hmk c']
    have qc : (mk c').q = q := by rw [hmk c']
    have fin : ∀ (W1 : Wd) (H1 : Hp), Le W W1 → Rep X.K W1 H1 μ → W1.G c' = some (CodeO c' q) → H1 f = none → Q (.ref f) (upd H1 f (.ext ((mk c').obj f))) := fun W1 H1 le1 r1 hG hf => by
      have r2 := r1.fnNew (q := (mk c').obj f) (c := (mk c').c) (oc := CodeO (mk c').c (mk c').q) (vs := []) (ds := []) hf (by rw [cc, qc]; exact hG) .nil
      refine q' _ (.cell μ.length) (W1.cellNew f) _ _ (le1.trans (Le.cellNew W1 f)) r2 ⟨f, ?_, rfl⟩ (h f c')
      show (W1.ad ++ [f])[μ.length]? = some f
      rw [List.getElem?_append_right (by rw [r1.len]; exact Nat.le_refl _), r1.len, Nat.sub_self]
      rfl
    rcases way with ⟨rfl, g⟩ | ⟨more, nC, rfl, hm⟩
    · exact fin W H1 (Le.refl W) r (g _ hT) off
    · have n1 : T ≠ c' := ne_of_none hP nC
      have r2 := r.new (o := CodeO c' q) nC
      have G2 : TblOk (W.new c' (CodeO c' q)).G q (ps ++ more) := hm W.G _ hT (fun b o e _ => by
        show upd W.G c' _ b = some o
        rw [upd_ne (fun z => by subst z; rw [r.gh _ _ e] at nC; cases nC)]
        exact e) upd_same
      have r3 := r2.tbw hk G2
      have eH : upd (upd H T (.tbl (ps ++ more))) c' (CodeO c' q) = upd (upd H c' (CodeO c' q)) T (.tbl (ps ++ more)) := by
        funext b
        by_cases z1 : b = c'
        · subst z1
          rw [upd_same, upd_ne (fun z => n1 z.symm), upd_same]
        · rw [upd_ne z1]
          by_cases z2 : b = T
          · subst z2
            rw [upd_same, upd_same]
          · rw [upd_ne z2, upd_ne z2, upd_ne z1]
      rw [eH] at off ⊢
      exact fin _ _ (Le.new r nC) r3 upd_same off
end
end DL
namespace DL
open PySem PySem.Spec PyProof.Rows L2 Evl LamX NdefX
def upC (vs : List V) (ds : List PyData) : Cell → Cell
  | .tab P (.fn p c oc _ _) => .tab P (.fn p c oc vs ds)
  | c => c
def upM (vs : List V) (ds : List PyData) (μ : Mu) : Mu := μ.map (upC vs ds)
section
variable {K : PySem.W.Frag} {W : Wd} {H : Hp} {μ : Mu} {vs : List V} {ds : List PyData}
theorem CellOk.up {G : Hp} {o : HO} {c : Cell} (h : CellOk K G o c) (hd : DvAll K G vs ds) : CellOk K G o (upC vs ds c) := by
  cases c with
  | tab P q =>
    cases q with
    | nm q => exact h
    | fn p c oc us es =>
      cases o <;> first | exact False.elim h | skip
      obtain ⟨h1, h2, _⟩ := h
      exact ⟨h1, h2, hd⟩
  | _ => exact h
theorem upC_tab {c : Cell} {P : Addr} {q : TabI} (h : upC vs ds c = .tab P q) : ∃ q0, c = .tab P q0 := by
  cases c with
  | tab P' q' =>
    cases q' <;> cases h <;> exact ⟨_, rfl⟩
  | _ => cases h
theorem Rep.up (r : Rep K W H μ) (hd : DvAll K W.G vs ds) : Rep K W H (upM vs ds μ) := by
  refine ⟨r.gf, r.fh, by unfold upM; rw [List.length_map]; exact r.len, r.nd, fun k a c ha hc => ?_, fun k P q hk => ?_⟩
  · unfold upM at hc
    rw [List.getElem?_map] at hc
    cases e : μ[k]? with
    | none => rw [e] at hc; cases hc
    | some c0 =>
      rw [e] at hc
      cases hc
      obtain ⟨q1, o, q2, q3⟩ := r.cell k a c0 ha e
      exact ⟨q1, o, q2, q3.up hd⟩
  · unfold upM at hk
    rw [List.getElem?_map] at hk
    cases e : μ[k]? with
    | none => rw [e] at hk; cases hk
    | some c0 =>
      rw [e] at hk
      obtain ⟨q0, rfl⟩ := upC_tab (Option.some.inj hk)
      exact r.tab k P q0 e
theorem VOk.dn {Q' : DQ} {Q : VK} (h : VOk K W Q' Q) : VOk K W (fun s μ => Q' s (upM [] [] μ)) Q := fun v s W' H' μ' l r hs q => h v s W' H' _ l (r.up .nil) hs q
end
structure LamT where
  li : Addr → LamI
  N : List Str
  fr : List Str
  sel : List Nat
  de : DEX
def ThC (Ss : List LamT) (vs : List V) (ds : List PyData) : Th := fun f t φ => ∃ S ∈ Ss, ∃ c, t = tabF (S.li c) f vs ds ∧ φ = fvOf S.N (S.sel.map (ds[·]?)) S.de
structure LamTOk (X : Cx) (lvl : Nat) (js : List Nat) (S : LamT) : Prop where
  scope : ∀ c, NScope S.N [] S.fr (S.li c).scope
  bind : ∀ (c : Addr) (pm ctv : Value), bindArgs (PySem.W.kla_fn "<lambda>" (S.li c).q (S.li c).params (S.li c).body (S.li c).scope (S.li c).cl pm (.ref (S.li c).c) ctv) ⟨[], []⟩ = pure []
  caps : X.Ok → ∀ c, Caps X (S.li c).cl S.fr (S.sel.map fun k => js.getD k 0)
  sel : ∀ k ∈ S.sel, k < js.length
  body : ∀ (base : Heap) (c f : Addr) (A : Around) (outer : List Env) (s : Shared) (H : Hp) (E : XK), RoomG lvl (A.deeper (envF (S.li c).nf f s.heap.objs.size)) →
    PDX (ncx (L2.CX X.prog X.w) X.prog X.w X.K X.mg base S.N (S.li c).nf f A outer s H E) (fun cls d _ H => E cls d H) (S.li c).body S.de
structure OwnT (P : Program) (w : World) (K : PySem.W.Frag) (mg : Str → Option Value) (y : Str) (st : Stmt) (ps : List Str) (lvl k n : Nat) (φ : Th → DF) : Prop where
  ex : ∃ g fd, Fun K y y st g fd ∧ mg y = some (.ref g) ∧ ∀ (base : Heap) (Θ : Th), (∀ f t φ, Θ f t φ → FnV P w K mg base lvl f t φ) → FnG P w K mg base CX0 k g fd ps (SpD K n (φ Θ))
def dCallT (js : List Nat) (Ss : List LamT) (n : Nat) (φ : Th → DF) (a : DA) : DE := fun ρ μ Q => a ρ μ fun ss μ1 => ss.length = n ∧ ∃ ds : List PyData, js.map (fun j => ρ[j]?) = ds.map (fun d => some (some (Sl.dat d))) ∧ ∀ vs, φ (ThC Ss vs ds) ss (upM vs ds μ1) (fun s μ2 => Q s (upM [] [] μ2))
theorem held_of {K : PySem.W.Frag} {W : Wd} {σ : L2.St} {ρ : Rho} (h : EnvOk K W σ ρ) : ∀ (js : List Nat) (ds : List PyData), js.map (fun j => ρ[j]?) = ds.map (fun d => some (some (Sl.dat d))) → ∃ vs : List V, js.map (slotAt σ) = vs.map some ∧ DvAll K W.G vs ds
  | [], [], _ => ⟨[], rfl, .nil⟩
  | [], _ :: _, e => by cases e
  | _ :: _, [], e => by cases e
  | j :: js, d :: ds, e => by
    rw [List.map_cons, List.map_cons] at e
    obtain ⟨e1, e2⟩ := List.cons.inj e
    obtain ⟨vs, h1, h2⟩ := held_of h js ds e2
    obtain ⟨v, q1, q2⟩ := h.get j (.dat d) e1
    exact ⟨v :: vs, by rw [List.map_cons, List.map_cons, h1, slotAt_of q1], .cons q2 h2⟩
theorem sel_at {σ : L2.St} {js : List Nat} {vs : List V} (h : js.map (slotAt σ) = vs.map some) (sel : List Nat) (hs : ∀ k ∈ sel, k < js.length) : (sel.map fun k => js.getD k 0).map (slotAt σ) = sel.map (vs[·]?) := by
  rw [List.map_map]
  refine List.map_congr_left fun k hk => ?_
  have lt := hs k hk
  have e : (js.map (slotAt σ))[k]? = (vs.map some)[k]? := by rw [h]
  rw [List.getElem?_map, List.getElem?_map, List.getElem?_eq_getElem lt] at e
  show slotAt σ (js.getD k 0) = vs[k]?
  rw [List.getD_eq_getElem?_getD, List.getElem?_eq_getElem lt]
  show slotAt σ js[k] = vs[k]?
  cases q : vs[k]? with
  | none => rw [q] at e; cases e
  | some v => rw [q] at e; exact Option.some.inj e
section
variable {X : Cx} {pins : List (Addr × Obj)} {σ : L2.St} {H : Hp} {s : Shared}
theorem base_for {lvl : Nat} {js : List Nat} {Ss : List LamT} {vs : List V} {ds : List PyData} (I : Inv X pins σ H s) (hfn : ∀ y, X.fn y = true) (hS : ∀ S ∈ Ss, LamTOk X lvl js S) (hv : js.map (slotAt σ) = vs.map some) :
    ∃ base : Heap, Env0 X.prog X.w X.K X.mg base X.A X.stack s H ∧ ∀ f t φ, ThC Ss vs ds f t φ → FnV X.prog X.w X.K X.mg base (lvl + 1) f t φ := by
  obtain ⟨base, e0, old⟩ := env0_snap I (X.env.cells.filterMap fun y => X.env.cells.lookup y.1) fun c hc => by
    obtain ⟨y, _, hy⟩ := List.mem_filterMap.mp hc
    exact own_cell I (hfn y.1) hy
  refine ⟨base, e0, fun f t φ hT => ?_⟩
  obtain ⟨S, hm, c, rfl, rfl⟩ := hT
  have ok := hS S hm
  have cp := ok.caps I.ok c
  have C := cells_of I cp
  rw [sel_at hv S.sel ok.sel] at C
  have keep : ∀ y a, (S.li c).cl.lookup y = some a → ∀ v, s.heap.IsCell a v → base.IsCell a v := fun y a e v ⟨o, ho, hd⟩ => by
    have e2 := cp.sub y a e
    exact ⟨o, old a (List.mem_filterMap.mpr ⟨(y, a), PySem.mem_of_lookup e2, e2⟩) o ho, hd⟩
  refine fnV_of (ok.scope c) (ok.bind c) ⟨C.len, fun y a e => ?_, C.inj, fun i y e => ?_⟩ (ok.body base c f)
  · obtain ⟨_, v, z⟩ := C.all y a e
    exact ⟨v, keep y a e v z⟩
  · obtain ⟨a, h1, h2⟩ := C.has i y e
    refine ⟨a, h1, fun v ev => ?_⟩
    obtain ⟨u, r, z⟩ := h2 v ev
    exact ⟨u, r, keep y a h1 _ z⟩
end
section
variable {X : Cx} {lvl k n : Nat} {js : List Nat} {Ss : List LamT} {φ : Th → DF} {a : DA} {y : Str} {e : Expr} {es : List Expr} {p pos : Pos} {st : Stmt} {ps : List Str}
theorem pd_callT (o : OwnT X.prog X.w X.K X.mg y st ps (lvl + 1) k n φ) (hr : RoomG k X.A) (hfn : ∀ y, X.fn y = true) (hS : ∀ S ∈ Ss, LamTOk X lvl js S)
    (hb : ∀ (kV doc pm : Value) (an : Option Addr) (cdv ct : Value) (us : List Value), us.length = ps.length → bindArgs (PySem.W.fnOf y y (defArgs st) (defBody st) (defScope st) .none kV doc pm an cdv ct) ⟨us, []⟩ = pure (ps.zip us))
    (ha : PDA X (e :: es) a) (hg : Gl X y := by rfl) (hdb : (y == ("__debug__" : Str)) = false := by decide)
    (he : starEach (e :: es) X.env = (false, eval e X.env) :: starEach es X.env := by rfl) (hpl : (backTo pos (starEach es X.env)).any (·.1) = false := by rfl) : PD X (.Call (.Name y p) (e :: es) [] pos) (dCallT js Ss n φ a) := by
  obtain ⟨g, fd, F, hm, G⟩ := o
  obtain ⟨ta, pa, la⟩ := ha
  refine ⟨fun σ H Q => ta σ H fun us H1 => ∃ (W : Wd) (ss : List Sl) (μ : Mu) (Q' : DQ) (vs : List V) (ds : List PyData), us.length = n ∧ js.map (slotAt σ) = vs.map some ∧ SlAll X.K W us ss ∧ Rep X.K W H1 μ ∧ φ (ThC Ss vs ds) ss μ Q' ∧ VOk X.K W Q' Q,
    ⟨fun pins s σ H Q I h => wpAny_Call_Name_kw (ld_glob I hg hm ?_ hdb)⟩, fun ρ μ Q' h W σ H hE r Q q => ?_⟩
  · refine PySem.W.callWith_K (h₀ := X.base) I.ok.mod.kin F.kp (thn (pa.run pos pins s σ H _ I h) fun us s1 z => ?_) he hpl
    obtain ⟨vs', H1, I1, r, W, ss, μ, Q', vs, ds, hl, hv, hss, rp, hφ, q⟩ := z
    obtain ⟨base, e0, hθ⟩ := base_for (ds := ds) I1 hfn hS hv
    have F1 := G base (ThC Ss vs ds) hθ
    have hsp : SpD X.K n (φ (ThC Ss vs ds)) vs' H1 Q E0 := ⟨W, ss, μ, Q', hl, hss, rp, hφ, q⟩
    have hl2 : us.length = ps.length := by rw [← r.length]; exact F1.len _ _ _ _ hsp
    have b := (F.binds hb) s1 us I1.kIn (by rw [List.append_nil]; exact hl2)
    rw [List.append_nil] at b
    refine ⟨I1.kIn, wpAny_call (codeAny_mono (F1.run X.A X.stack s1 H1 ⟨us, []⟩ us vs' Q E0 hr e0 b r hsp) fun r s' hq => ?_)⟩
    cases r with
    | error e => exact False.elim hq
    | ok fl => cases fl <;> first | exact I1.after hq | exact False.elim hq
  · refine la ρ μ _ h W σ H hE r _ fun us ss W1 H1 μ1 le1 r1 hss h1 => ?_
    obtain ⟨hn, ds, hd, h1⟩ := h1
    obtain ⟨vs, hv, hD⟩ := held_of (hE.mono le1) js ds hd
    exact ⟨W1, ss, _, _, vs, ds, by rw [hss.length]; exact hn, hv, hss, r1.up hD, h1 vs, (q.le le1).dn⟩
end
end DL
namespace DL
open PySem PySem.Spec PyProof.Rows L2 Evl
structure Air (X : Cx) (pins : List (Addr × Obj)) (a : Addr) (G : Heap) (t : Shared) (σ : L2.St) (H : Hp) (cls : Value) (d : Option Addr) (s : Shared) : Prop where
  inv : Inv X pins σ H t
  old : ∀ b o, t.heap.get? b = some o → b ∉ frs X.stack → G.get? b = some o
  up : t.heap.UpToSlots s.heap
  fly : HandSPX.FlyingZ G X.stack a (Zc cls d) s.heap
  free : H a = none
  os : s.os = t.os
  bare : AllBare s.gens
section
variable {X : Cx} {pins : List (Addr × Obj)} {a : Addr} {G : Heap} {t s : Shared} {σ : L2.St} {H : Hp} {cls : Value} {d : Option Addr}
theorem Air.here (r : Air X pins a G t σ H cls d s) : Inv X pins σ H s := Inv.landed r.inv r.old r.fly.1 r.up r.os r.bare
theorem Air.apart (r : Air X pins a G t σ H cls d s) : a ∉ frs X.stack := fun z => by
  obtain ⟨o, vs, e, _, dd⟩ := r.fly.there
  obtain ⟨_, o2, e2, no⟩ := r.fly.2.2.1.mem z
  cases e.symm.trans e2
  exact no vs dd
theorem Air.look (r : Air X pins a G t σ H cls d s) (hs : X.stack = X.env :: X.outer) (hf : X.env.frame = some X.env.locals) : ∃ o, Zc cls d o ∧ (∃ vs, o.data = .fields vs) ∧ s.heap.get? a = some o ∧ Inv (X.suite a ((a, o) :: (X.pn ++ pins))) [] σ H s := by
  obtain ⟨o, vs, e, z, dd⟩ := r.fly.there
  have out := r.apart
  have sub : ∀ b ∈ frs (X.env :: X.outer), b ∈ frs X.stack := fun b h => by rw [hs]; exact h
  refine ⟨o, z, ⟨vs, dd⟩, e, r.here.suite e dd r.free (fun q => out (sub a ?_)) (fun q => out (sub a ?_))⟩
  · unfold frs
    rw [List.filterMap_cons, hf, q]
    exact List.mem_cons_self
  · unfold frs
    rw [List.filterMap_cons, hf]
    exact List.mem_cons_of_mem _ q
end
def Hs (X : Cx) (hds : List ExceptHandler) (V : Ends → WX) : Prop := ∀ (D : Ends) (pins : List (Addr × Obj)) (a : Addr) (G : Heap) (t : Shared) (σ : L2.St) (H : Hp) (cls : Value) (d : Option Addr) (s : Shared),
  Air X pins a G t σ H cls d s → V D cls d σ H → wpAny (model X.prog X.w) X.A (handleBy (.ref a) X.env hds) (SP X pins D) X.xe s
section
variable {X : Cx} {V : Ends → WX} {Wout : WX} {x n : Str} {c : Value} {i : Nat} {b₀ : Stmt} {sts : List Stmt} {np pos' pos : Pos} {hds : List ExceptHandler} {ts : Addr → Value → Option Addr → TS}
theorem hs_nil (hs : X.stack = X.env :: X.outer) (hf : X.env.frame = some X.env.locals) (tk : Takes X Wout) : Hs X [] fun _ => Wout := fun D pins a G t σ H cls d s r w => by
  apply wpAny_handleBy_nil
  have fl := r.fly
  obtain ⟨_, _, _, o, vs, T, _, _, at_, _, dd, first, _⟩ := id fl
  have goes : wpAny (model X.prog X.w) X.A (setFlight (.ref a) (some X.env.locals)) (fun _ s4 => wpAny (model X.prog X.w) X.A (throw (.ref a) : Sem Flow) (SP X pins D) X.xe s4) X.xe s := by
    rw [hs] at fl
    refine HandSPX.setFlight_upZ fl fun h4 held up4 => wpAny_throw (tk _ _ ⟨a, G, t, pins, σ, H, cls, d, rfl, r.inv, r.old, r.up.trans up4, .inr (.inr ?_), r.free, r.os, r.bare, w⟩)
    rw [hs]
    exact held
  rw [← hf] at goes
  unfold PySem.passOn
  refine wpAny_bind (wpAny_field at_ dd first ?_)
  rw [if_neg (by simp)]
  first
    | exact wpAny_bind (wpAny_pure (wpAny_bind goes))
    | exact wpAny_bind goes
theorem hs_as (hs : X.stack = X.env :: X.outer) (hf : X.env.frame = some X.env.locals) (hN : X.N.Nodup) (hi : X.N[i]? = some n) (hln : X.env.kindOf n = some .local) (hc : Names X x c)
    (hsu : ∀ (a : Addr) (oe : Obj) (cls : Value) (d : Option Addr) (pn : List (Addr × Obj)), Zc cls d oe → (∃ vs, oe.data = .fields vs) → PSs (X.suite a ((a, oe) :: pn)) (b₀ :: sts) (ts a cls d)) (more : Hs X hds V) :
    Hs X (.ExceptHandler (some (.Name x np)) (some n) (b₀ :: sts) pos' :: hds) fun D => wAs X.K c i ts (V D) D := fun D pins a G t σ H cls d s r w => by
  obtain ⟨b, hit, yes, no⟩ := w
  obtain ⟨o, z, _, at_, S⟩ := r.look hs hf
  have class_ : PySem.W.Looks (model X.prog X.w) s.heap (typeOf (.ref a)) cls := fun A Q E u k q => wpAny_typeOf_ref (k _ _ at_) (by rw [z.1]; exact q)
  have read : ∀ {Q E : Value → Shared → Prop}, Q c s → wpAny (model X.prog X.w) (X.A.mark (some (.ref a))) (eval (.Name x np) X.env) Q E s := fun {Q E} q => by
    rcases hc with ⟨g1, g2, g3 | ⟨g3, g4, g5⟩⟩
    · exact ld_glob (X := X.suite a ((a, o) :: (X.pn ++ pins))) S g1 g3 q g2
    · exact ld_blt (X := X.suite a ((a, o) :: (X.pn ++ pins))) S g1 g3 g4 q g5 g2
  refine wpAny_handleBy_cons (codeAny_handlers_test (read ((PySem.W.exm_one (M := model X.prog X.w) r.here.kIn class_ hit).here ?_))) (by intro q; cases q)
  cases b with
  | false => exact more D pins a G t σ H cls d s r (no rfl)
  | true =>
    have fl := r.fly
    refine codeAny_handlers_suite_as (HandSPX.lands_againZ fl fun h4 fl4 up4 => ?_)
    have r4 : Air X pins a G t σ H cls d { s with heap := h4 } := ⟨r.inv, r.old, r.up.trans up4, fl4, r.free, r.os, r.bare⟩
    obtain ⟨o4, z4, d4, _, S4⟩ := r4.look hs hf
    refine store_ok (X := X.suite a ((a, o4) :: (X.pn ++ pins))) (v := .ref a) S4 hN hi (.inl hln) rfl (fun s5 S5 => ?_) (.inr hln)
    refine wpAny_mono ((hsu a o4 cls d (X.pn ++ pins) z4 d4).run [] s5 _ H _ S5 (yes rfl a r.free)) (fun f s6 got => ?_) (fun _ _ q => q.elim)
    have last : ∀ {σ6 : L2.St} {H6 : Hp} {Q : Shared → Prop}, Inv (X.suite a ((a, o4) :: (X.pn ++ pins))) [] σ6 H6 s6 → (∀ s7, Inv X pins (σ6.set i none) H6 s7 → Q s7) →
        wpAny (model X.prog X.w) X.A (do bindName X.env n .none; unbindBehindTheSuite X.env n pos') (fun _ s7 => Q s7) X.xe s6 := fun {σ6 H6 Q} S6 q => gone_ok (S6.unsuite r.inv.ok) hN hi hln q
    match f, got with
    | .next, ⟨_, _, S6, q⟩ => exact last S6 fun s7 J => ⟨_, _, J, q⟩
    | .brk, ⟨_, _, S6, q⟩ => exact last S6 fun s7 J => ⟨_, _, J, q⟩
    | .cont, ⟨_, _, S6, q⟩ => exact last S6 fun s7 J => ⟨_, _, J, q⟩
    | .ret u, ⟨_, _, _, S6, rv, q⟩ => exact last S6 fun s7 J => ⟨_, _, _, J, rv, q⟩
theorem ps_try_hs {body : List Stmt} {h₀ : ExceptHandler} {tb : WX → TS} (hs : X.stack = X.env :: X.outer) (hf : X.env.frame = some X.env.locals)
    (hb : ∀ (W : WX) (pn : List (Addr × Obj)) (xe : Value → Shared → Prop), Takes (X.tr pn xe) W → PassesOwn (model X.prog X.w) X.A X.env xe → PSs (X.tr pn xe) body (tb W)) (hh : Hs X (h₀ :: hds) V) :
    PS X (.Try body (h₀ :: hds) [] [] pos) (fun D σ H => tb (V D) D σ H) := by
  constructor
  intro pins s σ H D I h
  have ok := I.ok
  apply wpAny_Try_except
  have run := (hb (V D) (X.pn ++ pins) (fun e s₁ => wpAny (model X.prog X.w) X.A (noteFrame e X.env) (fun _ s₂ => wpAny (model X.prog X.w) X.A (setFlight e none) (fun _ s₃ =>
    wpAny (model X.prog X.w) X.A (handleBy e X.env (h₀ :: hds)) (SP X pins D) X.xe s₃) X.xe s₂) X.xe s₁) (fun u s' air => ?_) PassesOwn.looking).run [] s σ H D (I.toTry _) h
  · refine wpAny_mono run (fun f s1 got => ?_) (fun _ _ q => q)
    match f, got with
    | .next, ⟨σ', H', J, q⟩ => exact wpAny_execs_nil ⟨σ', H', J.ofTry ok, q⟩
    | .brk, ⟨σ', H', J, q⟩ => exact ⟨σ', H', J.ofTry ok, q⟩
    | .cont, ⟨σ', H', J, q⟩ => exact ⟨σ', H', J.ofTry ok, q⟩
    | .ret u, ⟨v, σ', H', J, rv, q⟩ => exact ⟨v, σ', H', J.ofTry ok, rv, q⟩
  · obtain ⟨a, G, t, pins', σ', H', cls, d, rfl, J, old, up, sky, na, os, bare, w⟩ := air
    have J' : Inv X pins σ' H' t := J.ofTry ok
    have frames : X.A.frames = some (X.env :: X.outer) := by rw [ok.frames, hs]
    have sky' : Sky G (X.env :: X.outer) a (Zc cls d) X.env.locals s'.heap := by rw [← hs]; exact sky
    refine Sky.land Zc.steady frames hf sky' fun h3 fl3 up3 => ?_
    refine hh D pins a G t σ' H' cls d _ ⟨J', old, up.trans up3, ?_, na, os, bare⟩ w
    rw [hs]
    exact fl3
end
end DL
namespace DL
open PySem PySem.Spec PyProof.Rows L2 Evl
structure ErrN (K : PySem.W.Frag) (mg : Str → Option Value) (x : Str) (C : Addr) : Prop where
  gC : mg x = some (.ref C)
  kC : PySem.W.keepIn K (.ref C) = true
  sub : PySem.W.subIn K (.ref C) (.type "BaseException") = some true
  ty : PySem.W.typeIn K (.ref C) = some (.type "type")
  made : ∃ B newId initId bmB, ExcBaseFacts B newId initId bmB ∧ PySem.W.excIn K C bmB newId = true
  te : PySem.W.exmOne K (.ref C) (.ref C) = some true
theorem pmk_errN {X : Cx} {x : Str} {C : Addr} {p pos : Pos} (T : ErrN X.K X.mg x C) (hg : Gl X x) (hdb : (x == ("__debug__" : Str)) = false) : PMk X (.Call (.Name x p) [] [] pos) (fun _ H Q => Q (.ref C) none H) := by
  intro pins s σ H Q I h
  obtain ⟨B, newId, initId, bmB, F, q⟩ := T.made
  refine wpAny_Call_Name_kw (ld_glob I hg T.gC ?_ hdb)
  refine PySem.W.callWith_K0 I.kIn T.kC ?_
  show wpAny _ _ (call (.ref C) []) _ _ _
  obtain ⟨hp, g, d, t, os⟩ := s
  obtain ⟨bm, N, nm, qn, bs, hdct, sn, sub, ab, col, dd, k0, k1, k2, k3, k5, mN, hC, hN, hni, tail⟩ := exc_obj I.kIn q
  exact wpAny_call_exc_subT F tail hC hN hni (fun h' e hm => mk_of I hm (raises_own T.sub T.ty) h (I.hok.gone hm.new)) (Nat.zero_le _)
def dRaise0 (C : Addr) : DSX := fun R _ ρ μ => R C ("" : Str) (.dat .none) ρ μ
theorem pdx_raise0 {X : Cx} {XW : WX} {x : Str} {C : Addr} {p pos pos2 : Pos} (tk : Takes X XW) (T : ErrN X.K X.mg x C) (hcalm : X.calm = true := by rfl) (hg : Gl X x := by rfl) (hdb : (x == ("__debug__" : Str)) = false := by decide) :
    PDSX X XW (.Raise (some (.Call (.Name x p) [] [] pos)) none pos2) (dRaise0 C) :=
  ⟨_, ps_raise hcalm tk (pmk_errN T hg hdb), fun R' D' ρ μ h W σ H hE r D hd hR => hR C _ .non (.dat .none) σ ρ W H μ none (Le.refl W) r hE Dv.non (.inr ⟨rfl, rfl, rfl⟩) h⟩
abbrev DIt := PyData → (List PyData → Prop) → Prop
def dItNil : DIt := fun _ Q => Q []
def dItStr (z : Str) (r : DIt) : DIt := fun d Q => r d fun es => Q (.str z :: es)
def dItRep (r : DIt) : DIt := fun d Q => okR d ∧ r d fun es => Q (.str d.shown :: es)
def dItFld (r : DIt) : DIt := fun d Q => r d fun es => Q (d :: es)
def dItIs (r : DIt) : DIt := fun d Q => r d fun es => Q (.bool true :: es)
def PDTold (X : Cx) (iE : Nat) (C : Addr) (f : Str) (items : List Expr) (it : DIt) : Prop := ∃ ti : Addr → Value → Option Addr → TA,
  (∀ (a : Addr) (oe : Obj) (cls : Value) (d : Option Addr) (pn : List (Addr × Obj)), Zc cls d oe → (∃ vs, oe.data = .fields vs) → PA (X.suite a ((a, oe) :: pn)) items (ti a cls d)) ∧
  ∀ (d : PyData) (Q' : List PyData → Prop) (G : Hp) (σ : L2.St) (H : Hp) (a : Addr) (od : Option Addr) (v : V), it d Q' → σ[iE]? = some (some (.ref a)) → Dv X.K G v d → Ex G H → ErrD H od f v →
    ∀ Q : List V → Hp → Prop, (∀ us es, DvAll X.K G us es → Q' es → Q us H) → ti a (.ref C) od σ H Q
section
variable {X : Cx} {iE : Nat} {C B : Addr} {f x bn en q : Str} {items : List Expr} {it : DIt} {pos apos epos rp rpos bpos : Pos} {j : Nat}
theorem ptl_nil : PDTold X iE C f [] dItNil := ⟨fun _ _ _ => tNil, fun a oe cls d pn hz hf => pa_nil, fun d Q' G σ H a od v h hs hd e he Q q => q [] [] .nil h⟩
theorem ptl_str {z : Str} (r : PDTold X iE C f items it) (hl : starEach (.Constant (.str z) j pos :: items) X.env = (false, eval (.Constant (.str z) j pos) X.env) :: starEach items X.env := by rfl) : PDTold X iE C f (.Constant (.str z) j pos :: items) (dItStr z it) := by
  obtain ⟨ti, p, l⟩ := r
  refine ⟨fun a cls d => tCons (tC (.str z)) (ti a cls d), fun a oe cls d pn hz hf => pa_cons pe_str (p a oe cls d pn hz hf) hl, fun d Q' G σ H a od v h hs hd e he Q q => ?_⟩
  exact l d _ G σ H a od v h hs hd e he _ fun us es hu h2 => q _ _ (.cons (.str z) hu) h2
theorem ptl_rep {sti : Stmt} {fI : Addr} {k : Nat} (r : PDTold X iE C f items it) (T : ErrT X.K X.mg x f sti q C fI) (hr : RoomG k X.A) (hrep : X.mg "repr" = none) (hfn : f ≠ ("" : Str) := by decide) (hiE : X.N[iE]? = some en := by rfl) (hvE : Vis X.env.scope en := by exact Or.inl rfl) (hdE : (en == ("__debug__" : Str)) = false := by decide) (hcE : (en == ("__classdict__" : Str)) = false := by decide) (hgr : Gl X "repr" := by rfl)
    (hbE : attributeBase (.Name en epos) f X.env (eval (.Name en epos) X.env) = eval (.Name en epos) X.env := by rfl)
    (he2 : starEach [.Attribute (.Name en epos) f apos] X.env = (false, eval (.Attribute (.Name en epos) f apos) X.env) :: starEach [] X.env := by rfl) (hp2 : (backTo rpos (starEach [] X.env)).any (·.1) = false := by rfl)
    (hl : starEach (.Call (.Name "repr" rp) [.Attribute (.Name en epos) f apos] [] rpos :: items) X.env = (false, eval (.Call (.Name "repr" rp) [.Attribute (.Name en epos) f apos] [] rpos) X.env) :: starEach items X.env := by rfl) :
    PDTold X iE C f (.Call (.Name "repr" rp) [.Attribute (.Name en epos) f apos] [] rpos :: items) (dItRep it) := by
  obtain ⟨ti, p, l⟩ := r
  refine ⟨fun a cls d => tCons (tCB (rReprV X.K) (tCons (tXf a cls d C f (tVar iE)) tNil)) (ti a cls d), fun a oe cls d pn hz hf => pa_cons (pe_callB (cr_repr (X := X.suite a ((a, oe) :: pn)) hr.u128 hr.g) hgr hrep (by decide +kernel) (pa_cons (pe_xf T.xfc T.noF hz hf (pe_var hiE hvE hdE hcE) hbE) pa_nil he2) (by decide) (by decide) he2 hp2) (p a oe cls d pn hz hf) hl, fun d Q' G σ H a od v h hs hd e he Q q => ?_⟩
  obtain ⟨dx, rfl, hx⟩ := he.some hfn
  exact ⟨.ref a, hs, rfl, rfl, dx, _, v, rfl, hx, by simp [List.lookup], v, d, rfl, hd.mono e, h.1, l d _ G σ H a _ v h.2 hs hd e (.inl ⟨dx, rfl, hx⟩) _ fun us es hu h2 => q _ _ (.cons (.str _) hu) h2⟩
theorem ptl_is (r : PDTold X iE C f items it) (KB : Kin X.K X.mg bn C B) (hisi : X.mg "isinstance" = none) (hiE : X.N[iE]? = some en := by rfl) (hvE : Vis X.env.scope en := by exact Or.inl rfl) (hdE : (en == ("__debug__" : Str)) = false := by decide) (hcE : (en == ("__classdict__" : Str)) = false := by decide) (hgi : Gl X "isinstance" := by rfl) (hgb : Gl X bn := by rfl) (hdbn : (bn == ("__debug__" : Str)) = false := by decide)
    (hi2 : starEach [.Name en epos, .Name bn bpos] X.env = (false, eval (.Name en epos) X.env) :: starEach [.Name bn bpos] X.env := by rfl) (hi3 : starEach [.Name bn bpos] X.env = (false, eval (.Name bn bpos) X.env) :: starEach [] X.env := by rfl) (hip : (backTo rpos (starEach [.Name bn bpos] X.env)).any (·.1) = false := by rfl)
    (hl : starEach (.Call (.Name "isinstance" rp) [.Name en epos, .Name bn bpos] [] rpos :: items) X.env = (false, eval (.Call (.Name "isinstance" rp) [.Name en epos, .Name bn bpos] [] rpos) X.env) :: starEach items X.env := by rfl) :
    PDTold X iE C f (.Call (.Name "isinstance" rp) [.Name en epos, .Name bn bpos] [] rpos :: items) (dItIs it) := by
  obtain ⟨ti, p, l⟩ := r
  refine ⟨fun a cls d => tCons (tCB (rIsX X.K a cls C) (tCons (tVar iE) (tCons (tC (.ref B)) tNil))) (ti a cls d), fun a oe cls d pn hz hf => pa_cons (pe_callB (X := X.suite a ((a, oe) :: pn)) (call_isX hz) hgi hisi (by decide +kernel) (pa_cons (pe_var hiE hvE hdE hcE) (pa_cons (pe_glob (X := X.suite a ((a, oe) :: pn)) (v := .ref B) (u := .ref B) hgb KB.gB rfl hdbn) pa_nil hi3) hi2) (by decide) (by decide) hi2 hip) (p a oe cls d pn hz hf) hl, fun d Q' G σ H a od v h hs hd e he Q q => ?_⟩
  exact ⟨.ref a, hs, .ref B, .ref B, rfl, fun u hu => hu, rfl, KB.ne, KB.below, l d _ G σ H a _ v h hs hd e he _ fun us es hu h2 => q _ _ (.cons (.bl true) hu) h2⟩
end
end DL
namespace DL
open PySem PySem.Spec PyProof.Rows L2 Evl
def tsOfX (K : PySem.W.Frag) (XW : WX) (d : DSX) : TS := fun D σ H => ∃ (R' : RQ) (D' : DEnds) (ρ : Rho) (μ : Mu) (W : Wd), d R' D' ρ μ ∧ EnvOk K W σ ρ ∧ Rep K W H μ ∧ EndsOk K W D' D ∧ ROk K W R' XW
theorem pdsx_at {X : Cx} {XW : WX} {sts : List Stmt} {d : DSX} (h : PDSsX X XW sts d) : PSs X sts (tsOfX X.K XW d) := by
  obtain ⟨t, p, l⟩ := h
  exact ⟨fun pins s σ H D I ⟨R', D', ρ, μ, W, h, hE, r, hd, hR⟩ => p.run pins s σ H D I (l R' D' ρ μ h W σ H hE r D hd hR)⟩
abbrev RQD := RQ → DEnds → RQ
def LHX (X : Cx) (XW : WX) (Z : Ends → WX) (hv : RQD) : Prop := ∀ (R' : RQ) (D' : DEnds) (C : Addr) (f : Str) (s : Sl) (ρ : Rho) (μ : Mu), hv R' D' C f s ρ μ → ∀ (W : Wd) (σ : L2.St) (H : Hp) (v : V) (od : Option Addr),
  EnvOk X.K W σ ρ → Rep X.K W H μ → SlOk X.K W v s → ErrD H od f v → ∀ D : Ends, EndsOk X.K W D' D → ROk X.K W R' XW → Z D (.ref C) od σ H
def PDH (X : Cx) (XW : WX) (hds : List ExceptHandler) (hv : RQD) : Prop := ∃ V, Hs X hds V ∧ LHX X XW V hv
def dOut : RQD := fun R _ => R
def dNone : RQD := fun _ _ _ _ _ _ _ => False
def dCl (iT iE : Nat) (Cc : Addr) (fc : Str) (it : DIt) (ns : List Addr) (rest : RQD) : RQD := fun R D C f s ρ μ =>
  (C = Cc ∧ f = fc ∧ iE < ρ.length ∧ ∃ d, s = .dat d ∧ it d fun es => es.length ≤ sizeLine ∧ D.nx (((ρ.set iE none).set iT (some (.dat (.list es)))).set iE none) μ) ∨ (C ∈ ns ∧ rest R D C f s ρ μ)
def dTryH (db : DSX) (hv : RQD) : DSX := fun R D ρ μ => db (hv R D) D ρ μ
section
variable {X : Cx} {XW : WX} {hds : List ExceptHandler} {hv : RQD}
theorem pdh_out (tk : Takes X XW) (hs : X.stack = X.env :: X.outer := by rfl) (hf : X.env.frame = some X.env.locals := by rfl) : PDH X XW [] dOut :=
  ⟨_, hs_nil hs hf tk, fun R' D' C f s ρ μ h W σ H v od hE r hsl he D hd hR => hR C f v s σ ρ W H μ od (Le.refl W) r hE hsl he h⟩
theorem pdh_none (hs : X.stack = X.env :: X.outer := by rfl) (hf : X.env.frame = some X.env.locals := by rfl) : PDH X XW [] dNone :=
  ⟨_, hs_nil (Wout := fun _ _ _ _ => False) hs hf takes0, fun R' D' C f s ρ μ h => h.elim⟩
theorem pdh_cons {x en tn fc : Str} {Cc : Addr} {iT iE : Nat} {items : List Expr} {it : DIt} {ns : List Addr} {np tp lpos pos hpos : Pos} (hN : X.N.Nodup) (gC : X.mg x = some (.ref Cc)) (te : PySem.W.exmOne X.K (.ref Cc) (.ref Cc) = some true) (hne : ∀ C ∈ ns, PySem.W.exmOne X.K (.ref C) (.ref Cc) = some false)
    (hi : PDTold X iE Cc fc items it) (r : PDH X XW hds hv) (hiT : X.N[iT]? = some tn := by rfl) (hiE : X.N[iE]? = some en := by rfl) (hs : X.stack = X.env :: X.outer := by rfl) (hf : X.env.frame = some X.env.locals := by rfl) (hlE : X.env.kindOf en = some .local := by rfl)
    (hgx : Gl X x := by rfl) (hdx : (x == ("__debug__" : Str)) = false := by decide) (hlT : Loc X.env.scope tn := by exact Or.inl rfl) (hfT : X.fn tn = true ∨ X.env.scope.names.lookup tn = some .local := by exact .inl rfl)
    (hsw : swapsWith (.List items lpos) (some (.Name tn tp)) pos.line X.env = pure false := by rfl) :
    PDH X XW (.ExceptHandler (some (.Name x np)) (some en) [.Assign [.Name tn tp] (.List items lpos) pos] hpos :: hds) (dCl iT iE Cc fc it ns hv) := by
  obtain ⟨ti, p, l⟩ := hi
  obtain ⟨V, hV, lV⟩ := r
  refine ⟨_, hs_as (i := iE) (ts := fun a cls d => tAsg (tLst (ti a cls d)) (gName iT)) hs hf hN hiE hlE ⟨hgx, hdx, Or.inl gC⟩ (fun a oe cls d pn hz hff => pss_one (ps_set (i := iT) hN hiT hlT (pe_lst (p a oe cls d pn hz hff)) hsw hfT)) hV, fun R' D' C f s ρ μ h W σ H v od hE rp hsl he D hd hR => ?_⟩
  rcases h with ⟨rfl, rfl, hil, d, rfl, h⟩ | ⟨hm, h⟩
  · refine ⟨true, te, fun _ a0 _ => ?_, fun z => Bool.noConfusion z⟩
    have hil' : iE < σ.length := by rw [hE.len]; exact hil
    refine l d _ W.G _ H a0 od v h (List.getElem?_set_self hil') hsl rp.gh he _ fun us es hu hn => ⟨by rw [hu.length]; exact hn.1, fun pp hpp => ?_⟩
    have lN : Le W (W.new pp (.lst us)) := Le.new rp hpp
    have sN : SlOk X.K (W.new pp (.lst us)) (.ref pp) (.dat (.list es)) := Dv.lst (.inl (.inl upd_same)) (hu.mono lN.g)
    exact hd.nx _ _ _ _ μ lN (rp.new hpp) ((((hE.mono lN).none iE _).set iT sN).none iE _) hn.2
  · exact ⟨false, hne C hm, fun z => Bool.noConfusion z, fun _ => lV R' D' C f s ρ μ h W σ H v od hE rp hsl he D hd hR⟩
theorem pdx_tryH {body : List Stmt} {h₀ : ExceptHandler} {db : DSX} {pos : Pos} (hb : ∀ (W : WX) (pn : List (Addr × Obj)) (xe : Value → Shared → Prop), Takes (X.tr pn xe) W → PassesOwn (model X.prog X.w) X.A X.env xe → PDSsX (X.tr pn xe) W body db)
    (hh : PDH X XW (h₀ :: hds) hv) (hs : X.stack = X.env :: X.outer := by rfl) (hf : X.env.frame = some X.env.locals := by rfl) : PDSX X XW (.Try body (h₀ :: hds) [] [] pos) (dTryH db hv) := by
  obtain ⟨V, hV, lV⟩ := hh
  refine ⟨_, ps_try_hs (tb := fun W => tsOfX X.K W db) hs hf (fun W pn xe tk po => pdsx_at (hb W pn xe tk po)) hV, fun R' D' ρ μ h W σ H hE r D hd hR => ⟨hv R' D', D', ρ, μ, W, h, hE, r, hd, ?_⟩⟩
  exact fun C f v s σ' ρ' W' H' μ' od le r' hE' hs' he h' => lV R' D' C f s ρ' μ' h' W' σ' H' v od hE' r' hs' he D (hd.le le) (hR.le le)
theorem pds_ofX {st : Stmt} {d : DSX} (h : PDSX X XW st d) : PDS X st (d fun _ _ _ _ _ => False) := by
  obtain ⟨t, p, l⟩ := h
  exact ⟨t, p, fun D' ρ μ h W σ H hE r D hd => l _ D' ρ μ h W σ H hE r D hd fun _ _ _ _ _ _ _ _ _ _ _ _ _ _ _ z => z.elim⟩
end
end DL
namespace DL
open PySem PySem.Spec PyProof.Rows L2 Evl
abbrev DAp := List (Nat ⊕ PyData) → DS
def dApEnd (i : Nat) (b : DS) : DAp := fun es D ρ μ => b D (ρ.set i (some (.raw es))) μ
def dApOne (i : Nat) (e : DE) (b : DAp) : DAp := fun es D ρ μ => es.length < sizeLine ∧ e (ρ.set i (some (.raw es))) μ fun s μ1 => ∃ x, s = itS x ∧ b (es ++ [x]) D ρ μ1
def dApAll (i : Nat) (a : DA) (b : DAp) : DS := fun D ρ μ => i < ρ.length ∧ a ρ μ fun ss μ1 => ∃ es, itemsOf ss = some es ∧ es.length ≤ sizeLine ∧ b es D ρ μ1
structure Grow (W1 W2 : Wd) (p : Addr) (xs : List V) : Prop where
  le : Le W1 W2
  new : W1.F p = none
  f : W2.F p = some (.lst xs)
  g : W2.G p = none
theorem Grow.step {W1 W2 W3 : Wd} {p : Addr} {xs : List V} {o : HO} (h : Grow W1 W2 p xs) (l : Le W2 W3) : W3.F p = some (.lst xs) ∧ W3.G p = none ∧ Le W1 (W3.newF p o) := by
  have f3 := l.f _ _ h.f
  have g3 : W3.G p = none := l.n p (by rw [h.f]; exact fun z => by cases z) h.g (fun ys z => by rw [h.f] at z; cases z)
  have l13 := h.le.trans l
  refine ⟨f3, g3, l13.g, fun b u hb => ?_, l13.n, l13.a⟩
  show upd W3.F p o b = some u
  rw [upd_ne (fun z => by rw [z, h.new] at hb; cases hb)]
  exact l13.f b u hb
def PDAp (X : Cx) (i : Nat) (sts : List Stmt) (d : DAp) : Prop := ∃ t : TS, PSs X sts t ∧ ∀ (D' : DEnds) (ρ : Rho) (μ : Mu) (es : List (Nat ⊕ PyData)), d es D' ρ μ → i < ρ.length → ∀ (W1 : Wd) (σ : L2.St), EnvOk X.K W1 σ ρ →
  ∀ (W2 : Wd) (H : Hp) (p : Addr) (xs : List V), Grow W1 W2 p xs → Rep X.K W2 H μ → RefsAll X.K W2 xs es → ∀ D : Ends, EndsOk X.K W1 D' D → t D (σ.set i (some (.ref p))) H
section
variable {X : Cx} {i : Nat} {x : Str} {e : Expr} {es rest : List Expr} {sts : List Stmt} {d : DE} {a : DA} {b : DAp} {db : DS} {pos pos' pos2 pos3 apos cpos xpos : Pos}
theorem pap_end (h : PDSs X sts db) : PDAp X i sts (dApEnd i db) := by
  obtain ⟨t, p, l⟩ := h
  refine ⟨t, p, fun D' ρ μ its h hi W1 σ hE W2 H q xs g r ra D hd => ?_⟩
  exact l D' _ μ h W2 _ H ((hE.mono g.le).set i (slOk_refs ra g.f)) r D (hd.le g.le)
theorem pap_one (he : PD X e d) (hb : PDAp X i sts b) (hi : X.N[i]? = some x := by rfl) (hv : Vis X.env.scope x := by first | exact Or.inl rfl | exact Or.inr (Or.inl rfl) | exact Or.inr (Or.inr rfl)) (hdb : (x == ("__debug__" : Str)) = false := by decide) (hcd : (x == ("__classdict__" : Str)) = false := by decide)
    (hs1 : starEach [e] X.env = (false, eval e X.env) :: starEach [] X.env := by rfl)
    (hbase : attributeBase (.Name x xpos) "append" X.env (eval (.Name x xpos) X.env) = eval (.Name x xpos) X.env := by rfl)
    (hfew : ((backTo cpos (starEach [e] X.env)).all (fun x => !x.1) && (backToKw cpos (keywordEach [] X.env)).all (fun x => x.1.isSome) && decide ([e].length + ([] : List Keyword).length + (if ([] : List Keyword).isEmpty then 0 else 1) < 30)) = true := by rfl)
    (hline : (apos.endLine == cpos.line) = true := by rfl) (hplain : (backTo cpos (starEach [] X.env)).any (·.1) = false := by rfl)
    (hs2 : swapsWith (.Call (.Attribute (.Name x xpos) "append" apos) [e] [] cpos) none pos3.line X.env = pure false := by rfl) :
    PDAp X i (.Expr (.Call (.Attribute (.Name x xpos) "append" apos) [e] [] cpos) pos3 :: sts) (dApOne i d b) := by
  obtain ⟨t2, p2, l2⟩ := he
  obtain ⟨t3, p3, l3⟩ := hb
  refine ⟨_, pss_cons (ps_expr (pe_bm PySem.F.plainAttrs_list PySem.F.slot_list_append PySem.F.type_list_append mt_append (pe_var hi hv hdb hcd) (pa_cons p2 pa_nil hs1) hbase hfew hline hs1 hplain) hs2) p3, fun D' ρ μ its h hil W1 σ hE W2 H q xs g r ra D hd => ?_⟩
  obtain ⟨hlen, h⟩ := h
  have hσ : i < σ.length := by rw [hE.len]; exact hil
  refine ⟨.ref q, List.getElem?_set_self hσ, .inl ⟨rfl, xs, .inl (.inl (r.fh _ _ g.f))⟩, ?_⟩
  refine l2 _ μ _ h W2 _ H ((hE.mono g.le).set i (slOk_refs ra g.f)) r _ fun v s W3 H3 μ3 le3 r3 hs h3 => ?_
  obtain ⟨y, rfl, h3⟩ := h3
  obtain ⟨f3, g3, l13⟩ := g.step (o := .lst (xs ++ [v])) le3
  have r4 := r3.chF (o' := .lst (xs ++ [v])) f3 g3
  refine ⟨q, xs, v, rfl, rfl, r3.fh _ _ f3, by rw [ra.1]; exact hlen, ?_⟩
  have hy : ItOk1 X.K (W3.newF q (.lst (xs ++ [v]))) v y := by
    have := itS_ok.mp hs
    cases y with
    | inl k => exact this
    | inr d => exact this
  have rb : RefsAll X.K (W3.newF q (.lst (xs ++ [v]))) xs its := by
    refine ⟨ra.1, fun j e0 z => ?_⟩
    obtain ⟨u, z1, z2⟩ := (ra.le le3).2 j e0 z
    refine ⟨u, z1, ?_⟩
    cases e0 with
    | inl k => exact z2
    | inr d => exact z2
  exact l3 D' ρ μ3 _ h3 hil W1 σ hE _ _ q _ ⟨l13, g.new, upd_same, g3⟩ r4 (rb.snoc hy) D hd
theorem pds_ap (hN : X.N.Nodup) (ha : PDA X es a) (hb : PDAp X i sts b) (hi : X.N[i]? = some x := by rfl) (hx : Loc X.env.scope x := by first | exact Or.inl rfl | exact Or.inr rfl)
    (hs : swapsWith (.List es pos) (some (.Name x pos')) pos2.line X.env = pure false := by rfl) (hf : X.fn x = true ∨ X.env.scope.names.lookup x = some .local := by exact .inl rfl) :
    PDSs X (.Assign [.Name x pos'] (.List es pos) pos2 :: sts) (dApAll i a b) := by
  obtain ⟨t1, p1, l1⟩ := ha
  obtain ⟨t3, p3, l3⟩ := hb
  refine ⟨_, pss_cons (ps_set hN hi hx (pe_lst p1) hs hf) p3, fun D' ρ μ h W σ H hE r D hd => ?_⟩
  obtain ⟨hil, h⟩ := h
  refine l1 ρ μ _ h W σ H hE r _ fun vs ss W1 H1 μ1 le1 r1 hss h1 => ?_
  obtain ⟨its, hks, hlen, h1⟩ := h1
  have ra := itemsOf_ok hss hks
  refine ⟨by rw [ra.1]; exact hlen, fun p hp => ?_⟩
  have lF := Le.newF r1 (o := .lst vs) hp
  obtain ⟨z1, z2⟩ := r1.fresh hp
  exact l3 D' ρ μ1 its h1 hil W1 σ (hE.mono le1) (W1.newF p (.lst vs)) _ p vs ⟨lF, z1, upd_same, z2⟩ (r1.newF hp) (ra.le lF) D (hd.le le1)
end
end DL
namespace DL
open PySem PySem.Spec PyProof.Rows L2 Evl
open LamX
section
variable {P : Program} {w : World} {K : PySem.W.Frag} {mg mb : Str → Option Value} {k : Nat} {fa a : Addr} {fd : FuncData} {x : Str} {sp : Sp} {s₁ : Shared} {vs : List Value} {ns : List Int}
theorem law_runGTs {L : List (Addr × Addr)} (KX : K.In s₁.heap) (hns : s₁.heap.Ns mainGlobals mg) (hb : s₁.heap.Ns builtinsNs mb) (hbb : ∀ x : Str, x ≠ "__name__" → mb x = bootBuiltins x) (hlim : s₁.heap.NoLimit) (hg : s₁.gens = #[])
    (hT : ∀ p ∈ L, s₁.heap.get? p.2 = some { cls := .none, data := .fields #[] }) (nT : ∀ p ∈ L, K.lookup p.2 = none) (C : ∀ p ∈ L, PySem.W.CodeHd s₁.heap p.1 p.2)
    (hbm : ∃ (bm : Addr) (ob : Obj), mg "__builtins__" = some (.ref bm) ∧ bm ≠ builtinsNs ∧ s₁.heap.get? bm = some ob ∧ ob.cls = .type "module" ∧ ob.dict = some builtinsNs ∧ ob.data = .plain)
    (ha : s₁.heap.get? a = some { cls := .type "list", data := .seq vs.toArray }) (hi : IntsAre vs ns) (hl : ns.length ≤ sizeLine) (hr : RoomG k callerA)
    (F : ∀ base : Heap, K.In base → base.Ns mainGlobals mg → (∀ p ∈ L, TabB base mg p.1 p.2) → FnG P w K mg base CX0 k fa fd [x] sp) (hbind : ∀ (s : Shared) (u : Value), BindsTo s fd ⟨[u], []⟩ [(x, u)])
    (hsp : ∀ H : Hp, (∀ p ∈ L, H p.2 = some (.tbl #[])) → SqL K H a (ns.map V.int) → sp [.ref a] H (fun v _ => v = .bl true) E0) :
    codeAny (model P w) callerA (.call (.ref fa) ⟨[.ref a], []⟩) (fun r s' => r = .ok (.ret (.bool true)) ∧ OldK s₁.heap s'.heap ∧ s'.os = s₁.os ∧ AllBare s'.gens) s₁ := by
  have lenV := hi.length
  have at_ : ∀ {b : Addr}, b ∈ L.map Prod.snd → ∃ p ∈ L, p.2 = b := fun {b} h => List.mem_map.mp h
  have of_ : ∀ {p : Addr × Addr}, p ∈ L → p.2 ∈ L.map Prod.snd := fun {p} h => List.mem_map.mpr ⟨p, h, rfl⟩
  have hT' : ∀ {b : Addr}, b ∈ L.map Prod.snd → s₁.heap.get? b = some { cls := .none, data := .fields #[] } := fun {b} h => by
    obtain ⟨p, hp, e⟩ := at_ h
    rw [← e]
    exact hT p hp
  have neT : a ∉ L.map Prod.snd := fun z => by
    have q := hT' z
    rw [ha] at q
    cases q
  suffices core : ∀ H : Hp, (∀ p ∈ L, H p.2 = some (.tbl #[])) → (∀ b u, H b = some u → b ∈ L.map Prod.snd ∨ (b = a ∧ K.lookup a = none ∧ ∃ ob xs, u = .frz ob (.lst xs))) → SqL K H a (ns.map V.int) → HOk P w H s₁.heap →
      codeAny (model P w) callerA (.call (.ref fa) ⟨[.ref a], []⟩) (fun r s' => r = .ok (.ret (.bool true)) ∧ OldK s₁.heap s'.heap ∧ s'.os = s₁.os ∧ AllBare s'.gens) s₁ by
    let H0 : Hp := fun b => if b ∈ L.map Prod.snd then some (.tbl #[]) else if K.lookup a = none ∧ b = a then some (.frz { cls := .type "list", data := .seq vs.toArray } (.lst (ns.map V.int))) else none
    have hT0 : ∀ {b : Addr}, b ∈ L.map Prod.snd → H0 b = some (.tbl #[]) := fun h => if_pos h
    have cases3 : ∀ b u, H0 b = some u → (b ∈ L.map Prod.snd ∧ u = .tbl #[]) ∨ ((K.lookup a = none ∧ b = a) ∧ u = .frz { cls := .type "list", data := .seq vs.toArray } (.lst (ns.map V.int))) := fun b u z => by
      by_cases h1 : b ∈ L.map Prod.snd
      · left
        rw [hT0 h1] at z
        exact ⟨h1, (Option.some.inj z).symm⟩
      · replace z := (if_neg h1).symm.trans z
        by_cases h2 : K.lookup a = none ∧ b = a
        · right
          exact ⟨h2, (Option.some.inj ((if_pos h2).symm.trans z)).symm⟩
        · cases (if_neg h2).symm.trans z
    refine core H0 (fun p hp => hT0 (of_ hp)) (fun b u z => ?_) ?_ (fun b u z => ?_)
    · rcases cases3 b u z with ⟨h, _⟩ | ⟨⟨h1, h2⟩, h3⟩
      · exact .inl h
      · exact .inr ⟨h2, h1, _, _, h3⟩
    · cases hk : K.lookup a with
      | some o =>
        have e := KX a o hk
        rw [ha] at e
        cases e
        exact .inr ⟨_, vs.toArray, _, hk, rfl, rfl, rfl, by rw [List.size_toArray, lenV]; exact hl, by simpa using vals_ints hi⟩
      | none => exact .inl (.inr ⟨_, (if_neg neT).trans (if_pos ⟨hk, rfl⟩)⟩)
    · rcases cases3 b u z with ⟨h, rfl⟩ | ⟨⟨_, rfl⟩, rfl⟩
      · exact hT' h
      · exact ⟨ha, by rw [List.length_map]; exact hl, vs, _, vals_ints hi, ha⟩
  intro H hHT hO hS hok
  have isA : ∀ {b : Addr} {u : HO}, H b = some u → s₁.heap.get? b = some { cls := .none, data := .fields #[] } ∨ s₁.heap.get? b = some { cls := .type "list", data := .seq vs.toArray } := fun {b u} z => by
    rcases hO b u z with h | ⟨rfl, _⟩
    · exact .inl (hT' h)
    · exact .inr ha
  have un_ : ∀ {b : Addr} {o : Obj}, s₁.heap.get? b = some o → o.data ≠ .fields #[] → (∀ its n, o.data ≠ .seq its n) → H b = none := fun {b o} e h1 h2 => by
    cases q : H b with
    | none => rfl
    | some u =>
      rcases isA q with z | z <;> rw [e] at z <;> cases z
      · exact absurd rfl h1
      · exact absurd rfl (h2 _ _)
  have ns_ : ∀ {b : Addr} {m : Str → Option Value}, s₁.heap.Ns b m → (hidT s₁.heap H).Ns b m := fun {b m} ⟨o, es, ep, e, d, r⟩ => ⟨o, es, ep, hidT_get e (un_ e (by rw [d]; exact fun z => by cases z) (fun _ _ => by rw [d]; exact fun z => by cases z)), d, r⟩
  have inB : K.In (hidT s₁.heap H) := fun b o e => hidT_get (KX b o e) (by
    cases q : H b with
    | none => rfl
    | some u =>
      rcases hO b u q with h | ⟨rfl, hk, _⟩
      · obtain ⟨p, hp, ep⟩ := at_ h
        rw [← ep, nT p hp] at e
        cases e
      · rw [hk] at e; cases e)
  have md : Mod K mg (hidT s₁.heap H) := ⟨inB, ns_ hns, ⟨mb, ns_ hb, hbb⟩, by obtain ⟨mc, h1, h2⟩ := hlim; exact ⟨mc, ns_ h1, h2⟩⟩
  have e0 : Env0 P w K mg (hidT s₁.heap H) callerA [] s₁ H := ⟨rfl, md, fun b o e => of_hidT e, Nat.le_of_eq (hidT_size _ _), trivial, fun b hb => absurd (show b ∈ ([] : List Addr) from hb) (by simp), hok, .of_eq hg⟩
  have plain_ : ∀ {b : Addr} {o : Obj}, s₁.heap.get? b = some o → o.data = .plain → (hidT s₁.heap H).get? b = some o := fun {b o} e d =>
    hidT_get e (un_ e (by rw [d]; exact fun z => by cases z) (fun _ _ => by rw [d]; exact fun z => by cases z))
  have TB : ∀ p ∈ L, TabB (hidT s₁.heap H) mg p.1 p.2 := fun p hp => by
    have hTp := hT p hp
    obtain ⟨oc, cs, file, tf, fl, tg, inF, tx, tt, e1, e2, e3, e4, rest⟩ := C p hp
    refine ⟨⟨oc, cs, file, tf, fl, tg, inF, tx, tt, hidT_get e1 (un_ e1 ?_ fun _ _ => ?_), e2, e3, e4, rest⟩, ?_, fun z => ?_⟩
    · rw [e3]
      intro z
      cases z
      simp at e4
    · rw [e3]
      exact fun z => by cases z
    · obtain ⟨bm, ob, h1, h2, h3, h4, h5, h6⟩ := hbm
      refine ⟨bm, ob, h1, h2, fun z => ?_, fun z => ?_, plain_ h3 h6, h4, h5, h6⟩
      · obtain ⟨o, es, ep, e, d, _⟩ := hns
        rw [z, e] at h3
        cases h3
        rw [d] at h6
        cases h6
      · rw [z, hTp] at h3
        cases h3
        cases h6
    · obtain ⟨o, es, ep, e, d, _⟩ := hns
      rw [z, hTp] at e
      cases e
      cases d
  refine codeAny_mono ((F _ inB (ns_ hns) TB).run callerA [] s₁ H ⟨[.ref a], []⟩ [.ref a] [.ref a] _ _ hr e0 (hbind s₁ (.ref a)) (.cons rfl .nil) (hsp H hHT hS)) fun r s' h => ?_
  cases r with
  | error e => exact False.elim h
  | ok fl =>
    cases fl with
    | ret u =>
      obtain ⟨v, H', os, bare, un, hok', r', q⟩ := h
      cases (show v = .bl true from q)
      cases (show u = Value.bool true from r')
      have same : ∀ b o, b ∉ L.map Prod.snd → s₁.heap.get? b = some o → s'.heap.get? b = some o := fun b o ne e => by
        cases q : H b with
        | none => exact un.keep b o e q (fun z => nomatch z) (fun z => nomatch z)
        | some u =>
          rcases hO b u q with z | ⟨_, _, ob, xs, rfl⟩
          · exact absurd z ne
          · have z1 := (hok b _ q).1
            have z2 := (hok' b _ (un.frzs b ob _ q)).1
            rw [e] at z1
            cases z1
            exact z2
      have grown : ∀ p ∈ L, ∃ more : Array Value, s'.heap.get? p.2 = some { cls := .none, data := .fields (#[] ++ more) } := fun p hp => by
        obtain ⟨more, hm⟩ := un.tbls p.2 #[] (hHT p hp)
        exact ⟨more, hok' p.2 _ hm⟩
      refine ⟨rfl, ⟨fun b o e => ?_, fun b o e => ?_⟩, os, bare⟩
      · by_cases z : b ∈ L.map Prod.snd
        · obtain ⟨p, hp, rfl⟩ := at_ z
          obtain ⟨more, hm'⟩ := grown p hp
          rw [hT p hp] at e
          cases e
          exact .inr (.inl ⟨((C p hp).tab (hT p hp)).isCodeTable, rfl, #[], _, rfl, hm'⟩)
        · exact .inl (same b o z e)
      · by_cases z : b ∈ L.map Prod.snd
        · obtain ⟨p, hp, rfl⟩ := at_ z
          obtain ⟨more, hm'⟩ := grown p hp
          exact ⟨_, hm'⟩
        · exact ⟨o, same b o z e⟩
    | _ => exact False.elim h
end
theorem walkGTs {l : PySem.W.OpenLaw} {n k : Nat} {q : Program} {loose : List Str} {XP : (Str → Option Value) → Heap → Prop} {YP : World → Heap → Prop} {d : DefRec} {K : Params → PySem.W.Frag} {sp : List (Addr × Addr) → PySem.W.Frag → Sp} {x : Str} {ys : List Str}
    (hn : l.most = some n) (hn2 : n ≤ sizeLine) (hdf : d.params.defaults = []) (hr : RoomG k callerA) (hY : ∀ (w : World) (h : Heap), YP w h → (K w.params).In h)
    (hrec : ∀ y ∈ ys, ∃ dl, (recsOf q).find? (fun e => e.name == y) = some dl) (hct : ∃ L : List (Addr × Addr), (∀ P, ys.map (PySem.W.tabIn (K P)) = L.map some ∧ ∀ p ∈ L, (K P).lookup p.2 = none) ∧ (L.map Prod.snd).Nodup)
    (F : ∀ L : List (Addr × Addr), (∀ P, ys.map (PySem.W.tabIn (K P)) = L.map some) → ∀ (w : World) (mg : Str → Option Value) (fa : Addr) (h : Heap), (K w.params).In h → h.Ns mainGlobals mg → mg d.name = some (.ref fa) →
      ∃ fd : FuncData, (∀ (s : Shared) (u : Value), BindsTo s fd ⟨[u], []⟩ [(x, u)]) ∧ ∀ base : Heap, (K w.params).In base → base.Ns mainGlobals mg → (∀ p ∈ L, TabB base mg p.1 p.2) → FnG l.prog w (K w.params) mg base CX0 k fa fd [x] (sp L (K w.params)))
    (hsp : ∀ (L : List (Addr × Addr)) (K : PySem.W.Frag) (H : Hp) (a : Addr) (ns : List Int), L.length = ys.length → (L.map Prod.snd).Nodup → ns.length ≤ n → (∀ p ∈ L, H p.2 = some (.tbl #[])) → SqL K H a (ns.map V.int) → sp L K [.ref a] H (fun v _ => v = .bl true) E0) :
    PySem.W.WalkO q loose XP YP l.row.toRowW d [] (fun f vs => PySem.call f vs) := by
  obtain ⟨L, hL, nd⟩ := hct
  refine Att.attach_call hn hdf fun w s₀ s₁ mg mb fa o pm cd doc a vs ns G Y ho hd hcd hmg hobj hints hlen hg => ?_
  have KX := hY w _ Y
  obtain ⟨fd, hb, hF⟩ := F L (fun P => (hL P).1) w mg fa _ KX G.T.g hmg
  have each : ∀ p ∈ L, PySem.W.CodeHd s₁.heap p.1 p.2 ∧ s₁.heap.get? p.2 = some (PySem.W.tabObj #[]) := fun p hp => by
    have m : some p ∈ ys.map (PySem.W.tabIn (K w.params)) := by
      rw [(hL w.params).1]
      exact List.mem_map.mpr ⟨p, hp, rfl⟩
    obtain ⟨y, hy, e⟩ := List.mem_map.mp m
    obtain ⟨dl, hdl⟩ := hrec y hy
    exact PySem.W.tab_of G.T KX hdl e
  have len : L.length = ys.length := by
    have := congrArg List.length (hL w.params).1
    simpa using this.symm
  exact law_runGTs KX G.T.g G.T.b G.T.builtins G.T.nolimit hg (fun p hp => (each p hp).2) (hL w.params).2 (fun p hp => (each p hp).1) G.T.bmain hobj hints (Nat.le_trans hlen hn2) hr hF hb fun H h1 hS => hsp L _ H a ns len nd hlen h1 hS
end DL
namespace DL
open PySem PySem.Spec PyProof.Rows L2 Evl
def lawTs (tabs : List (Addr × Str)) : DF := fun ss μ Q' => ∃ ns : List Int, ns.length ≤ 63 ∧ ss = [.dat (.list (ns.map PyData.int))] ∧ μ = tabs.map (fun p => Cell.tab p.1 (.nm p.2)) ∧ ∀ μ', Q' (.dat (.bool true)) μ'
theorem law_spTs (K : PySem.W.Frag) (H : Hp) (a : Addr) (tabs : List (Addr × Str)) (ns : List Int) (hl : ns.length ≤ 63) (nd : (tabs.map Prod.fst).Nodup) (hP : ∀ p ∈ tabs, H p.1 = some (.tbl #[])) (hS : SqL K H a (ns.map V.int)) : SpD K 1 (lawTs tabs) [.ref a] H (fun v _ => v = .bl true) E0 := by
  have tb : ∀ {b : Addr}, b ∈ tabs.map Prod.fst → H b = some (.tbl #[]) := fun {b} h => by
    obtain ⟨p, hp, rfl⟩ := List.mem_map.mp h
    exact hP p hp
  let G : Hp := fun b => if b ∈ tabs.map Prod.fst then none else H b
  have gH : ∀ b o, G b = some o → H b = some o := fun b o e => by
    by_cases z : b ∈ tabs.map Prod.fst
    · cases (if_pos z).symm.trans e
    · exact (if_neg z).symm.trans e
  have hS' : SqL K G a (ns.map V.int) := by
    refine hS.imp (fun r => ?_) id
    have ne : a ∉ tabs.map Prod.fst := fun z => by
      have q := tb z
      rcases r with r | ⟨_, r⟩ <;> rw [q] at r <;> cases r
    rcases r with r | ⟨o, r⟩
    · exact .inl ((if_neg ne).trans r)
    · exact .inr ⟨o, (if_neg ne).trans r⟩
  have tk : ∀ q : Str, TblOk G q #[] := fun q => ⟨True.intro, fun pos cv hc => by
    have z : codeAmong pos [] = some cv := hc
    simp [codeAmong] at z⟩
  have two : ∀ {k : Nat} {b : Addr} {c : Cell}, (tabs.map Prod.fst)[k]? = some b → (tabs.map fun p => Cell.tab p.1 (.nm p.2))[k]? = some c → b ∈ tabs.map Prod.fst ∧ ∃ q : Str, c = .tab b (.nm q) := fun {k b c} h1 h2 => by
    refine ⟨List.mem_of_getElem? h1, ?_⟩
    rw [List.getElem?_map] at h1 h2
    cases e : tabs[k]? with
    | none => rw [e] at h1; cases h1
    | some p =>
      rw [e] at h1 h2
      cases h1
      cases h2
      exact ⟨p.2, rfl⟩
  refine ⟨⟨G, G, tabs.map Prod.fst⟩, [.dat (.list (ns.map PyData.int))], tabs.map fun p => Cell.tab p.1 (.nm p.2), fun s _ => s = .dat (.bool true), rfl, .cons (.lst hS' (DvAll.ints ns)) .nil, ⟨Ex.refl _, gH, by rw [List.length_map, List.length_map], fun i j b hi hj => ?_, fun k b c hb hc => ?_, fun k P q h => ?_⟩, ⟨ns, hl, rfl, rfl, fun _ => rfl⟩, fun v s W' H' μ' l r hs e => ?_⟩
  · obtain ⟨h1, e1⟩ := List.getElem?_eq_some_iff.mp hi
    obtain ⟨h2, e2⟩ := List.getElem?_eq_some_iff.mp hj
    exact (List.getElem_inj nd).mp (e1.trans e2.symm)
  · obtain ⟨hm, q, rfl⟩ := two hb hc
    exact ⟨if_pos hm, _, tb hm, tk q⟩
  · have hlt : k < tabs.length := by simpa using (List.getElem?_eq_some_iff.mp h).1
    have hb : (tabs.map Prod.fst)[k]? = some tabs[k].1 := by rw [List.getElem?_map, List.getElem?_eq_getElem hlt] <;> rfl
    obtain ⟨_, q', e⟩ := two hb h
    cases e
    exact hb
  · subst e
    exact bool_of hs
section
variable {P : Program} {w : World} {K : PySem.W.Frag} {mg : Str → Option Value} {base : Heap}
theorem okDC {x qual : Str} {st : Stmt} {f : Addr} {fd : FuncData} {N ps : List Str} {k n : Nat} {φ : DF} {ds : List (Str × Addr) → DS} (F : Fun K x qual st f fd) (S : FnScope N ps (defScope st)) (hn : n = ps.length)
    (hbody : ∀ (cdv : Value), fd.code = cdv → ∀ (A : Around) (outer : List Env) (s : Shared) (H : Hp) (E : XK), RoomG k (A.deeper (envOfC qual (defScope st) s.heap.objs.size f cdv)) →
      PDSs (cxOf CX0 P w K mg base N qual (defScope st) f cdv A outer s H E).nox (defBody st) (ds (cellsFrom (s.heap.objs.size + 1) (defScope st).names [])))
    (hφ : ∀ cl, Pure N n φ (ds cl)) : FnG P w K mg base CX0 (k + 1) f fd ps (SpD K n φ) := by
  refine fnG_ofC F S (fun vs H Q E h => ?_) (fun cdv hc A outer s H vs Q E hr h => ?_)
  · obtain ⟨_, _, _, _, h, _⟩ := h
    exact h.trans hn
  · obtain ⟨W, ss, μ, Q', hl, hss, r, hp, q⟩ := h
    obtain ⟨t, p, l⟩ := hbody cdv hc A outer s H E hr
    refine ⟨t, p.nox, l _ (startD N ss) μ (hφ _ ss μ Q' (by rw [← hss.length]; exact hl) hp) W _ H (env_start hss) r _ ?_⟩
    have fq := finQ_ok q
    rw [r.len] at fq
    exact ⟨fun σ1 ρ1 W1 H1 μ1 l1 r1 he1 h1 => fq .non (.dat .none) W1 H1 μ1 l1 r1 .non h1, fq, fun σ1 ρ1 W1 H1 μ1 l1 r1 he1 h1 => h1, fun σ1 ρ1 W1 H1 μ1 l1 r1 he1 h1 => h1⟩
end
def slFst (n : Nat) : Sl → Bool
  | .dat _ => true
  | .vw _ => true
  | .cell k => decide (k < n)
  | _ => false
def cutR (n : Nat) (ρ : Rho) : Rho := ρ.map fun o => match o with
  | some s => if slFst n s = true then some s else none
  | none => none
theorem slCut {K : PySem.W.Frag} {W : Wd} {n : Nat} {v : V} {s : Sl} (h : SlOk K W v s) (hs : slFst n s = true) : SlOk K (W.cut n) v s := by
  cases s with
  | dat d => exact h
  | vw d => exact h
  | cell k =>
    obtain ⟨a, h1, h2⟩ := h
    refine ⟨a, ?_, h2⟩
    have hk : k < n := by simpa [slFst] using hs
    show (W.ad.take n)[k]? = some a
    rw [List.getElem?_take_of_lt hk]
    exact h1
  | raw es => simp [slFst] at hs
  | rtup es => simp [slFst] at hs
theorem EnvOk.cut {K : PySem.W.Frag} {W : Wd} {n : Nat} {σ : L2.St} {ρ : Rho} (h : EnvOk K W σ ρ) : EnvOk K (W.cut n) σ (cutR n ρ) := by
  refine ⟨by unfold cutR; rw [List.length_map]; exact h.len, fun i s e => ?_⟩
  unfold cutR at e
  rw [List.getElem?_map] at e
  cases q : ρ[i]? with
  | none => rw [q] at e; cases e
  | some o =>
    rw [q] at e
    cases o with
    | none => cases e
    | some s' =>
      replace e : some (if slFst n s' = true then some s' else Option.none) = some (some s) := e
      by_cases z : slFst n s' = true
      · rw [if_pos z] at e
        cases e
        obtain ⟨v, h1, h2⟩ := h.get i s q
        exact ⟨v, h1, slCut h2 z⟩
      · rw [if_neg z] at e
        cases e
def dCut (a : DS) : DS := fun D ρ μ => a { nx := fun ρ1 μ1 => D.nx (cutR μ.length ρ1) (μ1.take μ.length), rt := D.rt, bk := fun ρ1 μ1 => D.bk (cutR μ.length ρ1) (μ1.take μ.length), ct := fun ρ1 μ1 => D.ct (cutR μ.length ρ1) (μ1.take μ.length) } ρ μ
theorem pds_cut {X : Cx} {sts : List Stmt} {a : DS} (h : PDSs X sts a) : PDSs X sts (dCut a) := by
  obtain ⟨t, p, l⟩ := h
  refine ⟨t, p, fun D' ρ μ h W σ H hE r D hd => l _ ρ μ h W σ H hE r D ?_⟩
  have cut : ∀ {Q' : Rho → Mu → Prop} {Q : L2.St → Hp → Prop}, NOk X.K W Q' Q → NOk X.K W (fun ρ1 μ1 => Q' (cutR μ.length ρ1) (μ1.take μ.length)) Q := fun {Q' Q} q σ1 ρ1 W1 H1 μ1 l1 r1 e1 h1 =>
    q σ1 _ (W1.cut μ.length) H1 _ (l1.cut (Nat.le_of_eq r.len)) (r1.cut μ.length) e1.cut h1
  exact ⟨cut hd.nx, hd.rt, cut hd.bk, cut hd.ct⟩
theorem execs_app (s2 : List Stmt) (env : Env) : ∀ s1 : List Stmt, execs (s1 ++ s2) env = (do match ← execs s1 env with | .next => execs s2 env | f => pure f)
  | [] => by simp [execs]
  | st :: s1 => by
    simp only [List.cons_append, execs, execs_app s2 env s1, bind_assoc]
    congr 1
    funext f
    cases f <;> simp
theorem pss_app {X : Cx} {s1 s2 : List Stmt} {t u : TS} (h1 : PSs X s1 t) (h2 : PSs X s2 u) : PSs X (s1 ++ s2) (tSeq t u) := by
  refine ⟨fun pins s σ H D I h => ?_⟩
  rw [execs_app]
  refine wpAny_bind (thn (h1.run pins s σ H { D with nx := u D } I h) fun f s1 q => ?_)
  match f, q with
  | .next, ⟨σ', H', I', q⟩ => exact h2.run pins s1 σ' H' D I' q
  | .ret v, q => exact wpAny_pure q
  | .brk, q => exact wpAny_pure q
  | .cont, q => exact wpAny_pure q
theorem pds_app {X : Cx} {l : List Stmt} {a b : DS} (n : Nat) (h1 : PDSs X (l.take n) a) (h2 : PDSs X (l.drop n) b) : PDSs X l (dSeq a b) := by
  obtain ⟨t1, p1, l1⟩ := h1
  obtain ⟨t2, p2, l2⟩ := h2
  have p := pss_app p1 p2
  rw [List.take_append_drop] at p
  exact ⟨_, p, fun D' ρ μ h W σ H he r D hd => l1 _ ρ μ h W σ H he r _ (hd.with_nx fun σ1 ρ1 W1 H1 μ1 le1 r1 he1 q => l2 D' ρ1 μ1 q W1 σ1 H1 he1 r1 D (hd.le le1))⟩
end DL
namespace DL
open PySem PySem.Spec PyProof.Rows L2 Evl
section
variable {X : Cx} {CX : CXT} {k : Nat} {g : Addr} {fd : FuncData} {ps ks : List Str} {sp : Sp} {E : L2.St → XK} {y : Str} {p pos : Pos} {e : Expr} {es : List Expr} {kws : List Keyword} {t tk : TA} {gf : List Value → List Value → List Value} {gV : List V → List V → List V}
theorem runSG {pins : List (Addr × Obj)} {σ : L2.St} {H : Hp} {s : Shared} {Q : VK} {args : Args} {us : List Value} {vs : List V} (F : FnG X.prog X.w X.K X.mg X.base CX k g fd ps sp) (hr : RoomG k X.A) (hx : PassesAt CX X σ (E σ)) (I : Inv X pins σ H s) (r : Vals vs us)
    (b : BindsTo s fd args (ps.zip us)) (h : sp vs H Q (E σ)) : wpAny (model X.prog X.w) X.A (call (.ref g) args.pos args.kw) (EP X pins σ Q) X.xe s := by
  refine wpAny_call (codeAny_mono (F.run X.A X.stack s H args us vs Q (E σ) hr I.env0 b r h) fun r s' hq => ?_)
  cases r with
  | error e => exact hx pins H s e s' I hq
  | ok fl => cases fl <;> first | exact I.after hq | exact False.elim hq
theorem pe_callSGK0 (F : FnG X.prog X.w X.K X.mg X.base CX k g fd ps sp) (hr : RoomG k X.A) (hg : Gl X y) (hm : X.mg y = some (.ref g)) (hk : PySem.W.keepIn X.K (.ref g) = true) (hb : KBinds X.K fd ps ks gf gV) (hx : ∀ σ, PassesAt CX X σ (E σ))
    (hkw : PK X kws tk) (hall : (backToKw pos (keywordEach kws X.env)).all (·.1.isSome) = true) (hks : (backToKw pos (keywordEach kws X.env)).filterMap (·.1) = ks)
    (hdb : (y == ("__debug__" : Str)) = false) (hpl : ((backTo pos (starEach [] X.env)).any (·.1) || (backToKw pos (keywordEach kws X.env)).any (·.1.isNone)) = false) :
    PE X (.Call (.Name y p) [] kws pos) (fun σ H Q => tk σ H fun zs H2 => sp (gV [] zs) H2 Q (E σ)) := by
  constructor
  intro pins s σ H Q I h
  refine wpAny_Call_Name_kw (ld_glob I hg hm (PySem.W.callWith_KW0 (h₀ := X.base) I.ok.mod.kin hk hall (thn (hkw.run pos pins s σ H _ I h) fun ws s2 got => ?_) hpl) hdb)
  rcases got with ⟨zs, H2, I2, rz, q2⟩
  have both := hb.rel .nil rz
  rw [hks]
  exact ⟨I2.kIn, runSG (args := ⟨[], ks.zip ws⟩) F hr (hx σ) I2 both (hb.to s2 [] ws I2.kIn (by rw [← both.length]; exact F.len _ _ _ _ q2)) q2⟩
end
def dCallEK (np : Nat) (idx : List Nat) (n : Nat) (φ : DFE) (a b : DA) : DEX := fun R ρ μ Q => a ρ μ fun ss μ1 => b ρ μ1 fun ts μ2 => (kp np idx ss ts).length = n ∧ φ (kp np idx ss ts) μ2 Q (fun C f s μ3 => R C f s ρ μ3)
section
variable {X : Cx} {XW : WX} {φ : DFE} {a b : DA} {y : Str} {e : Expr} {es : List Expr} {p pos : Pos} {stg : Stmt} {ps ks : List Str} {kws : List Keyword} {k n : Nat}
theorem pdx_callK0 (idx : List Nat) (tk : Takes X XW) (o : OwnE X.prog X.w X.K X.mg X.base y stg ps k n φ) (hr : RoomG k X.A) (hps : ps ≠ [])
    (hb : ∀ (kV doc pm : Value) (an : Option Addr) (cdv ct : Value) (us ws : List Value), us.length = 0 → ws.length = idx.length →
      bindArgs (PySem.W.fnOf y y (defArgs stg) (defBody stg) (defScope stg) .none kV doc pm an cdv ct) ⟨us, ks.zip ws⟩ = pure (ps.zip (us ++ idx.filterMap fun i => ws[i]?)))
    (hk : PDK X kws b) (hg : Gl X y := by rfl) (hall : (backToKw pos (keywordEach kws X.env)).all (·.1.isSome) = true := by rfl) (hks : (backToKw pos (keywordEach kws X.env)).filterMap (·.1) = ks := by rfl)
    (hdb : (y == ("__debug__" : Str)) = false := by decide) (hpl : ((backTo pos (starEach [] X.env)).any (·.1) || (backToKw pos (keywordEach kws X.env)).any (·.1.isNone)) = false := by rfl) : PDX X XW (.Call (.Name y p) [] kws pos) (dCallEK 0 idx n φ aNil b) := by
  obtain ⟨g, fd, F, G, hm⟩ := o
  obtain ⟨tb, pb, lb⟩ := hk
  refine ⟨_, pe_callSGK0 G hr hg hm F.kp (kbinds_of F hps hb) (fun σ => passAt tk σ) pb hall hks hdb hpl, fun R' ρ μ Q' h W σ H hE r Q q hR => ?_⟩
  refine lb ρ μ _ h W σ H hE r _ fun us ts W2 H2 μ2 le2 r2 hts h2 => ?_
  obtain ⟨hn, h2⟩ := h2
  have all := slAll_kp (np := 0) (idx := idx) (.nil (K := X.K) (W := W2)) hts
  exact ⟨W2, _, μ2, _, _, by rw [all.length]; exact hn, all, r2, h2, q.le le2, fun C f v s W3 H3 μ3 dx le3 r3 hs3 hx h3 => hR C f v s σ ρ W3 H3 μ3 dx (le2.trans le3) r3 (hE.mono (le2.trans le3)) hs3 hx h3⟩
end
end DL
namespace DL
open PySem PySem.Spec PyProof.Rows L2 Evl
theorem ownT_of {P : Program} {w : World} {K : PySem.W.Frag} {mg : Str → Option Value} {y : Str} {st : Stmt} {ps : List Str} {lvl k n : Nat} {φ : Th → DF}
    (h : ∀ (base : Heap) (Θ : Th), (∀ f t φ, Θ f t φ → FnV P w K mg base lvl f t φ) → Own P w K mg base y st ps k n (φ Θ)) : OwnT P w K mg y st ps lvl k n φ := by
  obtain ⟨g, fd, F, _, hm⟩ := h default (fun _ _ _ => False) fun _ _ _ z => z.elim
  refine ⟨g, fd, F, hm, fun base Θ hθ => ?_⟩
  obtain ⟨g', fd', F', G', hm'⟩ := h base Θ hθ
  cases hm.symm.trans hm'
  obtain ⟨_, _, _, _, _, _, _, _, _, _, lk, _⟩ := F.ex
  obtain ⟨_, _, _, _, _, _, _, _, _, _, lk', _⟩ := F'.ex
  rw [lk] at lk'
  cases lk'
  exact G'
end DL
namespace WL
open PySem PySem.Spec PyProof.Rows L2 Evl DL
abbrev T3 := Int × Int × Int
def tieD (t : T3) : PyData := .tuple [.int t.1, .int t.2.1, .int t.2.2]
def rowI (ns : List Int) : PyData := .tuple (ns.map PyData.int)
def pairD (p : Int × Int) : PyData := .tuple [.int p.1, .int p.2]
def tiesD (ts : List T3) : PyData := .tuple (ts.map tieD)
def webD (many : Int) (ts : List T3) : PyData := .tuple [.str (PySem.Str.ofString "web"), .int many, tiesD ts]
def lexP (p q : Int × Int) : Prop := p.1 < q.1 ∨ (p.1 = q.1 ∧ p.2 < q.2)
instance (p q : Int × Int) : Decidable (lexP p q) := inferInstanceAs (Decidable (_ ∨ _))
def two (t : T3) : Int × Int := (t.1, t.2.1)
structure RowsOk (most : Nat) (many : Int) (ts : List T3) : Prop where
  one : 1 ≤ ts.length
  most : ts.length ≤ most
  in_ : ∀ t ∈ ts, 0 ≤ t.1 ∧ t.1 < t.2.1 ∧ t.2.1 < many ∧ 1 ≤ t.2.2 ∧ t.2.2 ≤ 20
  up : ts.Pairwise fun a b => lexP (two a) (two b)
inductive Reach (ts : List T3) (s : Int) : Int → Prop
  | here : Reach ts s s
  | fwd {p : Int} {t : T3} : Reach ts s p → t ∈ ts → t.1 = p → Reach ts s t.2.1
  | bwd {p : Int} {t : T3} : Reach ts s p → t ∈ ts → t.2.1 = p → Reach ts s t.1
structure WebOk (many : Int) (ts : List T3) : Prop where
  lo : 2 ≤ many
  hi : many ≤ 8
  rows : RowsOk 14 many ts
  joined : ∀ p : Int, 0 ≤ p → p < many → Reach ts 0 p
def isW : PyData → Bool
  | .int _ => true
  | _ => false
def withinB (d : PyData) (lo hi : Int) : Bool := match d with
  | .int i => decide (lo ≤ i) && decide (i ≤ hi)
  | _ => false
def ph_is_integer : DF := fun ss μ Q => ∃ d, ss = [.dat d] ∧ Q (.dat (.bool (isW d))) μ
def ph_is_within : DF := fun ss μ Q => ∃ d lo hi, ss = [.dat d, .dat (.int lo), .dat (.int hi)] ∧ Q (.dat (.bool (withinB d lo hi))) μ
def tupOfB (d : PyData) (n : Int) : Bool := match d with
  | .tuple ds => decide ((ds.length : Int) = n)
  | _ => false
def ph_is_tuple_of : DF := fun ss μ Q => ∃ d n, ss = [.dat d, .dat (.int n)] ∧ Q (.dat (.bool (tupOfB d n))) μ
def headB (d : PyData) (w : Str) (n : Int) : Bool := match d with
  | .tuple (.str z :: r) => decide (((r.length + 1 : Nat) : Int) = n) && decide (z = w)
  | _ => false
def ph_is_headed : DF := fun ss μ Q => ∃ d w n, ss = [.dat d, .dat (.str w), .dat (.int n)] ∧ 1 ≤ n ∧ Q (.dat (.bool (headB d w n))) μ
def farD (t : T3) (p : Int) : PyData := if t.1 = p then .int t.2.1 else if t.2.1 = p then .int t.1 else .none
def ph_far_end : DF := fun ss μ Q => ∃ t p, ss = [.dat (tieD t), .dat (.int p)] ∧ Q (.dat (farD t p)) μ
def Small (ts : List T3) : Prop := ts.length ≤ 40 ∧ ∀ t ∈ ts, (0 ≤ t.1 ∧ t.1 < 8) ∧ (0 ≤ t.2.1 ∧ t.2.1 < 8)
def Sq1 (s : Sl) (c : List Int) : Prop := s = .dat (rowI c) ∨ s = .dat (.list (c.map PyData.int))
def pairB (x y : PyData) (many : Int) : Bool := withinB x 0 (many - 1) && (withinB y 0 (many - 1) && match x, y with | .int i, .int j => decide (i < j) | _, _ => false)
def ph_is_pair : DF := fun ss μ Q => ∃ x y r many, ss = [.dat (.tuple (x :: y :: r)), .dat (.int many)] ∧ Q (.dat (.bool (pairB x y many))) μ
def ph_is_web : DF := fun ss μ Q => ∃ many ts, ss = [.dat (webD many ts)] ∧ WebOk many ts ∧ Q (.dat (.bool true)) μ
def ph_check_web : DF := fun ss μ Q => ∃ many ts, ss = [.dat (webD many ts)] ∧ WebOk many ts ∧ Q (.dat .none) μ
def ph_check_place : DF := fun ss μ Q => ∃ many ts p, ss = [.dat (webD many ts), .dat (.int p)] ∧ (0 ≤ p ∧ p < many) ∧ Q (.dat .none) μ
def ph_check_two : DF := fun ss μ Q => ∃ many ts p q, ss = [.dat (webD many ts), .dat (.int p), .dat (.int q)] ∧ (WebOk many ts ∧ (0 ≤ p ∧ p < many) ∧ (0 ≤ q ∧ q < many) ∧ p ≠ q) ∧ Q (.dat .none) μ
def lots : Nat → List (List Int)
  | 0 => [[]]
  | k + 1 => lots k ++ (lots k).map (· ++ [((k + 1 : Nat) : Int)])
def ltL (a b : List Int) : Bool := decide (a < b)
def insL (x : List Int) : List (List Int) → List (List Int)
  | [] => [x]
  | y :: r => if ltL y x = true then y :: insL x r else x :: y :: r
def sortL : List (List Int) → List (List Int)
  | [] => []
  | x :: r => insL x (sortL r)
def cutsL (many : Nat) : List (List Int) := sortL ((lots (many - 1)).filter fun c => !c.isEmpty)
def acrossB (c : List Int) (t : T3) : Bool := decide (t.1 ∈ c) != decide (t.2.1 ∈ c)
def roomL (ts : List T3) (c : List Int) : Int := ((ts.filter (acrossB c)).map (·.2.2)).sum
def beyondL (many : Int) (c : List Int) : List Int := ((List.range many.toNat).map fun (i : Nat) => (i : Int)).filter fun p => !decide (p ∈ c)
def Cut (many : Int) (c : List Int) : Prop := c.Pairwise (· < ·) ∧ (∀ p ∈ c, 1 ≤ p ∧ p < many) ∧ c ≠ []
def SmallL (c : List Int) : Prop := c.length ≤ 100
def ph_cuts_of_many : DF := fun ss μ Q => ∃ n : Nat, ss = [.dat (.int (n : Int))] ∧ (2 ≤ n ∧ n ≤ 8) ∧ Q (.dat (.list ((cutsL n).map rowI))) μ
def ph_is_across : DF := fun ss μ Q => ∃ c s t, ss = [.dat (rowI c), s] ∧ (s = .dat (tieD t) ∨ s = .dat (pairD (two t))) ∧ SmallL c ∧ Q (.dat (.bool (acrossB c t))) μ
def ph_sum_across : DF := fun ss μ Q => ∃ ts c, ss = [.dat (tiesD ts), .dat (rowI c)] ∧ (SmallL c ∧ ts.length ≤ 100) ∧ Q (.dat (.int (roomL ts c))) μ
def ph_places_beyond : DF := fun ss μ Q => ∃ many s c, ss = [.dat (.int many), s] ∧ Sq1 s c ∧ (SmallL c ∧ 0 ≤ many ∧ many ≤ 100) ∧ Q (.dat (.list ((beyondL many c).map PyData.int))) μ
def cutSide (many : Int) (c : List Int) : List Int := if 0 ∈ c then beyondL many c else c
def ph_cut_with_side : DF := fun ss μ Q => ∃ many c, ss = [.dat (.int many), .dat (.list (c.map PyData.int))] ∧ (SmallL c ∧ c.Pairwise (· < ·) ∧ 0 ≤ many ∧ many ≤ 100) ∧ Q (.dat (rowI (cutSide many c))) μ
def sideW (many : Int) (c : List Int) (p : Int) : List Int := if p ∈ c then c else beyondL many c
def ph_side_with : DF := fun ss μ Q => ∃ many c p, ss = [.dat (.int many), .dat (rowI c), .dat (.int p)] ∧ (SmallL c ∧ 0 ≤ many ∧ many ≤ 100) ∧ Q (.dat (.list ((sideW many c p).map PyData.int))) μ
def Pot (μ : Mu) (k : Nat) : Prop := ∃ p0 p1 : Int, μ[k]? = some (.lst [.int p0, .int p1]) ∧ 0 ≤ p0 ∧ 0 ≤ p1 ∧ p1 < 2 ^ 40
def Ch (k : Nat) (μ μ' : Mu) : Prop := Pot μ' k ∧ μ'.length = μ.length ∧ ∀ j, j ≠ k → μ'[j]? = μ[j]?
def ph_law_pot : DF := fun ss μ Q => ∃ (ns : List Int) (k : Int), ss = [.dat (.list (ns.map PyData.int)), .dat (.int k)] ∧ (0 ≤ k ∧ k ≤ 100) ∧ ∀ p0 p1 : Int, 0 ≤ p0 → 0 ≤ p1 → p1 < 2 ^ 40 → Q (.cell μ.length) (μ ++ [.lst [.int p0, .int p1]])
def ph_law_draw : DF := fun ss μ Q => ∃ k n, ss = [.cell k, .dat (.int n)] ∧ Pot μ k ∧ (0 < n ∧ n < 2 ^ 100) ∧ ∀ x μ', 0 ≤ x → x < n → Ch k μ μ' → Q (.dat (.int x)) μ'
def ph_law_pick : DF := fun ss μ Q => ∃ k ds, ss = [.cell k, .dat (.list ds)] ∧ Pot μ k ∧ (0 < ds.length ∧ ds.length ≤ 1000) ∧ ∀ x μ', x ∈ ds → Ch k μ μ' → Q (.dat x) μ'
def ph_law_web : DF := fun ss μ Q => ∃ k many further room, ss = [.cell k, .dat (.int many), .dat (.int further), .dat (.int room)] ∧ Pot μ k ∧ ((2 ≤ many ∧ many ≤ 8) ∧ (0 ≤ further ∧ further + many ≤ 15) ∧ (1 ≤ room ∧ room ≤ 20)) ∧
  ∀ ts μ', WebOk many ts → (∀ t ∈ ts, t.2.2 ≤ room) → Ch k μ μ' → Q (.dat (webD many ts)) μ'
def ph_law_cuts : DF := ph_cuts_of_many
def ph_law_over : DF := ph_sum_across
def ph_law_side : DF := fun ss μ Q => ∃ many c p, ss = [.dat (.int many), .dat (rowI c), .dat (.int p)] ∧ (SmallL c ∧ 0 ≤ many ∧ many ≤ 100) ∧ Q (.dat (rowI (sideW many c p))) μ
end WL
namespace WL
open PySem PySem.Spec PyProof.Rows L2 Evl DL
def ds_is_integer : DS := (dRet (dAndV (dUn (fIsi .int) (dVar 0)) (dNotV (dUn (fIsi .bool) (dVar 0)))))
def ds_is_tuple_of : DS := (dRet (dAndV (dUn (fIsi .tup) (dVar 0)) (dOp rEq (dCB fLen (aCons (dVar 0) aNil)) (dVar 1))))
end WL
namespace WL
open PySem PySem.Spec PyProof.Rows L2 Evl DL
theorem rowI_inj {a b : List Int} (h : rowI a = rowI b) : a = b := (List.map_inj_right (fun _ _ h => PyData.int.inj h)).mp (PyData.tuple.inj h)
theorem ints_inj {a b : List Int} (h : a.map PyData.int = b.map PyData.int) : a = b := (List.map_inj_right (fun _ _ h => PyData.int.inj h)).mp h
theorem tieD_inj {a b : T3} (h : tieD a = tieD b) : a = b := by
  obtain ⟨a1, a2, a3⟩ := a
  obtain ⟨b1, b2, b3⟩ := b
  cases h
  rfl
theorem pairD_inj {a b : Int × Int} (h : pairD a = pairD b) : a = b := by
  obtain ⟨a1, a2⟩ := a
  obtain ⟨b1, b2⟩ := b
  cases h
  rfl
theorem ties_inj {a b : List T3} (h : a.map tieD = b.map tieD) : a = b := (List.map_inj_right (fun _ _ h => tieD_inj h)).mp h
theorem tiesD_inj {a b : List T3} (h : tiesD a = tiesD b) : a = b := ties_inj (PyData.tuple.inj h)
theorem webD_inj {m n : Int} {a b : List T3} (h : webD m a = webD n b) : m = n ∧ a = b := by
  have := PyData.tuple.inj h
  simp only [List.cons.injEq, PyData.int.injEq, and_true, true_and] at this
  exact ⟨this.1, tiesD_inj this.2⟩
theorem dr_inj {s t : PyData} {r r' : List Sl} (h : Sl.dat s :: r = Sl.dat t :: r') : s = t ∧ r = r' := by cases h; exact ⟨rfl, rfl⟩
theorem sh_row {c : List Int} : Sh 1 (rowI c) := Sh.tup fun x hx => by
  obtain ⟨i, _, rfl⟩ := List.mem_map.mp hx
  exact .int
theorem sh_ints {c : List Int} : Sh 1 (.list (c.map PyData.int)) := Sh.list fun x hx => by
  obtain ⟨i, _, rfl⟩ := List.mem_map.mp hx
  exact .int
theorem sh_rows {cs : List (List Int)} : Sh 2 (.list (cs.map rowI)) := Sh.list fun x hx => by
  obtain ⟨i, _, rfl⟩ := List.mem_map.mp hx
  exact sh_row
theorem any_int {c : List Int} {i : Int} : ((c.map PyData.int).any fun z => PyData.eqv z (.int i)) = decide (i ∈ c) := by
  induction c with
  | nil => rfl
  | cons a r ih =>
    rw [List.map_cons, List.any_cons, ih]
    have : PyData.eqv (.int a) (.int i) = decide (a = i) := by
      simp only [PyData.eqv]
      exact Bool.beq_eq_decide_eq a i
    rw [this]
    by_cases h : i = a
    · subst h; simp
    · have h' : ¬ a = i := fun z => h z.symm
      simp [h, h']
section
variable {μ : Mu} {Q : DQ} {c : List Int} {i j n lo hi : Int} {x y : PyData} {t : T3} {f : Bool → Bool} {ts : List T3} {w : Str}
@[simp ↓] theorem in_row : wIn f (.dat (.int i)) (.dat (rowI c)) μ Q = Q (.dat (.bool (f (decide (i ∈ c))))) μ := by
  unfold rowI
  rw [w_inT, any_int]
  exact propext ⟨fun z => z.2, fun z => ⟨⟨(Sh.int (n := 0)).ok (by decide), sh_row.ok (by decide)⟩, z⟩⟩
@[simp ↓] theorem in_ints : wIn f (.dat (.int i)) (.dat (.list (c.map PyData.int))) μ Q = Q (.dat (.bool (f (decide (i ∈ c))))) μ := by
  rw [w_inL, any_int]
  exact propext ⟨fun z => z.2, fun z => ⟨⟨(Sh.int (n := 0)).ok (by decide), sh_ints.ok (by decide)⟩, z⟩⟩
@[simp ↓] theorem ix_t0 : DL.rIx (.dat (tieD t)) (.dat (.int 0)) μ Q = Q (.dat (.int t.1)) μ := propext ⟨fun ⟨d, e, h⟩ => by cases e; exact h, fun h => ⟨_, rfl, h⟩⟩
@[simp ↓] theorem ix_t1 : DL.rIx (.dat (tieD t)) (.dat (.int 1)) μ Q = Q (.dat (.int t.2.1)) μ := propext ⟨fun ⟨d, e, h⟩ => by cases e; exact h, fun h => ⟨_, rfl, h⟩⟩
@[simp ↓] theorem ix_t2 : DL.rIx (.dat (tieD t)) (.dat (.int 2)) μ Q = Q (.dat (.int t.2.2)) μ := propext ⟨fun ⟨d, e, h⟩ => by cases e; exact h, fun h => ⟨_, rfl, h⟩⟩
@[simp ↓] theorem ix_p0 {p : Int × Int} : DL.rIx (.dat (pairD p)) (.dat (.int 0)) μ Q = Q (.dat (.int p.1)) μ := propext ⟨fun ⟨d, e, h⟩ => by cases e; exact h, fun h => ⟨_, rfl, h⟩⟩
@[simp ↓] theorem ix_p1 {p : Int × Int} : DL.rIx (.dat (pairD p)) (.dat (.int 1)) μ Q = Q (.dat (.int p.2)) μ := propext ⟨fun ⟨d, e, h⟩ => by cases e; exact h, fun h => ⟨_, rfl, h⟩⟩
@[simp ↓] theorem ix_w0 : DL.rIx (.dat (webD n ts)) (.dat (.int 0)) μ Q = Q (.dat (.str (PySem.Str.ofString "web"))) μ := propext ⟨fun ⟨d, e, h⟩ => by cases e; exact h, fun h => ⟨_, rfl, h⟩⟩
@[simp ↓] theorem ix_w1 : DL.rIx (.dat (webD n ts)) (.dat (.int 1)) μ Q = Q (.dat (.int n)) μ := propext ⟨fun ⟨d, e, h⟩ => by cases e; exact h, fun h => ⟨_, rfl, h⟩⟩
@[simp ↓] theorem ix_w2 : DL.rIx (.dat (webD n ts)) (.dat (.int 2)) μ Q = Q (.dat (tiesD ts)) μ := propext ⟨fun ⟨d, e, h⟩ => by cases e; exact h, fun h => ⟨_, rfl, h⟩⟩
theorem atI0 {α : Type} {x : α} {r : List α} : atI (x :: r) 0 = some x := atI_nat (xs := x :: r) (j := 0) rfl
theorem atI1 {α : Type} {x y : α} {r : List α} : atI (x :: y :: r) 1 = some y := atI_nat (xs := x :: y :: r) (j := 1) rfl
theorem rix_t {ds : List PyData} {d : PyData} (e : atI ds i = some d) : DL.rIx (.dat (.tuple ds)) (.dat (.int i)) μ Q = Q (.dat d) μ := by
  simp only [DL.rIx, e_rdD, e, Option.some.injEq, exists_eq_left', e_eltD]
@[simp ↓] theorem ix_0 {r : List PyData} : DL.rIx (.dat (.tuple (x :: r))) (.dat (.int 0)) μ Q = Q (.dat x) μ := rix_t atI0
@[simp ↓] theorem ix_1 {r : List PyData} : DL.rIx (.dat (.tuple (x :: y :: r))) (.dat (.int 1)) μ Q = Q (.dat y) μ := rix_t atI1
@[simp ↓] theorem c_is_integer : ph_is_integer [.dat x] μ Q = Q (.dat (.bool (isW x))) μ := propext ⟨fun ⟨_, e, h⟩ => by cases e; exact h, fun h => ⟨_, rfl, h⟩⟩
@[simp ↓] theorem c_is_within : ph_is_within [.dat x, .dat (.int lo), .dat (.int hi)] μ Q = Q (.dat (.bool (withinB x lo hi))) μ := propext ⟨fun ⟨_, _, _, e, h⟩ => by cases e; exact h, fun h => ⟨_, _, _, rfl, h⟩⟩
@[simp ↓] theorem c_is_tuple_of : ph_is_tuple_of [.dat x, .dat (.int n)] μ Q = Q (.dat (.bool (tupOfB x n))) μ := propext ⟨fun ⟨_, _, e, h⟩ => by cases e; exact h, fun h => ⟨_, _, rfl, h⟩⟩
@[simp ↓] theorem c_is_headed : ph_is_headed [.dat x, .dat (.str w), .dat (.int n)] μ Q = (1 ≤ n ∧ Q (.dat (.bool (headB x w n))) μ) := propext ⟨fun ⟨_, _, _, e, h⟩ => by cases e; exact h, fun h => ⟨_, _, _, rfl, h⟩⟩
@[simp ↓] theorem c_far_end : ph_far_end [.dat (tieD t), .dat (.int i)] μ Q = Q (.dat (farD t i)) μ := propext ⟨fun ⟨_, _, e, h⟩ => by
  obtain ⟨e1, e2⟩ := dr_inj e
  cases tieD_inj e1
  cases e2
  exact h, fun h => ⟨_, _, rfl, h⟩⟩
@[simp ↓] theorem c_is_pair {r : List PyData} : ph_is_pair [.dat (.tuple (x :: y :: r)), .dat (.int n)] μ Q = Q (.dat (.bool (pairB x y n))) μ := propext ⟨fun ⟨_, _, _, _, e, h⟩ => by cases e; exact h, fun h => ⟨_, _, _, _, rfl, h⟩⟩
@[simp ↓] theorem c_is_pairT : ph_is_pair [.dat (tieD t), .dat (.int n)] μ Q = Q (.dat (.bool (pairB (.int t.1) (.int t.2.1) n))) μ := c_is_pair
@[simp ↓] theorem c_check_web : ph_check_web [.dat (webD n ts)] μ Q = (WebOk n ts ∧ Q (.dat .none) μ) := propext ⟨fun ⟨_, _, e, h⟩ => by
  obtain ⟨rfl, rfl⟩ := webD_inj (dr_inj e).1
  exact h, fun h => ⟨_, _, rfl, h⟩⟩
@[simp ↓] theorem c_is_web : ph_is_web [.dat (webD n ts)] μ Q = (WebOk n ts ∧ Q (.dat (.bool true)) μ) := propext ⟨fun ⟨_, _, e, h⟩ => by
  obtain ⟨rfl, rfl⟩ := webD_inj (dr_inj e).1
  exact h, fun h => ⟨_, _, rfl, h⟩⟩
@[simp ↓] theorem c_check_place : ph_check_place [.dat (webD n ts), .dat (.int i)] μ Q = ((0 ≤ i ∧ i < n) ∧ Q (.dat .none) μ) := propext ⟨fun ⟨_, _, _, e, h⟩ => by
  obtain ⟨e1, e2⟩ := dr_inj e
  obtain ⟨rfl, rfl⟩ := webD_inj e1
  cases e2
  exact h, fun h => ⟨_, _, _, rfl, h⟩⟩
@[simp ↓] theorem c_check_two : ph_check_two [.dat (webD n ts), .dat (.int i), .dat (.int j)] μ Q = ((WebOk n ts ∧ (0 ≤ i ∧ i < n) ∧ (0 ≤ j ∧ j < n) ∧ i ≠ j) ∧ Q (.dat .none) μ) := propext ⟨fun ⟨_, _, _, _, e, h⟩ => by
  obtain ⟨e1, e2⟩ := dr_inj e
  obtain ⟨rfl, rfl⟩ := webD_inj e1
  cases e2
  exact h, fun h => ⟨_, _, _, _, rfl, h⟩⟩
@[simp ↓] theorem c_cuts_of_many {n : Nat} : ph_cuts_of_many [.dat (.int (n : Int))] μ Q = ((2 ≤ n ∧ n ≤ 8) ∧ Q (.dat (.list ((cutsL n).map rowI))) μ) := propext ⟨fun ⟨_, e, h⟩ => by
  have : n = _ := Int.ofNat.inj (PyData.int.inj (dr_inj e).1)
  subst this
  exact h, fun h => ⟨_, rfl, h⟩⟩
@[simp ↓] theorem c_is_across : ph_is_across [.dat (rowI c), .dat (tieD t)] μ Q = (SmallL c ∧ Q (.dat (.bool (acrossB c t))) μ) := propext ⟨fun ⟨_, s, t', e, hs, h⟩ => by
  obtain ⟨e1, e2⟩ := dr_inj e
  cases rowI_inj e1
  rcases hs with rfl | rfl
  · cases tieD_inj (dr_inj e2).1
    exact h
  · exact absurd (congrArg (fun d => match d with | PyData.tuple ds => ds.length | _ => 0) (dr_inj e2).1) (by simp [tieD, pairD]), fun h => ⟨_, _, _, rfl, .inl rfl, h⟩⟩
@[simp ↓] theorem c_is_acrossP {p : Int × Int} : ph_is_across [.dat (rowI c), .dat (pairD p)] μ Q = (SmallL c ∧ Q (.dat (.bool (acrossB c (p.1, p.2, 0)))) μ) := propext ⟨fun ⟨_, s, t', e, hs, h⟩ => by
  obtain ⟨e1, e2⟩ := dr_inj e
  cases rowI_inj e1
  rcases hs with rfl | rfl
  · exact absurd (congrArg (fun d => match d with | PyData.tuple ds => ds.length | _ => 0) (dr_inj e2).1) (by simp [tieD, pairD])
  · cases pairD_inj (dr_inj e2).1
    exact h, fun h => ⟨_, _, (p.1, p.2, 0), rfl, .inr rfl, h⟩⟩
@[simp ↓] theorem c_sum_across : ph_sum_across [.dat (tiesD ts), .dat (rowI c)] μ Q = ((SmallL c ∧ ts.length ≤ 100) ∧ Q (.dat (.int (roomL ts c))) μ) := propext ⟨fun ⟨_, _, e, h⟩ => by
  obtain ⟨e1, e2⟩ := dr_inj e
  cases tiesD_inj e1
  cases rowI_inj (dr_inj e2).1
  exact h, fun h => ⟨_, _, rfl, h⟩⟩
@[simp ↓] theorem c_law_over : ph_law_over [.dat (tiesD ts), .dat (rowI c)] μ Q = ((SmallL c ∧ ts.length ≤ 100) ∧ Q (.dat (.int (roomL ts c))) μ) := c_sum_across
@[simp ↓] theorem c_law_cuts {n : Nat} : ph_law_cuts [.dat (.int (n : Int))] μ Q = ((2 ≤ n ∧ n ≤ 8) ∧ Q (.dat (.list ((cutsL n).map rowI))) μ) := c_cuts_of_many
theorem sq1_inj {s : Sl} {c d : List Int} (h : Sq1 s c) (g : Sq1 s d) : c = d := by
  rcases h with rfl | rfl <;> rcases g with e | e
  · exact rowI_inj (Sl.dat.inj e)
  · cases e
  · cases e
  · exact ints_inj (PyData.list.inj (Sl.dat.inj e))
theorem c_places_beyond {s : Sl} (hs : Sq1 s c) : ph_places_beyond [.dat (.int n), s] μ Q = ((SmallL c ∧ 0 ≤ n ∧ n ≤ 100) ∧ Q (.dat (.list ((beyondL n c).map PyData.int))) μ) := propext ⟨fun ⟨_, _, _, e, hs', h⟩ => by
  cases e
  cases sq1_inj hs hs'
  exact h, fun h => ⟨_, _, _, rfl, hs, h⟩⟩
@[simp ↓] theorem c_places_beyondR : ph_places_beyond [.dat (.int n), .dat (rowI c)] μ Q = ((SmallL c ∧ 0 ≤ n ∧ n ≤ 100) ∧ Q (.dat (.list ((beyondL n c).map PyData.int))) μ) := c_places_beyond (.inl rfl)
@[simp ↓] theorem c_places_beyondL : ph_places_beyond [.dat (.int n), .dat (.list (c.map PyData.int))] μ Q = ((SmallL c ∧ 0 ≤ n ∧ n ≤ 100) ∧ Q (.dat (.list ((beyondL n c).map PyData.int))) μ) := c_places_beyond (.inr rfl)
@[simp ↓] theorem c_cut_with_side : ph_cut_with_side [.dat (.int n), .dat (.list (c.map PyData.int))] μ Q = ((SmallL c ∧ c.Pairwise (· < ·) ∧ 0 ≤ n ∧ n ≤ 100) ∧ Q (.dat (rowI (cutSide n c))) μ) := propext ⟨fun ⟨_, _, e, h⟩ => by
  obtain ⟨e1, e2⟩ := dr_inj e
  cases e1
  cases ints_inj (PyData.list.inj (dr_inj e2).1)
  exact h, fun h => ⟨_, _, rfl, h⟩⟩
@[simp ↓] theorem c_side_with : ph_side_with [.dat (.int n), .dat (rowI c), .dat (.int i)] μ Q = ((SmallL c ∧ 0 ≤ n ∧ n ≤ 100) ∧ Q (.dat (.list ((sideW n c i).map PyData.int))) μ) := propext ⟨fun ⟨_, _, _, e, h⟩ => by
  obtain ⟨e1, e2⟩ := dr_inj e
  cases e1
  obtain ⟨e3, e4⟩ := dr_inj e2
  cases rowI_inj e3
  cases e4
  exact h, fun h => ⟨_, _, _, rfl, h⟩⟩
@[simp ↓] theorem c_law_side : ph_law_side [.dat (.int n), .dat (rowI c), .dat (.int i)] μ Q = ((SmallL c ∧ 0 ≤ n ∧ n ≤ 100) ∧ Q (.dat (rowI (sideW n c i))) μ) := propext ⟨fun ⟨_, _, _, e, h⟩ => by
  obtain ⟨e1, e2⟩ := dr_inj e
  cases e1
  obtain ⟨e3, e4⟩ := dr_inj e2
  cases rowI_inj e3
  cases e4
  exact h, fun h => ⟨_, _, _, rfl, h⟩⟩
variable {k : Nat}
@[simp ↓] theorem c_law_draw : ph_law_draw [.cell k, .dat (.int n)] μ Q = (Pot μ k ∧ (0 < n ∧ n < 2 ^ 100) ∧ ∀ x μ', 0 ≤ x → x < n → Ch k μ μ' → Q (.dat (.int x)) μ') := propext ⟨fun ⟨_, _, e, h⟩ => by cases e; exact h, fun h => ⟨_, _, rfl, h⟩⟩
@[simp ↓] theorem c_law_pick {ds : List PyData} : ph_law_pick [.cell k, .dat (.list ds)] μ Q = (Pot μ k ∧ (0 < ds.length ∧ ds.length ≤ 1000) ∧ ∀ x μ', x ∈ ds → Ch k μ μ' → Q (.dat x) μ') := propext ⟨fun ⟨_, _, e, h⟩ => by cases e; exact h, fun h => ⟨_, _, rfl, h⟩⟩
@[simp ↓] theorem c_law_web {further room : Int} : ph_law_web [.cell k, .dat (.int n), .dat (.int further), .dat (.int room)] μ Q = (Pot μ k ∧ ((2 ≤ n ∧ n ≤ 8) ∧ (0 ≤ further ∧ further + n ≤ 15) ∧ (1 ≤ room ∧ room ≤ 20)) ∧
  ∀ ts μ', WebOk n ts → (∀ t ∈ ts, t.2.2 ≤ room) → Ch k μ μ' → Q (.dat (webD n ts)) μ') := propext ⟨fun ⟨_, _, _, _, e, h⟩ => by cases e; exact h, fun h => ⟨_, _, _, _, rfl, h⟩⟩
@[simp ↓] theorem c_law_pot {ns : List Int} : ph_law_pot [.dat (.list (ns.map PyData.int)), .dat (.int n)] μ Q = ((0 ≤ n ∧ n ≤ 100) ∧ ∀ p0 p1 : Int, 0 ≤ p0 → 0 ≤ p1 → p1 < 2 ^ 40 → Q (.cell μ.length) (μ ++ [.lst [.int p0, .int p1]])) :=
  propext ⟨fun ⟨_, _, e, h⟩ => by
    obtain ⟨e1, e2⟩ := dr_inj e
    cases ints_inj (PyData.list.inj e1)
    cases e2
    exact h, fun h => ⟨_, _, rfl, h⟩⟩
end
end WL
namespace WL
open PySem PySem.Spec PyProof.Rows L2 Evl DL
@[simp ↓ high] theorem o_rowT {c : List Int} {μ : Mu} {Q : DQ} : fTuple [.dat (.list (c.map PyData.int))] μ Q = Q (.dat (rowI c)) μ := rfl
@[simp ↓ high] theorem o_listR {c : List Int} {μ : Mu} {Q : DQ} : fList [.dat (rowI c)] μ Q = Q (.dat (.list (c.map PyData.int))) μ := rfl
theorem sz : ∀ {n : Nat}, n ≤ 1000 → n ≤ sizeLine := fun h => small_sz h
theorem pu_is_integer : Pure ["value"] 1 ph_is_integer ds_is_integer := by
  intro ss μ Q' hl h
  obtain ⟨d, rfl, h⟩ := h
  cases d <;> simpa [ds_is_integer, startD, isTy, isW] using h
theorem pu_is_tuple_of : Pure ["value", "many"] 2 ph_is_tuple_of ds_is_tuple_of := by
  intro ss μ Q' hl h
  obtain ⟨d, n, rfl, h⟩ := h
  cases d <;> simpa [ds_is_tuple_of, startD, isTy, tupOfB] using h
end WL
namespace DL
open PySem PySem.Spec PyProof.Rows L2 Evl
inductive OutI where
  | ret (s : Sl)
  | exc (C : Addr) (n : Str) (d : PyData)
def OutI.of (φ : FV) (μ : Mu) : OutI → Prop
  | .ret s => ∀ (Q : DQ) (R : RQF), Q s μ → φ μ Q R
  | .exc C n d => ∀ (Q : DQ) (R : RQF), R C n (.dat d) μ → φ μ Q R
def heardF (told : OutI → List PyData → Prop) (Θ : Th) : DF := fun ss μ Q => ∃ k f t φ o es, ss = [.cell k] ∧ μ[k]? = some (.tab f t) ∧ Θ f t φ ∧ OutI.of φ μ o ∧ told o es ∧ Q (.dat (.list es)) μ
def allF (told : OutI → List PyData → Prop) (Θ : Th) : DF := fun ss μ Q => ∃ (ks : List Nat) (y : Sl) (due : List PyData), ss = [.raw (ks.map .inl), y] ∧ isV y = false ∧ rd μ y = some (.list due) ∧ SeqAt.shaped (.list due) = true ∧ PyData.eqv (.list due) (.list due) = true ∧
  (∀ k ∈ ks, ∃ f t φ o, μ[k]? = some (.tab f t) ∧ Θ f t φ ∧ (∀ ν, OutI.of φ (μ ++ ν) o) ∧ told o due) ∧ Q (.dat (.bool true)) μ
theorem lc_none {i : DI} {g : DG} {t : DT} {e : DE} {vs : List Nat} {ρ : Rho} {μ : Mu} {Q : DQ} {C : Mu → Prop} {ss : List Sl} (hi : ∀ R, R ss C μ → i ρ μ R) (hC : C (μ ++ [Cell.lst []]))
    (hs : ∀ s ∈ ss, ∀ (R R' : Mu → Prop), R (μ ++ [Cell.lst []]) → g s (wipeD ρ vs) (μ ++ [Cell.lst []]) fun ρ1 μ1 => t ρ1 μ1 fun b μ2 => if b = true then e ρ1 μ2 fun v μ3 => addTo μ.length v μ3 R' else R μ2)
    (q : Q (.dat (.list [])) μ) : dLc i g t e vs ρ μ Q := by
  refine hi _ ?_
  have key : ∀ l : List Sl, (∀ s ∈ l, s ∈ ss) → lcD C g t e μ.length (frzQ μ.length Q) (wipeD ρ vs) l (μ ++ [Cell.lst []]) := by
    intro l
    induction l with
    | nil =>
      intro _
      refine ⟨hC, ?_⟩
      rw [frz_end]
      exact q
    | cons s l ih =>
      intro hl
      exact ⟨hC, hs s (hl s List.mem_cons_self) _ _ (ih fun x hx => hl x (List.mem_cons_of_mem _ hx))⟩
  exact key ss fun _ h => h
def ds_allF (φ : DF) : DS := dRet (dOp rEq (dLc (iRefs (dVar 0)) (gN 2) (dTest (dOp rNe (dCall 1 φ (aCons (dVar 2) aNil)) (dVar 1))) (dVar 2) [2]) (dLst aNil))
theorem pu_allF {told : OutI → List PyData → Prop} {Θ : Th} : Pure ["calls", "due", "call"] 2 (allF told Θ) (ds_allF (heardF told Θ)) := by
  intro ss μ Q' hl h
  obtain ⟨ks, y, due, rfl, hy, hd, hsh, hev, hall, h⟩ := h
  show dOp rEq _ _ _ _ _
  refine lc_none (C := fun _ => True) (ss := (ks.map Sum.inl).map itS) (fun R hR => ⟨_, rfl, hR⟩) trivial (fun s hs R R' hR => ?_) ?_
  · rw [List.map_map] at hs
    obtain ⟨k, hk, rfl⟩ := List.mem_map.mp hs
    obtain ⟨f, t, φ, o, h1, h2, h3, h4⟩ := hall k hk
    have hk1 : (μ ++ [Cell.lst []])[k]? = some (.tab f t) := by rw [List.getElem?_append_left (List.getElem?_eq_some_iff.mp h1).1]; exact h1
    have rdy : rd (μ ++ [Cell.lst []]) y = some (.list due) := rd_more hd
    refine ⟨rfl, k, f, t, φ, o, due, rfl, hk1, h2, h3 _, h4, ?_⟩
    have e1 : rd (μ ++ [Cell.lst []]) (.dat (.list due)) = some (.list due) := rfl
    show DL.rNe (.dat (.list due)) y (μ ++ [Cell.lst []]) _
    unfold DL.rNe eqD
    rw [rdy, e1]
    refine ⟨⟨hsh, hsh⟩, ?_⟩
    rw [hev]
    exact hR
  · refine ⟨Nat.zero_le _, ?_⟩
    show DL.rEq (.dat (.list [])) (.dat (.list [])) μ _
    have e1 : rd μ (.dat (.list [])) = some (.list []) := rfl
    unfold DL.rEq eqD
    rw [e1]
    refine ⟨⟨by decide +kernel, by decide +kernel⟩, ?_⟩
    have e2 : PyData.eqv (.list []) (.list []) = true := by decide +kernel
    rw [e2]
    show Q' (.dat (.bool true)) (μ.take μ.length)
    rw [List.take_length]
    exact h
end DL
namespace DL
open PySem PySem.Spec PyProof.Rows L2 Evl
inductive ItK where
  | str (z : Str)
  | rep
  | fld
  | is
def ItK.val (d : PyData) : ItK → PyData
  | .str z => .str z
  | .rep => .str d.shown
  | .fld => d
  | .is => .bool true
def ItK.ok (d : PyData) : ItK → Prop
  | .rep => okR d
  | _ => True
def itOf : List ItK → DIt
  | [] => dItNil
  | .str z :: r => dItStr z (itOf r)
  | .rep :: r => dItRep (itOf r)
  | .fld :: r => dItFld (itOf r)
  | .is :: r => dItIs (itOf r)
theorem itOf_ok {d : PyData} : ∀ {l : List ItK} {Q : List PyData → Prop}, (∀ i ∈ l, i.ok d) → Q (l.map (ItK.val d)) → itOf l d Q
  | [], _, _, q => q
  | .str z :: r, _, h, q => itOf_ok (l := r) (fun i hi => h i (List.mem_cons_of_mem _ hi)) q
  | .rep :: r, _, h, q => ⟨h .rep List.mem_cons_self, itOf_ok (l := r) (fun i hi => h i (List.mem_cons_of_mem _ hi)) q⟩
  | .fld :: r, _, h, q => itOf_ok (l := r) (fun i hi => h i (List.mem_cons_of_mem _ hi)) q
  | .is :: r, _, h, q => itOf_ok (l := r) (fun i hi => h i (List.mem_cons_of_mem _ hi)) q
structure ClI where
  C : Addr
  f : Str
  its : List ItK
def clOf (iT iE : Nat) (outs : List Addr) (last : RQD) : List ClI → RQD
  | [] => last
  | c :: cs => dCl iT iE c.C c.f (itOf c.its) (cs.map ClI.C ++ outs) (clOf iT iE outs last cs)
section
variable {iT iE : Nat} {outs : List Addr} {last : RQD} {R : RQ} {D : DEnds} {ρ : Rho} {μ : Mu} {d : PyData}
theorem cl_take : ∀ {cs : List ClI} {c : ClI}, c ∈ cs → (∀ i ∈ c.its, i.ok d) → iE < ρ.length → c.its.length ≤ sizeLine → D.nx (((ρ.set iE none).set iT (some (.dat (.list (c.its.map (ItK.val d)))))).set iE none) μ → clOf iT iE outs last cs R D c.C c.f (.dat d) ρ μ
  | [], _, h, _, _, _, _ => by cases h
  | c0 :: cs, c, h, ok, hE, hl, q => by
    rcases List.mem_cons.mp h with rfl | h
    · exact .inl ⟨rfl, rfl, hE, d, rfl, itOf_ok ok ⟨by rw [List.length_map]; exact hl, q⟩⟩
    · exact .inr ⟨List.mem_append_left _ (List.mem_map.mpr ⟨c, h, rfl⟩), cl_take h ok hE hl q⟩
theorem cl_pass {C : Addr} {n : Str} {s : Sl} (hC : C ∈ outs) (q : last R D C n s ρ μ) : ∀ {cs : List ClI}, clOf iT iE outs last cs R D C n s ρ μ
  | [] => q
  | _ :: _ => .inr ⟨List.mem_append_right _ hC, cl_pass hC q⟩
end
inductive Told (cs : List ClI) : OutI → List PyData → Prop
  | let_ (s : Sl) : Told cs (.ret s) [.str ("let" : Str)]
  | exc (c : ClI) (d : PyData) : c ∈ cs → (∀ i ∈ c.its, i.ok d) → c.its.length ≤ sizeLine → Told cs (.exc c.C c.f d) (c.its.map (ItK.val d))
def kindsF (cs : List ClI) (outs : List Addr) (Θ : Th) : DFE := fun ss μ Q R => ∃ k f t φ o, ss = [.cell k] ∧ μ[k]? = some (.tab f t) ∧ Θ f t φ ∧ OutI.of φ μ o ∧
  ((∃ es, Told cs o es ∧ Q (.dat (.list es)) μ) ∨ ∃ C n d, o = .exc C n d ∧ C ∈ outs ∧ R C n (.dat d) μ)
def ds_kinds (cs : List ClI) (outs : List Addr) (Θ : Th) : DSX := fun R => dSeq (dAsg (dLst (aCons (dC (.str ("let" : Str))) aNil)) 1) (dSeq (dTryH (fun R => dDrop (dCallF Θ 0 R)) (clOf 1 2 outs dOut cs) R) (dRet (dVar 1)))
theorem pu_kinds {cs : List ClI} {outs : List Addr} {Θ : Th} : PureE ["call", "told", "e"] 1 (kindsF cs outs Θ) (ds_kinds cs outs Θ) := by
  intro ss μ Q' R' hl h
  obtain ⟨k, f, t, φ, o, rfl, hk, hT, ho, h⟩ := h
  have e3 : μ.take μ.length = μ := List.take_length
  refine ⟨show 1 ≤ sizeLine by decide, ?_⟩
  show dTryH (fun R => dDrop (dCallF Θ 0 R)) (clOf 1 2 outs dOut cs) _ _ [some (.cell k), some (.dat (.list [.str ("let" : Str)])), none] μ
  refine ⟨k, f, t, φ, rfl, hk, hT, ?_⟩
  rcases h with ⟨es, ht, h⟩ | ⟨C, n, d, rfl, hC, h⟩
  · cases ht with
    | let_ s =>
      refine ho _ _ ?_
      show Q' (.dat (.list [.str ("let" : Str)])) (μ.take μ.length)
      rw [e3]
      exact h
    | exc c d hc ok hlen =>
      refine ho _ _ (cl_take hc ok (show 2 < 3 by decide) hlen ?_)
      show Q' (.dat (.list (c.its.map (ItK.val d)))) (μ.take μ.length)
      rw [e3]
      exact h
  · refine ho _ _ (cl_pass hC ?_)
    show R' C n (.dat d) (μ.take μ.length)
    rw [e3]
    exact h
end DL
namespace DL
open PySem PySem.Spec PyProof.Rows L2 Evl
def ds_heard (cs1 cs2 : List ClI) (Θ : Th) : DS := dSeq (dTryH (fun R => dAsg (dCallE 1 (kindsF cs1 (cs2.map ClI.C) Θ) (aCons (dVar 0) aNil) R) 1) (clOf 1 2 [] dNone cs2) fun _ _ _ _ _ => False) (dRet (dVar 1))
theorem pu_heard {cs1 cs2 : List ClI} {Θ : Th} : Pure ["call", "told", "e"] 1 (heardF (Told (cs1 ++ cs2)) Θ) (ds_heard cs1 cs2 Θ) := by
  intro ss μ Q' hl h
  obtain ⟨k, f, t, φ, o, es, rfl, hk, hT, ho, ht, h⟩ := h
  have e3 : μ.take μ.length = μ := List.take_length
  refine ⟨rfl, k, f, t, φ, o, rfl, hk, hT, ho, ?_⟩
  cases ht with
  | let_ s =>
    refine .inl ⟨_, .let_ s, ?_⟩
    show Q' (.dat (.list [.str ("let" : Str)])) (μ.take μ.length)
    rw [e3]
    exact h
  | exc c d hc ok hlen =>
    rcases List.mem_append.mp hc with hc | hc
    · refine .inl ⟨_, .exc c d hc ok hlen, ?_⟩
      show Q' (.dat (.list (c.its.map (ItK.val d)))) (μ.take μ.length)
      rw [e3]
      exact h
    · refine .inr ⟨c.C, c.f, d, rfl, List.mem_map.mpr ⟨c, hc, rfl⟩, cl_take hc ok (show 2 < 3 by decide) hlen ?_⟩
      show Q' (.dat (.list (c.its.map (ItK.val d)))) (μ.take μ.length)
      rw [e3]
      exact h
end DL
namespace DL
open PySem PySem.Spec PyProof.Rows L2 Evl
section
variable {X : Cx} {XW : WX} {hds : List ExceptHandler} {hv : RQD}
end
end DL
namespace DL
open PySem PySem.Spec PyProof.Rows L2 Evl
theorem out_exc {N : List Str} {es : List (Option PyData)} {de : DEX} {μ : Mu} {C : Addr} {n : Str} {d : PyData} (h : ∀ (R : RQ) (Q : DQ), R C n (.dat d) (rhoF N es) μ → de R (rhoF N es) μ Q) : OutI.of (fvOf N es de) μ (.exc C n d) := by
  intro Q R hR
  refine h _ _ ?_
  show R C n (.dat d) (μ.take μ.length)
  rw [List.take_length]
  exact hR
theorem out_ret {N : List Str} {es : List (Option PyData)} {de : DEX} {μ : Mu} {d : PyData} (h : ∀ (R : RQ) (Q : DQ), Q (.dat d) μ → de R (rhoF N es) μ Q) : OutI.of (fvOf N es de) μ (.ret (.dat d)) := by
  intro Q R hQ
  refine h _ _ ?_
  show Q (.dat d) (μ.take μ.length)
  rw [List.take_length]
  exact hQ
def dApps (i k0 : Nat) (T : Addr) (q : Str) (b : DS) : List (Addr → LamI) → DAp
  | [] => dApEnd i b
  | l :: r => dApOne i (dLam k0 T q l) (dApps i k0 T q b r)
def fnCells : List (Addr → LamI) → List (Addr × Addr) → Mu
  | l :: r, fc :: rs => .tab fc.1 (tabF (l fc.2) fc.1 [] []) :: fnCells r rs
  | _, _ => []
theorem apps_ok {i k0 : Nat} {T : Addr} {q : Str} {b : DS} {D : DEnds} {ρ : Rho} : ∀ (ls : List (Addr → LamI)) (es : List (Nat ⊕ PyData)) (μ : Mu), μ[k0]? = some (.tab T q) → es.length + ls.length ≤ sizeLine →
    (∀ fcs : List (Addr × Addr), fcs.length = ls.length → b D (ρ.set i (some (.raw (es ++ (List.range' μ.length ls.length).map .inl)))) (μ ++ fnCells ls fcs)) → dApps i k0 T q b ls es D ρ μ
  | [], es, μ, _, _, h => by
    have := h [] rfl
    show b D (ρ.set i (some (.raw es))) μ
    simpa [fnCells] using this
  | l :: r, es, μ, hk, hl, h => by
    rw [List.length_cons] at hl
    refine ⟨by omega, hk, fun f c => ⟨.inl μ.length, rfl, ?_⟩⟩
    refine apps_ok r _ _ (by rw [List.getElem?_append_left (List.getElem?_eq_some_iff.mp hk).1]; exact hk) (by rw [List.length_append, List.length_singleton]; omega) fun fcs hf => ?_
    have := h ((f, c) :: fcs) (by rw [List.length_cons, List.length_cons, hf])
    rw [List.length_cons, List.range'_succ, List.map_cons] at this
    rw [List.append_assoc, List.append_assoc, List.length_append, List.length_singleton]
    exact this
def dBlk (i k0 : Nat) (T : Addr) (q : Str) (b : DS) (l : Addr → LamI) (r : List (Addr → LamI)) : DS := dApAll i (aCons (dLam k0 T q l) aNil) (dApps i k0 T q b r)
theorem blk_ok {i k0 : Nat} {T : Addr} {q : Str} {b : DS} {D : DEnds} {ρ : Rho} {μ : Mu} {l : Addr → LamI} {r : List (Addr → LamI)} (hi : i < ρ.length) (hk : μ[k0]? = some (.tab T q)) (hl : (l :: r).length ≤ sizeLine)
    (h : ∀ fcs : List (Addr × Addr), fcs.length = (l :: r).length → b D (ρ.set i (some (.raw ((List.range' μ.length (l :: r).length).map .inl)))) (μ ++ fnCells (l :: r) fcs)) : dBlk i k0 T q b l r D ρ μ := by
  rw [List.length_cons] at hl
  refine ⟨hi, hk, fun f c => ⟨[.inl μ.length], rfl, by rw [List.length_singleton]; omega, ?_⟩⟩
  refine apps_ok r _ _ (by rw [List.getElem?_append_left (List.getElem?_eq_some_iff.mp hk).1]; exact hk) (by rw [List.length_singleton]; omega) fun fcs hf => ?_
  have := h ((f, c) :: fcs) (by rw [List.length_cons, List.length_cons, hf])
  rw [List.length_cons, List.range'_succ, List.map_cons] at this
  rw [List.append_assoc, List.length_append, List.length_singleton]
  exact this
theorem fn_at {vs : List V} {ds : List PyData} : ∀ {ls : List (Addr → LamI)} {fcs : List (Addr × Addr)} {μ : Mu} {j : Nat} {l : Addr → LamI}, fcs.length = ls.length → ls[j]? = some l → ∃ f c, (upM vs ds (μ ++ fnCells ls fcs))[μ.length + j]? = some (.tab f (tabF (l c) f vs ds))
  | [], _, _, _, _, _, h => by simp at h
  | l0 :: ls, [], _, _, _, e, _ => by simp at e
  | l0 :: ls, fc :: fcs, μ, 0, l, _, h => by
    simp at h
    subst h
    refine ⟨fc.1, fc.2, ?_⟩
    simp [upM, fnCells, upC, tabF]
  | l0 :: ls, fc :: fcs, μ, j + 1, l, e, h => by
    obtain ⟨f, c, q⟩ := fn_at (vs := vs) (ds := ds) (ls := ls) (fcs := fcs) (μ := μ ++ [.tab fc.1 (tabF (l0 fc.2) fc.1 [] [])]) (j := j) (l := l) (by simpa using e) (by simpa using h)
    refine ⟨f, c, ?_⟩
    rw [List.append_assoc, List.length_append, List.length_singleton] at q
    rw [show μ.length + (j + 1) = μ.length + 1 + j by omega]
    exact q
theorem all_blk {told : OutI → List PyData → Prop} {Ss : List LamT} {ls : List (Addr → LamI)} {fcs : List (Addr × Addr)} {vs : List V} {ds due : List PyData} {μ : Mu} {Q : DQ} (hl : Ss.map LamT.li = ls) (hf : fcs.length = ls.length)
    (h : ∀ S ∈ Ss, ∃ o, told o due ∧ ∀ ν, OutI.of (fvOf S.N (S.sel.map (ds[·]?)) S.de) ν o) (sh : SeqAt.shaped (.list due) = true) (ev : PyData.eqv (.list due) (.list due) = true) (q : Q (.dat (.bool true)) (upM vs ds (μ ++ fnCells ls fcs))) :
    allF told (ThC Ss vs ds) [.raw ((List.range' μ.length ls.length).map .inl), .dat (.list due)] (upM vs ds (μ ++ fnCells ls fcs)) Q := by
  refine ⟨_, .dat (.list due), due, rfl, rfl, rfl, sh, ev, fun k hk => ?_, q⟩
  obtain ⟨h1, h2⟩ := List.mem_range'_1.mp hk
  obtain ⟨j, rfl⟩ := Nat.exists_eq_add_of_le h1
  have hj : j < ls.length := by omega
  have hj2 : j < Ss.length := by rw [← hl, List.length_map] at hj; exact hj
  have e : ls[j]? = some Ss[j].li := by
    rw [← hl, List.getElem?_map, List.getElem?_eq_getElem hj2]
    rfl
  obtain ⟨f, c, a⟩ := fn_at (vs := vs) (ds := ds) (μ := μ) hf e
  obtain ⟨o, h3, h4⟩ := h Ss[j] (List.getElem_mem hj2)
  exact ⟨f, _, _, o, a, ⟨Ss[j], List.getElem_mem hj2, c, rfl, rfl⟩, fun ν => h4 _, h3⟩
def noFn : Cell → Bool
  | .tab _ (.fn ..) => false
  | _ => true
theorem upM_id {vs : List V} {ds : List PyData} {μ : Mu} (h : ∀ c ∈ μ, noFn c = true) : upM vs ds μ = μ := by
  unfold upM
  conv => rhs; rw [← List.map_id μ]
  refine List.map_congr_left fun c hc => ?_
  have := h c hc
  cases c with
  | tab P q => cases q <;> first | rfl | cases this
  | _ => rfl
theorem upM_up {vs us : List V} {ds es : List PyData} {μ : Mu} : upM us es (upM vs ds μ) = upM us es μ := by
  unfold upM
  rw [List.map_map]
  refine List.map_congr_left fun c _ => ?_
  cases c with
  | tab P q => cases q <;> rfl
  | _ => rfl
theorem upM_take {vs : List V} {ds : List PyData} {μ ν : Mu} : (upM vs ds (μ ++ ν)).take μ.length = upM vs ds μ := by
  unfold upM
  rw [List.map_append, List.take_append_of_le_length (by rw [List.length_map]; exact Nat.le_refl _)]
  exact List.take_of_length_le (by rw [List.length_map]; exact Nat.le_refl _)
end DL
namespace DL
open PySem PySem.Spec PyProof.Rows L2 Evl LamX NdefX
inductive Oc where
  | exc (C : Addr) (n : Str) (d : PyData)
  | ret (d : PyData)
  | no
def Oc.m : Oc → Mu → DQ → RQF → Prop
  | .exc C n d, μ, _, R => R C n (.dat d) μ
  | .ret d, μ, Q, _ => Q (.dat d) μ
  | .no, _, _, _ => False
def Oc.bd (o : Oc) (k : PyData → Oc) : Oc := match o with
  | .exc C n d => .exc C n d
  | .ret d => k d
  | .no => .no
abbrev Oc.sq (o k : Oc) : Oc := o.bd fun _ => k
def phO (f : List PyData → Oc) : DFE := fun ss μ Q R => ∃ ds, ss = ds.map Sl.dat ∧ (f ds).m μ Q R
section
variable {f : List PyData → Oc} {μ : Mu} {Q : DQ} {R : RQF} {a b c d : PyData} {n : Str} {C : Addr} {o : Oc} {k : PyData → Oc}
theorem map_dat_inj : ∀ {ds es : List PyData}, ds.map Sl.dat = es.map Sl.dat → ds = es
  | [], [], _ => rfl
  | [], _ :: _, h => by cases h
  | _ :: _, [], h => by cases h
  | d :: ds, e :: es, h => by
    rw [List.map_cons, List.map_cons] at h
    obtain ⟨h1, h2⟩ := List.cons.inj h
    cases h1
    rw [map_dat_inj h2]
theorem phO_eq (ds : List PyData) : phO f (ds.map Sl.dat) μ Q R = (f ds).m μ Q R := propext ⟨fun ⟨es, e, h⟩ => (map_dat_inj e) ▸ h, fun h => ⟨ds, rfl, h⟩⟩
@[simp ↓] theorem c_O1 : phO f [.dat a] μ Q R = (f [a]).m μ Q R := phO_eq [a]
@[simp ↓] theorem c_O2 : phO f [.dat a, .dat b] μ Q R = (f [a, b]).m μ Q R := phO_eq [a, b]
@[simp ↓] theorem c_O3 : phO f [.dat a, .dat b, .dat c] μ Q R = (f [a, b, c]).m μ Q R := phO_eq [a, b, c]
@[simp ↓] theorem c_O4 : phO f [.dat a, .dat b, .dat c, .dat d] μ Q R = (f [a, b, c, d]).m μ Q R := phO_eq [a, b, c, d]
@[simp] theorem m_exc : (Oc.exc C n d).m μ Q R = R C n (.dat d) μ := rfl
@[simp] theorem m_ret : (Oc.ret d).m μ Q R = Q (.dat d) μ := rfl
@[simp] theorem m_no : Oc.no.m μ Q R = False := rfl
@[simp] theorem bd_exc : (Oc.exc C n d).bd k = .exc C n d := rfl
@[simp] theorem bd_ret : (Oc.ret d).bd k = k d := rfl
@[simp] theorem bd_no : Oc.no.bd k = .no := rfl
@[simp ↓] theorem eo_dCallE {j : Nat} {φ : DFE} {as : DA} {R : RQ} {ρ : Rho} : dCallE j φ as R ρ μ Q = as ρ μ fun ss μ1 => ss.length = j ∧ φ ss μ1 Q (fun C f s μ2 => R C f s ρ μ2) := rfl
@[simp ↓] theorem eo_dRaise {fn : Str} {da : DA} {R : RQ} {D : DEnds} {ρ : Rho} : dRaise C fn da R D ρ μ = da ρ μ fun ss μ1 => ∃ s, ss = [s] ∧ R C fn s ρ μ1 := rfl
@[simp ↓] theorem eo_dRaise0 {R : RQ} {D : DEnds} {ρ : Rho} : dRaise0 C R D ρ μ = R C ("" : Str) (.dat .none) ρ μ := rfl
theorem puO {N : List Str} {j : Nat} {ds : DSX} (h : ∀ es μ Q' R', es.length = j → (f es).m μ Q' R' → ds (fun C f s _ μ' => finQ μ.length (R' C f) s μ') ⟨fun _ μ' => finQ μ.length Q' (.dat .none) μ', finQ μ.length Q', fun _ _ => False, fun _ _ => False⟩ (startD N (es.map Sl.dat)) μ) :
    PureE N j (phO f) ds := by
  intro ss μ Q R hl ⟨es, e, h'⟩
  subst e
  exact h es μ Q R (by simpa using hl) h'
theorem len1 {es : List PyData} (h : es.length = 1) : ∃ a, es = [a] := by
  match es, h with
  | [a], _ => exact ⟨a, rfl⟩
theorem len2 {es : List PyData} (h : es.length = 2) : ∃ a b, es = [a, b] := by
  match es, h with
  | [a, b], _ => exact ⟨a, b, rfl⟩
end
section
variable {X : Cx} {XW : WX} {st : Stmt} {sts : List Stmt}
theorem pdsx_nev : PDSsX X XW sts (fun _ => dNever) := pdsx_of pds_never
end
def oChk (B : PyData → Bool) (C : Addr) : List PyData → Oc
  | [d] => if B d = true then .ret .none else .exc C ("value" : Str) d
  | _ => .no
def oBoth (f : List PyData → Oc) : List PyData → Oc
  | [a, b] => (f [a]).bd fun _ => (f [b]).bd fun _ => .ret .none
  | _ => .no
def oStop (f : List PyData → Oc) : List PyData → Oc := fun es => (f es).bd fun _ => .no
section
variable {φ : DF} {B : PyData → Bool} {C : Addr} {x y : Str} {f : List PyData → Oc} {N : List Str}
def dsChk (φ : DF) (C : Addr) : DSX := fun R => dIfS (dNot (dTru (dCall 1 φ (aCons (dVar 0) aNil)))) (dRaise C (PySem.Str.ofString "value") (aCons (dVar 0) aNil) R) dNext
theorem puE_chk (h : ∀ d μ Q, Q (.dat (.bool (B d))) μ → φ [.dat d] μ Q) : PureE [x] 1 (phO (oChk B C)) (dsChk φ C) := puO fun es μ Q' R' hl hm => by
  obtain ⟨d, rfl⟩ := len1 hl
  refine ⟨rfl, h d μ _ ?_⟩
  have e0 : ∀ Q : DQ, finQ μ.length Q (.dat d) μ = Q (.dat d) μ := fun Q => by rw [e_finD, List.take_length]
  have e1 : ∀ Q : DQ, finQ μ.length Q (.dat .none) μ = Q (.dat .none) μ := fun Q => by rw [e_finD, List.take_length]
  cases c : B d with
  | true =>
    simp only [oChk, c, if_true, m_ret] at hm
    refine ⟨trivial, ?_⟩
    show finQ μ.length Q' (.dat .none) μ
    rw [e1]
    exact hm
  | false =>
    simp only [oChk, c, Bool.false_eq_true, if_false, m_exc] at hm
    refine ⟨trivial, _, rfl, ?_⟩
    show finQ μ.length (R' C _) (.dat d) μ
    rw [e0]
    exact hm
def dsBoth (f : List PyData → Oc) : DSX := fun R => dSeq (dDrop (dCallE 1 (phO f) (aCons (dVar 0) aNil) R)) (dDrop (dCallE 1 (phO f) (aCons (dVar 1) aNil) R))
theorem puE_both (hx : [x, y].length = 2 := by rfl) : PureE [x, y] 2 (phO (oBoth f)) (dsBoth f) := puO fun es μ Q' R' hl hm => by
  obtain ⟨a, b, rfl⟩ := len2 hl
  have e0 : ∀ (Q : DQ) d, finQ μ.length Q (.dat d) μ = Q (.dat d) μ := fun Q d => by rw [e_finD, List.take_length]
  refine ⟨rfl, [a], rfl, ?_⟩
  cases e : f [a] with
  | exc C n d =>
    simp only [oBoth, e, bd_exc, m_exc] at hm
    show finQ μ.length (R' C n) (.dat d) μ
    rw [e0]
    exact hm
  | no => simp only [oBoth, e, bd_no, m_no] at hm
  | ret d =>
    simp only [oBoth, e, bd_ret] at hm
    refine ⟨rfl, [b], rfl, ?_⟩
    cases e2 : f [b] with
    | exc C n d =>
      simp only [e2, bd_exc, m_exc] at hm
      show finQ μ.length (R' C n) (.dat d) μ
      rw [e0]
      exact hm
    | no => simp only [e2, bd_no, m_no] at hm
    | ret d =>
      simp only [e2, bd_ret, m_ret] at hm
      show finQ μ.length Q' (.dat .none) μ
      rw [e0]
      exact hm
def dsStop (j : Nat) (f : List PyData → Oc) (a : DA) : DSX := fun R => dSeq (dDrop (dCallE j (phO f) a R)) dNever
theorem puE_stop {j n : Nat} {a : DA} (ha : ∀ es, es.length = n → ∃ es', es'.length = j ∧ f es = f es' ∧ ∀ μ (Q : List Sl → Mu → Prop), Q (es'.map Sl.dat) μ → a (startD N (es.map Sl.dat)) μ Q) : PureE N n (phO (oStop f)) (dsStop j f a) := puO fun es μ Q' R' hl hm => by
  obtain ⟨es', h1, h2, h3⟩ := ha es hl
  have e0 : ∀ (Q : DQ) d, finQ μ.length Q (.dat d) μ = Q (.dat d) μ := fun Q d => by rw [e_finD, List.take_length]
  refine h3 _ _ ⟨by rw [List.length_map]; exact h1, es', rfl, ?_⟩
  rw [← h2]
  unfold oStop at hm
  cases e : f es with
  | exc C n d =>
    simp only [e, bd_exc, m_exc] at hm
    show finQ μ.length (R' C n) (.dat d) μ
    rw [e0]
    exact hm
  | no => simp only [e, bd_no, m_no] at hm
  | ret d => simp only [e, bd_ret, m_no] at hm
theorem puE_stop1 {N : List Str} : PureE N 1 (phO (oStop f)) (dsStop 1 f (aCons (dVar 0) aNil)) := puE_stop fun es hl => by
  obtain ⟨d, rfl⟩ := len1 hl
  exact ⟨[d], rfl, rfl, fun μ Q h => h⟩
theorem puE_stop2 {N : List Str} : PureE N 2 (phO (oStop f)) (dsStop 2 f (aCons (dVar 0) (aCons (dVar 1) aNil))) := puE_stop fun es hl => by
  obtain ⟨a, b, rfl⟩ := len2 hl
  exact ⟨[a, b], rfl, rfl, fun μ Q h => h⟩
end
section
variable {i k0 : Nat} {T : Addr} {q : Str} {l : Addr → LamI} {r : List (Addr → LamI)} {js : List Nat} {Ss : List LamT} {told : OutI → List PyData → Prop} {dt : DE} {D : DEnds} {ρ : Rho} {μ : Mu} {ds due : List PyData} {o : OutI} {Q : DQ}
def dJudge (i : Nat) (js : List Nat) (Ss : List LamT) (told : OutI → List PyData → Prop) (dt : DE) : DE := dCallT js Ss 2 (allF told) (aCons (dVar i) (aCons dt aNil))
def wipe1 (n i : Nat) (ρ : Rho) (es : List (Nat ⊕ PyData)) : Rho := cutR n (ρ.set i (some (.raw es)))
theorem judge_ok (hi : i < ρ.length) (hk : μ[k0]? = some (.tab T q)) (hl : (l :: r).length ≤ sizeLine) (hS : Ss.map LamT.li = l :: r) (hμ : ∀ c ∈ μ, noFn c = true) (sh : SeqAt.shaped (.list due) = true) (ev : PyData.eqv (.list due) (.list due) = true)
    (hd : ∀ es ν (Q : DQ), Q (.dat (.list due)) ν → dt (ρ.set i (some (.raw es))) ν Q) (hj : ∀ es, js.map (fun j => (ρ.set i (some (.raw es)))[j]?) = ds.map (fun d => some (some (Sl.dat d))))
    (h : ∀ S ∈ Ss, ∃ o, told o due ∧ ∀ ν, OutI.of (fvOf S.N (S.sel.map (ds[·]?)) S.de) ν o) (fcs : List (Addr × Addr)) (hf : fcs.length = (l :: r).length)
    (qq : Q (.dat (.bool true)) (upM [] [] (μ ++ fnCells (l :: r) fcs))) : dJudge i js Ss told dt (ρ.set i (some (.raw ((List.range' μ.length (l :: r).length).map .inl)))) (μ ++ fnCells (l :: r) fcs) Q := by
  have at_ : ∀ es, (ρ.set i (some (Sl.raw es)))[i]? = some (some (.raw es)) := fun es => List.getElem?_set_self hi
  simp only [dJudge, dCallT, e_aCons, e_dVar, at_]
  refine hd _ _ _ ⟨rfl, ds, hj _, fun vs => ?_⟩
  refine all_blk hS (by rw [hf]) h sh ev ?_
  show Q (.dat (.bool true)) (upM [] [] (upM vs ds _))
  rw [upM_up]
  exact qq
theorem blk_step (hi : i < ρ.length) (hk : μ[k0]? = some (.tab T q)) (hl : (l :: r).length ≤ sizeLine) (hS : Ss.map LamT.li = l :: r) (hμ : ∀ c ∈ μ, noFn c = true) (sh : SeqAt.shaped (.list due) = true) (ev : PyData.eqv (.list due) (.list due) = true)
    (hd : ∀ es ν (Q : DQ), Q (.dat (.list due)) ν → dt (ρ.set i (some (.raw es))) ν Q) (hj : ∀ es, js.map (fun j => (ρ.set i (some (.raw es)))[j]?) = ds.map (fun d => some (some (Sl.dat d))))
    (h : ∀ S ∈ Ss, ∃ o, told o due ∧ ∀ ν, OutI.of (fvOf S.N (S.sel.map (ds[·]?)) S.de) ν o)
    (k : ∀ es, D.nx (wipe1 μ.length i ρ es) μ) : dCut (dBlk i k0 T q (dIfS (dNot (dTru (dJudge i js Ss told dt))) (dRet (dC (.bool false))) dNext) l r) D ρ μ := by
  refine blk_ok hi hk hl fun fcs hf => ?_
  simp only [e_dIfS, e_dNot, e_dTru]
  refine judge_ok (ds := ds) hi hk hl hS hμ sh ev hd hj h fcs hf ⟨trivial, ?_⟩
  show D.nx (cutR μ.length (ρ.set i _)) ((upM [] [] (μ ++ fnCells (l :: r) fcs)).take μ.length)
  rw [upM_take, upM_id hμ]
  exact k _
theorem blk_ret (hi : i < ρ.length) (hk : μ[k0]? = some (.tab T q)) (hl : (l :: r).length ≤ sizeLine) (hS : Ss.map LamT.li = l :: r) (hμ : ∀ c ∈ μ, noFn c = true) (sh : SeqAt.shaped (.list due) = true) (ev : PyData.eqv (.list due) (.list due) = true)
    (hd : ∀ es ν (Q : DQ), Q (.dat (.list due)) ν → dt (ρ.set i (some (.raw es))) ν Q) (hj : ∀ es, js.map (fun j => (ρ.set i (some (.raw es)))[j]?) = ds.map (fun d => some (some (Sl.dat d))))
    (h : ∀ S ∈ Ss, ∃ o, told o due ∧ ∀ ν, OutI.of (fvOf S.N (S.sel.map (ds[·]?)) S.de) ν o)
    (k : ∀ fcs, D.rt (.dat (.bool true)) (upM [] [] (μ ++ fnCells (l :: r) fcs))) : dBlk i k0 T q (dRet (dJudge i js Ss told dt)) l r D ρ μ := by
  refine blk_ok hi hk hl fun fcs hf => ?_
  exact judge_ok (Q := fun s μ2 => D.rt s μ2) (ds := ds) hi hk hl hS hμ sh ev hd hj h fcs hf (k fcs)
theorem fin_blk {Q' : DQ} {fcs : List (Addr × Addr)} {ls : List (Addr → LamI)} {d : PyData} (hμ : ∀ c ∈ μ, noFn c = true) (h : Q' (.dat d) μ) : finQ μ.length Q' (.dat d) (upM [] [] (μ ++ fnCells ls fcs)) := by
  rw [e_finD, upM_take, upM_id hμ]
  exact h
theorem for_inv {C : Mu → Prop} {g : DG} {b : DS} (hC : C μ) (I : Rho → Prop) : ∀ (ss : List Sl) (ρ : Rho), I ρ → (∀ s ∈ ss, ∀ ρ, I ρ → ∀ N : Rho → Mu → Prop, (∀ ρ', I ρ' → N ρ' μ) → g s ρ μ fun ρ1 μ1 => b { D with nx := N, ct := N, bk := D.nx } ρ1 μ1) → (∀ ρ', I ρ' → D.nx ρ' μ) → forD C g b D ss ρ μ
  | [], ρ, hI, _, k => ⟨hC, k ρ hI⟩
  | s :: ss, ρ, hI, hs, k => ⟨hC, hs s List.mem_cons_self ρ hI _ fun ρ' h' => for_inv hC I ss ρ' h' (fun s' m => hs s' (List.mem_cons_of_mem _ m)) k⟩
end
class Cls where
  InvalidInteger : Addr := 0
  InvalidRatio : Addr := 0
  InvalidPlace : Addr := 0
  InvalidWeb : Addr := 0
  InvalidWishes : Addr := 0
  InvalidPairs : Addr := 0
  InvalidCut : Addr := 0
  InvalidPlan : Addr := 0
  InvalidLengths : Addr := 0
  InvalidText : Addr := 0
  InvalidMany : Addr := 0
  InvalidPosition : Addr := 0
  BadText : Addr := 0
  InvalidCircuit : Addr := 0
  InvalidCommand : Addr := 0
  InvalidCuts : Addr := 0
  InvalidDeeds : Addr := 0
  InvalidFlat : Addr := 0
  InvalidFlow : Addr := 0
  InvalidLot : Addr := 0
  InvalidMarks : Addr := 0
  InvalidOrder : Addr := 0
  InvalidPacking : Addr := 0
  InvalidPaper : Addr := 0
  InvalidPlaces : Addr := 0
  InvalidPoint : Addr := 0
  InvalidPoints : Addr := 0
  InvalidPrices : Addr := 0
  InvalidRatios : Addr := 0
  InvalidRecord : Addr := 0
  InvalidRow : Addr := 0
  InvalidRows : Addr := 0
  InvalidSharing : Addr := 0
  InvalidSide : Addr := 0
  InvalidStep : Addr := 0
  InvalidSurplus : Addr := 0
  InvalidTable : Addr := 0
  InvalidTies : Addr := 0
  InvalidTolls : Addr := 0
  InvalidTree : Addr := 0
  InvalidTurning : Addr := 0
  InvalidWay : Addr := 0
  InvalidWish : Addr := 0
  NoTie : Addr := 0
  UnknownLabel : Addr := 0
  UnknownName : Addr := 0
  CommandFailed : Addr := 0
  GoodPairs : Addr := 0
  LabelTaken : Addr := 0
  NameTaken : Addr := 0
  NoHubs : Addr := 0
  NoPoint : Addr := 0
  NoQuotient : Addr := 0
  NoWish : Addr := 0
  NotGood : Addr := 0
  NotInner : Addr := 0
  NotInnerEven : Addr := 0
  NotTied : Addr := 0
  NotTwo : Addr := 0
  NothingToRedo : Addr := 0
  NothingToUndo : Addr := 0
  OddPlace : Addr := 0
  UnlikeLengths : Addr := 0
  TooMany : Addr := 0
end DL
namespace WL
open PySem PySem.Spec PyProof.Rows L2 Evl DL
open PySem.W (dataLt dataLe alike alikeAll AllAlike Sortable)
end WL
namespace WL
open PySem PySem.Spec PyProof.Rows L2 Evl DL
open PySem.W (dataLt dataLe alike alikeAll AllAlike Sortable)
end WL
namespace WL
open PySem PySem.Spec PyProof.Rows L2 Evl DL
open PySem.W (dataLt dataLe alike alikeAll AllAlike Sortable)
theorem perm_sorted_eq {α : Type} {le : α → α → Prop} (anti : ∀ a b, le a b → le b a → a = b) : ∀ {l m : List α}, l.Perm m → l.Pairwise le → m.Pairwise le → l = m
  | [], m, h, _, _ => (List.Perm.eq_nil h.symm).symm
  | x :: l, [], h, _, _ => absurd h.length_eq (by simp)
  | x :: l, y :: m, h, hl, hm => by
    have a1 : y ∈ x :: l := h.mem_iff.mpr (List.mem_cons_self ..)
    have a2 : x ∈ y :: m := h.mem_iff.mp (List.mem_cons_self ..)
    have e : x = y := by
      rcases List.mem_cons.mp a1 with e | e
      · exact e.symm
      · rcases List.mem_cons.mp a2 with e' | e'
        · exact e'
        · exact anti x y ((List.pairwise_cons.mp hl).1 y e) ((List.pairwise_cons.mp hm).1 x e')
    subst e
    rw [perm_sorted_eq anti h.cons_inv (List.pairwise_cons.mp hl).2 (List.pairwise_cons.mp hm).2]
def leL (a b : List Int) : Bool := !ltL b a
theorem leL_iff {a b : List Int} : leL a b = true ↔ a ≤ b := by
  unfold leL ltL
  rw [Bool.not_eq_true', decide_eq_false_iff_not]
  exact Iff.rfl
theorem leL_tr (a b c : List Int) (h : leL a b = true) (g : leL b c = true) : leL a c = true := leL_iff.mpr (List.le_trans (leL_iff.mp h) (leL_iff.mp g))
theorem leL_anti (a b : List Int) (h : leL a b = true) (g : leL b a = true) : a = b := List.le_antisymm (leL_iff.mp h) (leL_iff.mp g)
theorem insL_perm (x : List Int) : ∀ l : List (List Int), (insL x l).Perm (x :: l)
  | [] => List.Perm.refl _
  | y :: r => by
    unfold insL
    split
    · exact ((insL_perm x r).cons y).trans (List.Perm.swap x y r)
    · exact List.Perm.refl _
theorem sortL_perm : ∀ l : List (List Int), (sortL l).Perm l
  | [] => List.Perm.refl _
  | x :: r => (insL_perm x (sortL r)).trans ((sortL_perm r).cons x)
theorem insL_sorted {x : List Int} : ∀ {l : List (List Int)}, l.Pairwise (fun a b => leL a b = true) → (insL x l).Pairwise fun a b => leL a b = true
  | [], _ => List.pairwise_singleton _ _
  | y :: r, h => by
    obtain ⟨h1, h2⟩ := List.pairwise_cons.mp h
    unfold insL
    split
    · rename_i c
      have yx : leL y x = true := by
        rw [leL_iff]
        exact List.le_of_lt (of_decide_eq_true c)
      refine List.pairwise_cons.mpr ⟨fun z hz => ?_, insL_sorted h2⟩
      rcases List.mem_cons.mp ((insL_perm x r).mem_iff.mp hz) with rfl | hz
      · exact yx
      · exact h1 z hz
    · rename_i c
      have xy : leL x y = true := by
        unfold leL
        rw [Bool.not_eq_true']
        exact Bool.eq_false_iff.mpr c
      refine List.pairwise_cons.mpr ⟨fun z hz => ?_, h⟩
      rcases List.mem_cons.mp hz with rfl | hz
      · exact xy
      · exact leL_tr _ _ _ xy (h1 z hz)
theorem sortL_sorted : ∀ l : List (List Int), (sortL l).Pairwise fun a b => leL a b = true
  | [] => .nil
  | x :: r => insL_sorted (sortL_sorted r)
theorem lots_len : ∀ k, (lots k).length = 2 ^ k
  | 0 => rfl
  | k + 1 => by
    show (lots k ++ (lots k).map _).length = _
    rw [List.length_append, List.length_map, lots_len k, Nat.pow_succ]
    omega
theorem mem_lots : ∀ (k : Nat) (c : List Int), c ∈ lots k ↔ c.Pairwise (· < ·) ∧ ∀ p ∈ c, 1 ≤ p ∧ p ≤ (k : Int)
  | 0, c => by
    constructor
    · intro h
      rw [List.mem_singleton.mp h]
      exact ⟨.nil, fun p hp => by cases hp⟩
    · rintro ⟨_, h⟩
      cases c with
      | nil => exact List.mem_singleton.mpr rfl
      | cons p r => have := h p (List.mem_cons_self ..); omega
  | k + 1, c => by
    show c ∈ lots k ++ (lots k).map _ ↔ _
    rw [List.mem_append, List.mem_map]
    constructor
    · rintro (h | ⟨d, h, rfl⟩)
      · obtain ⟨h1, h2⟩ := (mem_lots k c).mp h
        exact ⟨h1, fun p hp => by have := h2 p hp; omega⟩
      · obtain ⟨h1, h2⟩ := (mem_lots k d).mp h
        refine ⟨List.pairwise_append.mpr ⟨h1, List.pairwise_singleton _ _, fun a ha b hb => ?_⟩, fun p hp => ?_⟩
        · rw [List.mem_singleton.mp hb]
          have := h2 a ha
          omega
        · rcases List.mem_append.mp hp with hp | hp
          · have := h2 p hp
            omega
          · rw [List.mem_singleton.mp hp]
            omega
    · rintro ⟨h1, h2⟩
      by_cases hk : ((k + 1 : Nat) : Int) ∈ c
      · right
        rcases List.eq_nil_or_concat c with rfl | ⟨d, x, rfl⟩
        · cases hk
        · rw [List.concat_eq_append] at *
          obtain ⟨q1, _, q3⟩ := List.pairwise_append.mp h1
          have hx : x = ((k + 1 : Nat) : Int) := by
            rcases List.mem_append.mp hk with hk | hk
            · have a1 := q3 _ hk x (List.mem_singleton.mpr rfl)
              have a2 := h2 x (List.mem_append.mpr (.inr (List.mem_singleton.mpr rfl)))
              omega
            · exact (List.mem_singleton.mp hk).symm
          subst hx
          refine ⟨d, (mem_lots k d).mpr ⟨q1, fun p hp => ?_⟩, rfl⟩
          have a1 := q3 p hp _ (List.mem_singleton.mpr rfl)
          have a2 := h2 p (List.mem_append.mpr (.inl hp))
          omega
      · left
        refine (mem_lots k c).mpr ⟨h1, fun p hp => ?_⟩
        have a2 := h2 p hp
        have : p ≠ ((k + 1 : Nat) : Int) := fun z => hk (z ▸ hp)
        omega
theorem mem_cutsL {n : Nat} (hn : 1 ≤ n) {c : List Int} : c ∈ cutsL n ↔ Cut n c := by
  unfold cutsL Cut
  rw [(sortL_perm _).mem_iff, List.mem_filter, mem_lots]
  have e : ∀ p : Int, (1 ≤ p ∧ p ≤ ((n - 1 : Nat) : Int)) ↔ (1 ≤ p ∧ p < (n : Int)) := fun p => by omega
  simp only [e, and_assoc]
  cases c <;> simp
end WL
namespace WL
open PySem PySem.Spec PyProof.Rows L2 Evl DL
def kv (i : Int) : Key × PyData := (.inl i, .bool true)
def farI (t : T3) (p : Int) : Option Int := if t.1 = p then some t.2.1 else if t.2.1 = p then some t.1 else none
section
variable {μ : Mu} {a : List Int × List Int}
end
structure Inv1 (ts : List T3) (st : Int) (a : List Int × List Int) : Prop where
  nd : a.1.Nodup
  rg : ∀ q ∈ a.1, 0 ≤ q ∧ q < 8
  re : ∀ q ∈ a.1, Reach ts st q
  st_ : st ∈ a.1
  sub : ∀ q ∈ a.2, q ∈ a.1
  nd2 : a.2.Nodup
theorem nodup_len : ∀ (m : Nat) (l : List Int) (lo : Int), l.Nodup → (∀ q ∈ l, lo ≤ q ∧ q < lo + (m : Int)) → l.length ≤ m := by
  intro m
  induction m with
  | zero =>
    intro l lo _ h
    cases l with
    | nil => exact Nat.le_refl _
    | cons p r => have := h p (List.mem_cons_self ..); omega
  | succ m ih =>
    intro l lo hn h
    by_cases hm : lo ∈ l
    · have h1 := ih (l.erase lo) (lo + 1) (hn.erase lo) fun q hq => by
        have hq' := (List.Nodup.mem_erase_iff hn).mp hq
        have := h q hq'.2
        have : q ≠ lo := hq'.1
        omega
      have := List.length_erase_of_mem hm
      omega
    · have := ih l (lo + 1) hn fun q hq => by
        have := h q hq
        have : q ≠ lo := fun z => hm (z ▸ hq)
        omega
      omega
theorem Inv1.len {ts : List T3} {st : Int} {a : List Int × List Int} (h : Inv1 ts st a) : a.1.length ≤ 8 := nodup_len 8 a.1 0 h.nd fun q hq => by have := h.rg q hq; omega
theorem Inv1.len2 {ts : List T3} {st : Int} {a : List Int × List Int} (h : Inv1 ts st a) : a.2.length ≤ 8 := nodup_len 8 a.2 0 h.nd2 fun q hq => by have := h.rg q (h.sub q hq); omega
end WL
namespace WL
open PySem PySem.Spec PyProof.Rows L2 Evl DL
theorem lt_nodup {ns : List Int} (h : ns.Pairwise (· < ·)) : ns.Nodup := h.imp fun h => by omega
theorem WebOk.small {many : Int} {ts : List T3} (h : WebOk many ts) : Small ts := ⟨by have := h.rows.most; omega, fun t ht => by
  have := h.rows.in_ t ht
  have := h.hi
  omega⟩
end WL
namespace WL
open PySem PySem.Spec PyProof.Rows L2 Evl DL
def Sm (k : Nat) (x : Int) : Prop := x.natAbs < 2 ^ k
instance (k : Nat) (x : Int) : Decidable (Sm k x) := inferInstanceAs (Decidable (_ < _))
instance (i j : Int) : Decidable (CPow i j) := inferInstanceAs (Decidable (_ ∧ _))
theorem Sm.mono {j k : Nat} {x : Int} (h : Sm j x) (hk : j ≤ k) : Sm k x := Nat.lt_of_lt_of_le h (Nat.pow_le_pow_right (by decide) hk)
theorem Sm.cmul {j k : Nat} {x y : Int} (h : Sm j x) (g : Sm k y) (hj : j ≤ 100000) (hk : k ≤ 100000) : CMulW x y := wide_mul (h.mono hj) (g.mono hk) (by decide) (by decide) (by decide)
theorem Sm.cdv {k : Nat} {i j : Int} (h : Sm k j) (hk : k ≤ 9000) (h0 : j ≠ 0) : CDv i j := ⟨h0, (Nat.log2_lt (Int.natAbs_ne_zero.mpr h0)).mpr (h.mono hk)⟩
theorem sm_of {k : Nat} {x : Int} (h0 : 0 ≤ x) (h : x < 2 ^ k) : Sm k x := by
  unfold Sm
  have : (x.natAbs : Int) < ((2 ^ k : Nat) : Int) := by
    rw [Int.natAbs_of_nonneg h0]
    simpa using h
  exact Int.ofNat_lt.mp this
theorem fmod_lt {a b : Int} (h : 0 < b) : 0 ≤ a.fmod b ∧ a.fmod b < b := ⟨Int.fmod_nonneg_of_pos a h, Int.fmod_lt_of_pos a h⟩
theorem cp18 : CPow 10 18 := by decide
theorem Ch.refl {k : Nat} {μ : Mu} (h : Pot μ k) : Ch k μ μ := ⟨h, rfl, fun _ _ => rfl⟩
theorem Ch.trans {k : Nat} {μ μ1 μ2 : Mu} (h : Ch k μ μ1) (g : Ch k μ1 μ2) : Ch k μ μ2 := ⟨g.1, g.2.1.trans h.2.1, fun j hj => (g.2.2 j hj).trans (h.2.2 j hj)⟩
theorem Pot.lt {k : Nat} {μ : Mu} (h : Pot μ k) : k < μ.length := by
  obtain ⟨_, _, e, _⟩ := h
  exact (List.getElem?_eq_some_iff.mp e).1
theorem Ch.take {k : Nat} {μ μ' : Mu} (h : Ch k μ μ') : List.take μ.length μ' = μ' := List.take_of_length_le (by rw [h.2.1]; exact Nat.le_refl _)
theorem ch_set {k : Nat} {μ : Mu} {p0 p1 : Int} (hk : k < μ.length) (h0 : 0 ≤ p0) (h1 : 0 ≤ p1) (h2 : p1 < 2 ^ 40) : Ch k μ (μ.set k (.lst [.int p0, .int p1])) :=
  ⟨⟨_, _, List.getElem?_set_self hk, h0, h1, h2⟩, List.length_set .., fun j hj => List.getElem?_set_ne (Ne.symm hj)⟩
theorem o_finC {n k : Nat} {μ : Mu} {Q : DQ} {ds : List PyData} (h : μ[k]? = some (.lst ds)) : finQ n Q (.cell k) μ = if k < n then Q (.cell k) (μ.take n) else (Q (.dat (.list ds)) (μ.take n) ∨ Q (.cell n) (μ.take n ++ [.lst ds])) := by
  simp only [finQ, h]
structure PotC (a b m1 c1 c2 c3 m2 : Int) : Prop where
  a : Sm 40 a
  m1 : 0 < m1 ∧ m1 < 2 ^ 40
  c1 : Sm 40 c1
  c2 : Sm 40 c2
  m2 : 0 < m2 ∧ m2 < 2 ^ 39
instance (a b m1 c1 c2 c3 m2 : Int) : Decidable (PotC a b m1 c1 c2 c3 m2) := decidable_of_iff (Sm 40 a ∧ (0 < m1 ∧ m1 < 2 ^ 40) ∧ Sm 40 c1 ∧ Sm 40 c2 ∧ (0 < m2 ∧ m2 < 2 ^ 39)) ⟨fun ⟨h1, h2, h3, h4, h5⟩ => ⟨h1, h2, h3, h4, h5⟩, fun h => ⟨h.a, h.m1, h.c1, h.c2, h.m2⟩⟩
structure DrawC (c1 c2 m1 m2 d : Int) : Prop where
  c1 : Sm 40 c1
  m1 : 0 < m1 ∧ m1 < 2 ^ 40
  m2 : m2 ≠ 0
  d : d ≠ 0 ∧ Sm 40 d
instance (c1 c2 m1 m2 d : Int) : Decidable (DrawC c1 c2 m1 m2 d) := decidable_of_iff (Sm 40 c1 ∧ (0 < m1 ∧ m1 < 2 ^ 40) ∧ m2 ≠ 0 ∧ (d ≠ 0 ∧ Sm 40 d)) ⟨fun ⟨h1, h2, h3, h4⟩ => ⟨h1, h2, h3, h4⟩, fun h => ⟨h.c1, h.m1, h.m2, h.d⟩⟩
def dDraw (c1 c2 m1 m2 d : Int) : DS := (dSeq (dIfS (dTest (dOp wGt (dOp rIx (dVar 0) (dC (.int 0))) (dC (.int 0)))) (dSeq (dAsgG (dCB fDm (aCons (dOp rIx (dVar 0) (dC (.int 0))) (aCons (dVar 1) aNil))) (gT 2 (gsCons (gS (dVar 0) (dC (.int 0))) (gsCons (gN 2) gsNil))))
    (dRet (dVar 2))) dNext)
    (dSeq (dAsgG (dOp rMd (dCB fInt (aCons (dOp rAdd (dOp rMul (dOp rIx (dVar 0) (dC (.int 1))) (dC (.int c1))) (dC (.int c2))) aNil)) (dC (.int m1))) (gS (dVar 0) (dC (.int 1))))
    (dRet (dOp rMd (dCB fInt (aCons (dOp rDv (dOp rMd (dCB fInt (aCons (dOp rMul (dOp rIx (dVar 0) (dC (.int 1))) (dOp rIx (dVar 0) (dC (.int 1)))) aNil)) (dC (.int m2))) (dC (.int d))) aNil)) (dVar 1)))))
theorem draw_gen {x y : Str} {c1 c2 m1 m2 d : Int} (hC : DrawC c1 c2 m1 m2 d) : Pure ["pot", x, y] 2 ph_law_draw (dDraw c1 c2 m1 m2 d) := by
  intro ss μ Q' hl h
  obtain ⟨k, n, rfl, ⟨p0, p1, hm, h0, h1, h2⟩, hn, h⟩ := h
  have hk : k < μ.length := (List.getElem?_eq_some_iff.mp hm).1
  have hn0 : n ≠ 0 := by omega
  have i0 : ∀ Q, DL.rIx (.cell k) (.dat (.int 0)) μ Q = Q (.dat (.int p0)) μ := fun Q => rix_c hm rfl
  have i1 : ∀ Q, DL.rIx (.cell k) (.dat (.int 1)) μ Q = Q (.dat (.int p1)) μ := fun Q => rix_c hm rfl
  by_cases c : 0 < p0
  · have cd : CDm p0 n := ⟨hn.1, (Nat.log2_lt (by omega)).mpr ((sm_of (k := 100) (by omega) hn.2).mono (k := 9000) (by decide))⟩
    have w0 : ∀ R, wrL (.cell k) (.dat (.int 0)) (.dat (.int (p0 / n))) μ R = R (μ.set k (.lst [.int (p0 / n), .int p1])) := fun R => wrl_c (m := 0) hm rfl
    have dm : ∀ (ν : Mu) (Q : DQ), fDm [.dat (.int p0), .dat (.int n)] ν Q = (CDm p0 n ∧ Q (.dat (.tuple [.int (p0 / n), .int (p0 % n)])) ν) := fun _ _ => rfl
    simp [dDraw, startD, i0, c, cd, w0, dm]
    rw [List.take_of_length_le (by simp)]
    exact h _ _ (Int.emod_nonneg _ hn0) (Int.emod_lt_of_pos _ hn.1) (ch_set hk (Int.ediv_nonneg h0 (by omega)) h1 h2)
  · have f1 := fmod_lt (a := p1 * c1 + c2) hC.m1.1
    have z1 := hC.m1
    generalize hp : (p1 * c1 + c2).fmod m1 = y at f1
    have w1 : ∀ R, wrL (.cell k) (.dat (.int 1)) (.dat (.int y)) μ R = R (μ.set k (.lst [.int p0, .int y])) := fun R => wrl_c (m := 1) hm rfl
    have hm2 : (μ.set k (.lst [.int p0, .int y]))[k]? = some (.lst [.int p0, .int y]) := List.getElem?_set_self hk
    have i2 : ∀ Q, DL.rIx (.cell k) (.dat (.int 1)) (μ.set k (.lst [.int p0, .int y])) Q = Q (.dat (.int y)) (μ.set k (.lst [.int p0, .int y])) := fun Q => rix_c hm2 rfl
    have c1' : CMulW p1 c1 := (sm_of h1 h2).cmul hC.c1 (by decide) (by decide)
    have sy : Sm 40 y := sm_of f1.1 (by omega)
    have c2' : CMulW y y := sy.cmul sy (by decide) (by decide)
    have c3' : ∀ i, CDv i d := fun i => hC.d.2.cdv (by decide) hC.d.1
    have m1' : m1 ≠ 0 := by omega
    simp [dDraw, startD, i0, i1, c, c1', hp, w1, i2, c2', c3', hn0, m1', hC.m2]
    rw [List.take_of_length_le (by simp)]
    have f3 := fmod_lt (a := ((y * y).fmod m2).fdiv d) hn.1
    exact h _ _ f3.1 f3.2 (ch_set hk h0 f1.1 (by omega))
end WL
namespace WL
open PySem PySem.Spec PyProof.Rows L2 Evl DL
open PySem.W (dataLt dataLe alike alikeAll AllAlike Sortable)
abbrev E3 := (Int × Int) × Int
def kt (e : E3) : List Key × PyData := ([.inl e.1.1, .inl e.1.2], .int e.2)
def putP (ps : List E3) (k : Int × Int) (r : Int) : List E3 := if k ∈ ps.map (·.1) then ps.map (fun e => if e.1 = k then (e.1, r) else e) else ps ++ [(k, r)]
theorem keys_put (ps : List E3) (k : Int × Int) (r : Int) : (putP ps k r).map (·.1) = if k ∈ ps.map (·.1) then ps.map (·.1) else ps.map (·.1) ++ [k] := by
  unfold putP
  split
  · rw [List.map_map]
    refine List.map_congr_left fun e _ => ?_
    show (if e.1 = k then (e.1, r) else e).1 = e.1
    split <;> rfl
  · rw [List.map_append]
    rfl
theorem mem_put {ps : List E3} {k : Int × Int} {r : Int} {e : E3} (h : e ∈ putP ps k r) : e ∈ ps ∨ e = (k, r) := by
  unfold putP at h
  split at h
  · obtain ⟨x, hx, rfl⟩ := List.mem_map.mp h
    split
    · rename_i q
      right
      rw [q]
    · exact .inl hx
  · rcases List.mem_append.mp h with h | h
    · exact .inl h
    · exact .inr (List.mem_singleton.mp h)
structure Tab (n room : Int) (i c : Nat) (ps : List E3) : Prop where
  nd : (ps.map (·.1)).Nodup
  rg : ∀ e ∈ ps, (0 ≤ e.1.1 ∧ e.1.1 < e.1.2 ∧ e.1.2 < n) ∧ (1 ≤ e.2 ∧ e.2 ≤ room)
  all : ∀ q : Int, 1 ≤ q → q ≤ (i : Int) → ∃ a, (a, q) ∈ ps.map (·.1)
  len : ps.length ≤ c
theorem Tab.put {n room : Int} {i c : Nat} {ps : List E3} (h : Tab n room i c ps) {a b r : Int} (ha : 0 ≤ a ∧ a < b ∧ b < n) (hr : 1 ≤ r ∧ r ≤ room) : Tab n room i (c + 1) (putP ps (a, b) r) ∧ (a, b) ∈ (putP ps (a, b) r).map (·.1) := by
  refine ⟨⟨?_, fun e he => ?_, fun q h1 h2 => ?_, ?_⟩, ?_⟩
  · rw [keys_put]
    split
    · exact h.nd
    · rename_i q
      refine List.nodup_append.mpr ⟨h.nd, List.nodup_cons.mpr ⟨by simp, List.nodup_nil⟩, fun x hx y hy => ?_⟩
      rw [List.mem_singleton.mp hy]
      exact fun z => q (z ▸ hx)
  · rcases mem_put he with he | rfl
    · exact h.rg e he
    · exact ⟨ha, hr⟩
  · obtain ⟨x, hx⟩ := h.all q h1 h2
    refine ⟨x, ?_⟩
    rw [keys_put]
    split
    · exact hx
    · exact List.mem_append.mpr (.inl hx)
  · have := h.len
    unfold putP
    split
    · rw [List.length_map]; omega
    · rw [List.length_append, List.length_singleton]; omega
  · rw [keys_put]
    split
    · assumption
    · exact List.mem_append.mpr (.inr (List.mem_singleton.mpr rfl))
structure At (k : Nat) (μ ν : Mu) (ps : List E3) : Prop where
  pot : Pot ν k
  len : ν.length = μ.length + 1
  tab : ν[μ.length]? = some (.dctT (ps.map kt))
  old : ∀ j, j < μ.length → j ≠ k → ν[j]? = μ[j]?
theorem At.ch {k : Nat} {μ ν ν' : Mu} {ps : List E3} (h : At k μ ν ps) (hk : k < μ.length) (c : Ch k ν ν') : At k μ ν' ps :=
  ⟨c.1, c.2.1.trans h.len, (c.2.2 _ (by omega)).trans h.tab, fun j hj hk => (c.2.2 j hk).trans (h.old j hj hk)⟩
theorem At.put {k : Nat} {μ ν : Mu} {ps ps' : List E3} (h : At k μ ν ps) (hk : k < μ.length) : At k μ (ν.set μ.length (.dctT (ps'.map kt))) ps' := by
  refine ⟨?_, by rw [List.length_set]; exact h.len, List.getElem?_set_self (by rw [h.len]; omega), fun j hj hk' => ?_⟩
  · obtain ⟨p0, p1, e, q⟩ := h.pot
    exact ⟨p0, p1, by rw [List.getElem?_set_ne (by omega)]; exact e, q⟩
  · rw [List.getElem?_set_ne (by omega)]
    exact h.old j hj hk'
theorem At.end {k : Nat} {μ ν : Mu} {ps : List E3} (h : At k μ ν ps) (hk : k < μ.length) : Ch k μ (ν.take μ.length) := by
  obtain ⟨p0, p1, e, q⟩ := h.pot
  refine ⟨⟨p0, p1, by rw [List.getElem?_take_of_lt hk]; exact e, q⟩, by rw [List.length_take, h.len]; omega, fun j hj => ?_⟩
  by_cases hl : j < μ.length
  · rw [List.getElem?_take_of_lt hl]
    exact h.old j hl hj
  · rw [List.getElem?_eq_none (by rw [List.length_take]; omega), List.getElem?_eq_none (by omega)]
section
variable {D : DEnds} {k : Nat} {μ : Mu} {n further room : Int} {v6 v7 v8 : Option Sl}
end
end WL
namespace WL
open PySem PySem.Spec PyProof.Rows L2 Evl DL
def minI : List Int → Int
  | [] => 0
  | x :: r => r.foldl (fun a y => if y < a then y else a) x
def leastOf (ts : List T3) (cs : List (List Int)) : List (List Int) := cs.filter fun c => decide (roomL ts c = minI (cs.map (roomL ts)))
def dueL (n : Int) (p q : Int) : List (List Int) := (cutsL n.toNat).filter fun c => acrossB c (p, q, 0)
def leastL (n : Int) (ts : List T3) (p q : Int) : List (List Int) := leastOf ts (dueL n p q)
def leastR (n : Int) (ts : List T3) (p q : Int) : Int := minI ((dueL n p q).map (roomL ts))
structure TwoOk (n : Int) (ts : List T3) (p q : Int) : Prop where
  web : WebOk n ts
  one : 0 ≤ p ∧ p < n
  other : 0 ≤ q ∧ q < n
  ne : p ≠ q
end WL
namespace WL
open PySem PySem.Spec PyProof.Rows L2 Evl DL
end WL
namespace WL
open PySem PySem.Spec PyProof.Rows L2 Evl DL
open PySem.W (dataLt dataLe alike alikeAll AllAlike Sortable minD)
theorem cuts_len {n : Nat} (hn : n ≤ 8) : (cutsL n).length ≤ 128 := by
  unfold cutsL
  rw [(sortL_perm _).length_eq]
  refine Nat.le_trans (List.length_filter_le _ _) ?_
  rw [lots_len]
  exact Nat.le_trans (Nat.pow_le_pow_right (by decide) (show n - 1 ≤ 7 by omega)) (by decide)
theorem Cut.small {n : Int} {c : List Int} (h : Cut n c) (hn : n ≤ 8) : SmallL c := by
  have := nodup_len 8 c 0 (lt_nodup h.1) fun q hq => by have := h.2.1 q hq; omega
  unfold SmallL
  omega
theorem mem_due {n : Int} (hn : 1 ≤ n) {p q : Int} {c : List Int} : c ∈ dueL n p q ↔ Cut n c ∧ acrossB c (p, q, 0) = true := by
  unfold dueL
  rw [List.mem_filter, mem_cutsL (show 1 ≤ n.toNat by omega), show ((n.toNat : Nat) : Int) = n by omega]
theorem due_len {n : Int} (hn : n ≤ 8) {p q : Int} : (dueL n p q).length ≤ 128 := Nat.le_trans (List.length_filter_le _ _) (cuts_len (by omega))
theorem due_ne {n : Int} {p q : Int} (hp : 0 ≤ p ∧ p < n) (hq : 0 ≤ q ∧ q < n) (ne : p ≠ q) : dueL n p q ≠ [] := by
  have one : ∀ r : Int, 1 ≤ r → r < n → Cut n [r] := fun r r1 r2 => ⟨List.pairwise_singleton .., fun x hx => by rw [List.mem_singleton.mp hx]; exact ⟨r1, r2⟩, by simp⟩
  have : ∃ c, c ∈ dueL n p q := by
    by_cases h0 : p = 0
    · refine ⟨[q], (mem_due (by omega)).mpr ⟨one q (by omega) hq.2, ?_⟩⟩
      simp [acrossB, ne]
    · refine ⟨[p], (mem_due (by omega)).mpr ⟨one p (by omega) hp.2, ?_⟩⟩
      have : ¬ q = p := fun z => ne z.symm
      simp [acrossB, this]
  obtain ⟨c, hc⟩ := this
  exact fun e => by rw [e] at hc; cases hc
section
variable {μ : Mu} {Q : DQ} {n p q : Int} {ts : List T3} {cs : List (List Int)}
@[simp ↓] theorem ix_l0 {x : PyData} {r : List PyData} : DL.rIx (.dat (.list (x :: r))) (.dat (.int 0)) μ Q = Q (.dat x) μ := by
  have e : atI (x :: r) 0 = some x := atI0
  simp only [DL.rIx, e_rdD, e, Option.some.injEq, exists_eq_left', e_eltD]
end
theorem TwoOk.due {n p q : Int} {ts : List T3} (h : TwoOk n ts p q) : ts.length ≤ 100 ∧ dueL n p q ≠ [] ∧ (dueL n p q).length ≤ 1000 ∧ ∀ c ∈ dueL n p q, SmallL c := by
  have hn := h.web.hi
  refine ⟨by have := h.web.rows.most; omega, due_ne h.one h.other h.ne, Nat.le_trans (due_len hn) (by decide), fun c hc => ?_⟩
  exact ((mem_due (by have := h.web.lo; omega)).mp hc).1.small hn
end WL
namespace WL
open PySem PySem.Spec PyProof.Rows L2 Evl DL
open PySem.W (dataLt dataLe alike alikeAll AllAlike Sortable minD)
def bd (ts : List T3) (s : Int → Bool) : Int := ((ts.filter fun t => s t.1 != s t.2.1).map (·.2.2)).sum
def placesL (n : Int) : List Int := (List.range n.toNat).map fun (i : Nat) => (i : Int)
structure Least (n : Int) (ts : List T3) (p q : Int) (s : Int → Bool) : Prop where
  one : s p = true
  other : s q = false
  room : bd ts s = leastR n ts p q
theorem TwoOk.swap {n p q : Int} {ts : List T3} (h : TwoOk n ts p q) : TwoOk n ts q p := ⟨h.web, h.other, h.one, h.ne.symm⟩
theorem eqv_ints : ∀ a b : List Int, PyData.eqvAll (a.map PyData.int) (b.map PyData.int) = decide (a = b)
  | [], [] => rfl
  | [], _ :: _ => rfl
  | _ :: _, [] => rfl
  | x :: a, y :: b => by
    rw [List.map_cons, List.map_cons, PyData.eqvAll, eqv_ints a b]
    have : PyData.eqv (.int x) (.int y) = decide (x = y) := by
      simp only [PyData.eqv]
      exact Bool.beq_eq_decide_eq x y
    rw [this]
    by_cases h : x = y <;> simp [h]
theorem eqv_row {a b : List Int} : PyData.eqv (rowI a) (rowI b) = decide (a = b) := by
  unfold rowI
  simp only [PyData.eqv]
  exact eqv_ints a b
theorem any_row {cs : List (List Int)} {c : List Int} : ((cs.map rowI).any fun z => PyData.eqv z (rowI c)) = decide (c ∈ cs) := by
  induction cs with
  | nil => rfl
  | cons a r ih =>
    rw [List.map_cons, List.any_cons, ih, eqv_row]
    by_cases h : c = a
    · subst h; simp
    · have h' : ¬ a = c := fun z => h z.symm
      simp [h, h']
@[simp ↓] theorem in_rows {cs : List (List Int)} {c : List Int} {f : Bool → Bool} {μ : Mu} {Q : DQ} : wIn f (.dat (rowI c)) (.dat (.list (cs.map rowI))) μ Q = Q (.dat (.bool (f (decide (c ∈ cs))))) μ := by
  rw [w_inL, any_row]
  exact propext ⟨fun z => z.2, fun z => ⟨⟨sh_row.ok (by decide), sh_rows.ok (by decide)⟩, z⟩⟩
end WL
namespace WL
open PySem PySem.Spec PyProof.Rows L2 Evl DL
end WL
namespace WL
open PySem PySem.Spec PyProof.Rows L2 Evl DL
structure Rp (w : Nat) (d : PyData) : Prop where
  show_ : d.showable = true
  dict : d.hasDict = false
  leaves : d.leavesShort 13 = true
  wt : d.weight ≤ w
theorem Rp.mono {v w : Nat} {d : PyData} (h : Rp v d) (hv : v ≤ w) : Rp w d := ⟨h.1, h.2, h.3, Nat.le_trans h.4 hv⟩
theorem Rp.okR {w n : Nat} {d : PyData} (h : Rp w d) (hw : w ≤ 2 ^ 20) (s : Sh n d) (hn : n ≤ 64) : okR d :=
  ⟨h.1, .inl h.2, Nat.le_trans s.2 hn, PyData.shown_fits (by decide) (by decide) h.3 (Nat.le_trans h.4 hw)⟩
theorem Rp.int {i : Int} (h : i.natAbs < 10 ^ 12) : Rp 41 (.int i) := by
  refine ⟨?_, by simp only [PyData.hasDict], ?_, ?_⟩
  · simp only [PyData.showable]
    refine decide_eq_true ?_
    by_cases h0 : i.natAbs = 0
    · rw [h0]; decide
    · have : i.natAbs.log2 < 40 := (Nat.log2_lt h0).mpr (Nat.lt_trans h (by decide))
      omega
  · simp only [PyData.leavesShort]
    exact decide_eq_true (PyData.shown_int_le h)
  · simp only [PyData.weight]
    split
    · exact Nat.zero_le _
    · rename_i h0
      have : i.natAbs ≠ 0 := fun z => h0 (by rw [Int.natAbs_eq_zero.mp z]; rfl)
      have : i.natAbs.log2 < 40 := (Nat.log2_lt this).mpr (Nat.lt_trans h (by decide))
      omega
theorem Rp.bool {b : Bool} : Rp 0 (.bool b) := ⟨by simp only [PyData.showable], by simp only [PyData.hasDict], by simp only [PyData.leavesShort], by simp only [PyData.weight]; exact Nat.le_refl _⟩
theorem Rp.none : Rp 0 .none := ⟨by simp only [PyData.showable], by simp only [PyData.hasDict], by simp only [PyData.leavesShort], by simp only [PyData.weight]; exact Nat.le_refl _⟩
theorem Rp.all {w : Nat} : ∀ {ds : List PyData}, (∀ d ∈ ds, Rp w d) → PyData.showableAll ds = true ∧ PyData.hasDictAll ds = false ∧ PyData.leavesShortAll 13 ds = true ∧ PyData.weightAll ds ≤ ds.length * (w + 1)
  | [], _ => by simp only [PyData.showableAll, PyData.hasDictAll, PyData.leavesShortAll, PyData.weightAll, List.length_nil]; simp
  | d :: r, h => by
    obtain ⟨a, b, c, e⟩ := Rp.all fun x hx => h x (List.mem_cons_of_mem _ hx)
    obtain ⟨a1, b1, c1, e1⟩ := h d (List.mem_cons_self ..)
    simp only [PyData.showableAll, PyData.hasDictAll, PyData.leavesShortAll, PyData.weightAll, List.length_cons, a, b, c, a1, b1, c1, Bool.and_self, Bool.or_self, true_and]
    rw [Nat.add_mul]
    omega
theorem Rp.tup {w m : Nat} {ds : List PyData} (h : ∀ d ∈ ds, Rp w d) (hm : ds.length ≤ m) : Rp (m * (w + 1)) (.tuple ds) := by
  obtain ⟨a, b, c, e⟩ := Rp.all h
  exact ⟨by simp only [PyData.showable]; exact a, by simp only [PyData.hasDict]; exact b, by simp only [PyData.leavesShort]; exact c, by simp only [PyData.weight]; exact Nat.le_trans e (Nat.mul_le_mul_right _ hm)⟩
theorem Rp.list {w m : Nat} {ds : List PyData} (h : ∀ d ∈ ds, Rp w d) (hm : ds.length ≤ m) : Rp (m * (w + 1)) (.list ds) := by
  obtain ⟨a, b, c, e⟩ := Rp.all h
  exact ⟨by simp only [PyData.showable]; exact a, by simp only [PyData.hasDict]; exact b, by simp only [PyData.leavesShort]; exact c, by simp only [PyData.weight]; exact Nat.le_trans e (Nat.mul_le_mul_right _ hm)⟩
end WL
namespace WL
open PySem PySem.Spec PyProof.Rows L2 Evl DL
theorem Reach.trans {ts : List T3} {a b c : Int} (h : Reach ts a b) (g : Reach ts b c) : Reach ts a c := by
  induction g with
  | here => exact h
  | fwd _ ht e ih => exact .fwd ih ht e
  | bwd _ ht e ih => exact .bwd ih ht e
theorem Reach.symm {ts : List T3} {a b : Int} (h : Reach ts a b) : Reach ts b a := by
  induction h with
  | here => exact .here
  | fwd _ ht e ih => exact Reach.trans (e ▸ Reach.bwd .here ht rfl) ih
  | bwd _ ht e ih => exact Reach.trans (e ▸ Reach.fwd .here ht rfl) ih
theorem Reach.mono {ts us : List T3} (hs : ∀ t ∈ ts, t ∈ us) {a b : Int} (h : Reach ts a b) : Reach us a b := by
  induction h with
  | here => exact .here
  | fwd _ ht e ih => exact .fwd ih (hs _ ht) e
  | bwd _ ht e ih => exact .bwd ih (hs _ ht) e
def within (ts : List T3) (s : Int → Bool) : List T3 := ts.filter fun t => s t.1 && s t.2.1
def Conn (n : Int) (ts : List T3) (s : Int → Bool) : Prop := ∀ p q, 0 ≤ p ∧ p < n → 0 ≤ q ∧ q < n → s p = true → s q = true → Reach (within ts s) p q
structure Split (n : Int) (ts : List T3) (s a b : Int → Bool) : Prop where
  or_ : ∀ x, s x = (a x || b x)
  dis : ∀ x, (a x && b x) = false
  one : ∃ x, (0 ≤ x ∧ x < n) ∧ a x = true
  two : ∃ x, (0 ≤ x ∧ x < n) ∧ b x = true
  no : ∀ t ∈ ts, (a t.1 && b t.2.1) = false ∧ (b t.1 && a t.2.1) = false
theorem Split.swap {n : Int} {ts : List T3} {s a b : Int → Bool} (h : Split n ts s a b) : Split n ts s b a :=
  ⟨fun x => by rw [h.or_ x, Bool.or_comm], fun x => by rw [Bool.and_comm]; exact h.dis x, h.two, h.one, fun t ht => ⟨(h.no t ht).2, (h.no t ht).1⟩⟩
def FirmS (n : Int) (ts : List T3) (s : Int → Bool) : Prop := Conn n ts s ∧ Conn n ts fun x => !s x
structure Some2 (n : Int) (s : Int → Bool) : Prop where
  in_ : ∃ x, (0 ≤ x ∧ x < n) ∧ s x = true
  out : ∃ x, (0 ≤ x ∧ x < n) ∧ s x = false
section
variable {n : Int} {ts ws : List T3} (hw : WebOk n ts) (h0 : ∀ t ∈ ws, 0 ≤ t.2.2) (H : ∀ s, Some2 n s → FirmS n ts s → bd ws s ≤ bd ts s)
include hw h0 H
end
end WL
namespace WL
open PySem PySem.Spec PyProof.Rows L2 Evl DL
end WL
namespace WL
open PySem PySem.Spec PyProof.Rows L2 Evl DL
open PySem.W (dataLt dataLe alike alikeAll AllAlike Sortable minD)
def tl (t : T3) : List Int := [t.1, t.2.1, t.2.2]
def backT : List Int → T3
  | [a, b, c] => (a, b, c)
  | _ => (0, 0, 0)
def sortT (ts : List T3) : List T3 := (sortL (ts.map tl)).map backT
theorem sortT_tl (ts : List T3) : (sortT ts).map tl = sortL (ts.map tl) := by
  unfold sortT
  rw [List.map_map]
  refine (List.map_congr_left fun x hx => ?_).trans (List.map_id _)
  obtain ⟨t, _, rfl⟩ := List.mem_map.mp ((sortL_perm _).mem_iff.mp hx)
  rfl
theorem sortT_perm (ts : List T3) : (sortT ts).Perm ts := by
  have h := (sortL_perm (ts.map tl)).map backT
  rw [List.map_map] at h
  have e : (ts.map (backT ∘ tl)) = ts := (List.map_congr_left fun t _ => rfl).trans (List.map_id _)
  rw [e] at h
  exact h
theorem tl_lex {a b : T3} (h : leL (tl a) (tl b) = true) (ne : two a ≠ two b) : lexP (two a) (two b) := by
  have h' := leL_iff.mp h
  have n : ¬ (tl b < tl a) := List.not_lt.mpr h'
  unfold tl at n
  simp only [List.cons_lt_cons_iff, not_or, not_and] at n
  have ne' : ¬ (a.1 = b.1 ∧ a.2.1 = b.2.1) := fun z => ne (Prod.ext z.1 z.2)
  unfold lexP two
  simp only
  by_cases h1 : b.1 < a.1
  · exact absurd h1 n.1
  · by_cases h2 : b.1 = a.1
    · have n2 := n.2 h2
      by_cases h3 : b.2.1 < a.2.1
      · exact absurd h3 n2.1
      · omega
    · omega
theorem sortT_up {ts : List T3} (h : (ts.map two).Nodup) : (sortT ts).Pairwise fun a b => lexP (two a) (two b) := by
  have p1 : ((sortT ts).map tl).Pairwise fun x y => leL x y = true := by
    rw [sortT_tl]
    exact sortL_sorted _
  have p2 : ((sortT ts).map two).Nodup := ((sortT_perm ts).map two).nodup_iff.mpr h
  exact ((List.pairwise_map.mp p1).and (List.pairwise_map.mp p2)).imp fun ⟨h1, h2⟩ => tl_lex h1 h2
end WL
namespace WL
open PySem PySem.Spec PyProof.Rows L2 Evl DL
structure Gr (k : Nat) (μ ν : Mu) : Prop where
  pot : Pot ν k
  len : μ.length ≤ ν.length
  old : ∀ j, j < μ.length → j ≠ k → ν[j]? = μ[j]?
section
variable {k : Nat} {μ ν ν' : Mu}
theorem Gr.refl (h : Pot μ k) : Gr k μ μ := ⟨h, Nat.le_refl _, fun _ _ _ => rfl⟩
theorem Gr.ch (h : Gr k μ ν) (c : Ch k ν ν') : Gr k μ ν' := ⟨c.1, by rw [c.2.1]; exact h.len, fun j hj hk => (c.2.2 j hk).trans (h.old j hj hk)⟩
theorem Gr.push (h : Gr k μ ν) {c : Cell} : Gr k μ (ν ++ [c]) := by
  refine ⟨?_, by rw [List.length_append]; exact Nat.le_trans h.len (Nat.le_add_right _ _), fun j hj hk => ?_⟩
  · have := h.pot.lt
    obtain ⟨p0, p1, e, q⟩ := h.pot
    exact ⟨p0, p1, by rw [List.getElem?_append_left this]; exact e, q⟩
  · have := h.len
    rw [List.getElem?_append_left (by omega)]
    exact h.old j hj hk
theorem Gr.end (h : Gr k μ ν) (hk : k < μ.length) : Ch k μ (ν.take μ.length) := by
  have hl := h.len
  obtain ⟨p0, p1, e, q⟩ := h.pot
  refine ⟨⟨p0, p1, by rw [List.getElem?_take_of_lt hk]; exact e, q⟩, by rw [List.length_take]; omega, fun j hj => ?_⟩
  by_cases hl' : j < μ.length
  · rw [List.getElem?_take_of_lt hl']
    exact h.old j hl' hj
  · rw [List.getElem?_eq_none (by rw [List.length_take]; omega), List.getElem?_eq_none (by omega)]
end
end WL
namespace WL
open PySem PySem.Spec PyProof.Rows L2 Evl DL
def nrm (t : T3) : T3 := (min t.1 t.2.1, max t.1 t.2.1, t.2.2)
def made (ts : List T3) : List T3 := sortT (ts.map nrm)
theorem nrm_of {t : T3} (h : t.1 < t.2.1) : nrm t = t := by
  unfold nrm
  rw [Int.min_eq_left (by omega), Int.max_eq_right (by omega)]
theorem lex_le {a b : T3} (h : lexP (two a) (two b)) : leL (tl a) (tl b) = true := by
  unfold leL ltL
  have : ¬ (tl b < tl a) := by
    unfold tl
    simp only [List.cons_lt_cons_iff]
    unfold lexP two at h
    simp only at h
    omega
  simp [this]
theorem sortT_self {ts : List T3} (h : ts.Pairwise fun a b => lexP (two a) (two b)) : sortT ts = ts := by
  have e : sortL (ts.map tl) = ts.map tl := by
    refine perm_sorted_eq (le := fun a b => leL a b = true) leL_anti (sortL_perm _) (sortL_sorted _) ?_
    exact List.pairwise_map.mpr (h.imp fun q => lex_le q)
  unfold sortT
  rw [e, List.map_map]
  exact (List.map_congr_left fun t _ => rfl).trans (List.map_id _)
theorem RowsOk.made {m : Nat} {n : Int} {ts : List T3} (h : RowsOk m n ts) : made ts = ts := by
  unfold WL.made
  have e : ts.map nrm = ts := (List.map_congr_left fun t ht => nrm_of (h.in_ t ht).2.1).trans (List.map_id _)
  rw [e]
  exact sortT_self h.up
theorem made_mem {ts : List T3} {t : T3} : t ∈ made ts ↔ ∃ u ∈ ts, t = nrm u := by
  unfold made
  rw [(sortT_perm _).mem_iff, List.mem_map]
  constructor
  · rintro ⟨u, h1, h2⟩; exact ⟨u, h1, h2.symm⟩
  · rintro ⟨u, h1, h2⟩; exact ⟨u, h1, h2.symm⟩
theorem made_len {ts : List T3} : (made ts).length = ts.length := by
  unfold made
  rw [(sortT_perm _).length_eq, List.length_map]
structure LooseOk (m : Nat) (n : Int) (ts : List T3) : Prop where
  one : 1 ≤ ts.length
  most : ts.length ≤ m
  in_ : ∀ t ∈ ts, (0 ≤ t.1 ∧ t.1 < n) ∧ (0 ≤ t.2.1 ∧ t.2.1 < n) ∧ t.1 ≠ t.2.1 ∧ 1 ≤ t.2.2 ∧ t.2.2 ≤ 20
  nd : (ts.map fun t => two (nrm t)).Nodup
theorem LooseOk.made {m : Nat} {n : Int} {ts : List T3} (h : LooseOk m n ts) : RowsOk m n (made ts) := by
  refine ⟨by rw [made_len]; exact h.one, by rw [made_len]; exact h.most, fun t ht => ?_, ?_⟩
  · obtain ⟨u, hu, rfl⟩ := made_mem.mp ht
    have := h.in_ u hu
    unfold nrm
    simp only
    omega
  · refine sortT_up ?_
    rw [List.map_map]
    exact h.nd
theorem RowsOk.loose {m : Nat} {n : Int} {ts : List T3} (h : RowsOk m n ts) : LooseOk m n ts := by
  refine ⟨h.one, h.most, fun t ht => by have := h.in_ t ht; omega, ?_⟩
  have e : ts.map (fun t => two (nrm t)) = ts.map two := List.map_congr_left fun t ht => by rw [nrm_of (h.in_ t ht).2.1]
  rw [e]
  refine List.pairwise_map.mpr (h.up.imp fun {a b} q z => ?_)
  rw [z] at q
  unfold lexP at q
  omega
def ren (f : Int → Int) (t : T3) : T3 := (f t.1, f t.2.1, t.2.2)
theorem ren_loose {m : Nat} {n : Int} {ts : List T3} (h : RowsOk m n ts) {f g : Int → Int} (hf : ∀ p, 0 ≤ p → p < n → 0 ≤ f p ∧ f p < n) (hg : ∀ p, 0 ≤ p → p < n → g (f p) = p) : LooseOk m n (ts.map (ren f)) := by
  refine ⟨by rw [List.length_map]; exact h.one, by rw [List.length_map]; exact h.most, fun t ht => ?_, ?_⟩
  · obtain ⟨u, hu, rfl⟩ := List.mem_map.mp ht
    have i := h.in_ u hu
    have h1 := hf u.1 (by omega) (by omega)
    have h2 := hf u.2.1 (by omega) (by omega)
    have ne : f u.1 ≠ f u.2.1 := fun z => by
      have := congrArg g z
      rw [hg _ (by omega) (by omega), hg _ (by omega) (by omega)] at this
      omega
    exact ⟨h1, h2, ne, by show 1 ≤ u.2.2 ∧ u.2.2 ≤ 20; omega⟩
  · rw [List.map_map]
    refine List.pairwise_map.mpr ?_
    have nd : (ts.map two).Nodup := by
      refine List.pairwise_map.mpr (h.up.imp fun {a b} q z => ?_)
      rw [z] at q
      unfold lexP at q
      omega
    have nd' := List.pairwise_map.mp nd
    refine (List.Pairwise.and_mem.mp nd').imp fun {a b} ⟨ha, hb, q⟩ z => q ?_
    have i := h.in_ a ha
    have j := h.in_ b hb
    have a1 := hg a.1 (by omega) (by omega)
    have a2 := hg a.2.1 (by omega) (by omega)
    have b1 := hg b.1 (by omega) (by omega)
    have b2 := hg b.2.1 (by omega) (by omega)
    have z1 : min (f a.1) (f a.2.1) = min (f b.1) (f b.2.1) := congrArg Prod.fst z
    have z2 : max (f a.1) (f a.2.1) = max (f b.1) (f b.2.1) := congrArg Prod.snd z
    have key : (f a.1 = f b.1 ∧ f a.2.1 = f b.2.1) ∨ (f a.1 = f b.2.1 ∧ f a.2.1 = f b.1) := by omega
    rcases key with ⟨k1, k2⟩ | ⟨k1, k2⟩
    · rw [k1] at a1
      rw [k2] at a2
      refine Prod.ext ?_ ?_
      · show a.1 = b.1
        omega
      · show a.2.1 = b.2.1
        omega
    · rw [k1] at a1
      rw [k2] at a2
      omega
theorem reach_ren {ts : List T3} {f : Int → Int} {p q : Int} (h : Reach ts p q) : Reach (made (ts.map (ren f))) (f p) (f q) := by
  have step : ∀ t ∈ ts, ∀ x, Reach (made (ts.map (ren f))) x (f t.1) → Reach (made (ts.map (ren f))) x (f t.2.1) := fun t ht x r => by
    have hm : nrm (ren f t) ∈ made (ts.map (ren f)) := made_mem.mpr ⟨_, List.mem_map.mpr ⟨t, ht, rfl⟩, rfl⟩
    by_cases c : f t.1 ≤ f t.2.1
    · have e1 : (nrm (ren f t)).1 = f t.1 := Int.min_eq_left c
      have e2 : (nrm (ren f t)).2.1 = f t.2.1 := Int.max_eq_right c
      exact e2 ▸ Reach.fwd r hm e1
    · have e1 : (nrm (ren f t)).1 = f t.2.1 := Int.min_eq_right (by show f t.2.1 ≤ f t.1; omega)
      have e2 : (nrm (ren f t)).2.1 = f t.1 := Int.max_eq_left (by show f t.2.1 ≤ f t.1; omega)
      exact e1 ▸ Reach.bwd r hm e2
  have step2 : ∀ t ∈ ts, ∀ x, Reach (made (ts.map (ren f))) x (f t.2.1) → Reach (made (ts.map (ren f))) x (f t.1) := fun t ht x r => r.trans (step t ht _ .here).symm
  induction h with
  | here => exact .here
  | fwd _ ht e ih => exact step _ ht _ (e ▸ ih)
  | bwd _ ht e ih => exact step2 _ ht _ (e ▸ ih)
theorem WebOk.ren {n : Int} {ts : List T3} (h : WebOk n ts) {f g : Int → Int} (hf : ∀ p, 0 ≤ p → p < n → 0 ≤ f p ∧ f p < n) (hg : ∀ p, 0 ≤ p → p < n → g (f p) = p) (hg2 : ∀ p, 0 ≤ p → p < n → (0 ≤ g p ∧ g p < n) ∧ f (g p) = p) : WebOk n (made (ts.map (WL.ren f))) := by
  refine ⟨h.lo, h.hi, (ren_loose h.rows hf hg).made, fun p p0 p1 => ?_⟩
  have hn := h.lo
  obtain ⟨⟨z0, z1⟩, z2⟩ := hg2 0 (by omega) (by omega)
  obtain ⟨⟨y0, y1⟩, y2⟩ := hg2 p p0 p1
  have r := (h.joined (g 0) z0 z1).symm.trans (h.joined (g p) y0 y1)
  have := reach_ren (f := f) r
  rw [z2, y2] at this
  exact this
end WL
namespace WL
open PySem PySem.Spec PyProof.Rows L2 Evl DL
structure A2 (k : Nat) (μ ν : Mu) (ds es : List PyData) : Prop where
  pot : Pot ν k
  len : ν.length = μ.length + 2
  A : ν[μ.length]? = some (.lst ds)
  B : ν[μ.length + 1]? = some (.lst es)
  old : ∀ j, j < μ.length → j ≠ k → ν[j]? = μ[j]?
section
variable {k : Nat} {μ ν ν' : Mu} {ds es fs : List PyData} {Q : DQ} {d : PyData}
theorem A2.start (hp : Pot μ k) : A2 k μ (μ ++ [.lst ds] ++ [.lst es]) ds es := by
  have hk := hp.lt
  refine ⟨?_, by simp, ?_, ?_, fun j hj _ => ?_⟩
  · obtain ⟨p0, p1, e, q⟩ := hp
    exact ⟨p0, p1, by rw [List.append_assoc, List.getElem?_append_left hk]; exact e, q⟩
  · rw [List.append_assoc, List.getElem?_append_right (Nat.le_refl _), Nat.sub_self]
    rfl
  · rw [List.append_assoc, List.getElem?_append_right (by omega), show μ.length + 1 - μ.length = 1 by omega]
    rfl
  · rw [List.append_assoc]
    exact List.getElem?_append_left hj
theorem A2.ch (h : A2 k μ ν ds es) (hk : k < μ.length) (c : Ch k ν ν') : A2 k μ ν' ds es :=
  ⟨c.1, c.2.1.trans h.len, (c.2.2 _ (by omega)).trans h.A, (c.2.2 _ (by omega)).trans h.B, fun j hj hk => (c.2.2 j hk).trans (h.old j hj hk)⟩
theorem A2.end (h : A2 k μ ν ds es) (hk : k < μ.length) : Ch k μ (ν.take μ.length) := by
  have hl := h.len
  obtain ⟨p0, p1, e, q⟩ := h.pot
  refine ⟨⟨p0, p1, by rw [List.getElem?_take_of_lt hk]; exact e, q⟩, by rw [List.length_take]; omega, fun j hj => ?_⟩
  by_cases hl' : j < μ.length
  · rw [List.getElem?_take_of_lt hl']
    exact h.old j hl' hj
  · rw [List.getElem?_eq_none (by rw [List.length_take]; omega), List.getElem?_eq_none (by omega)]
end
end WL
namespace DL
open PySem PySem.Spec PyProof.Rows L2 Evl
theorem tup_mul_one (l : Addr) (items : Array Value) (n : Nat) (dd : Option Addr) (sl : Array (Option Value)) (u : Tok) :
    Meets (Builtin.«tuple.__mul__» ⟨[.ref l, .int 1 u], []⟩) (fun _ R s => s.heap.get? l = some { cls := .type "tuple", dict := dd, data := .seq items n, slots := sl } ∧ R (.ok (.ret (Value.ref l))) s) :=
  .of_wp fun prog w A R s h => by
    obtain ⟨hp, g, d, tk, os⟩ := s
    obtain ⟨hl, h⟩ := h
    have f1 := AutoSeq1.idx_int
    have c0 : (decide ((1 : Int) < -(2 ^ 63)) || decide ((1 : Int) ≥ 2 ^ 63)) = false := by decide
    have c1 : (items.isEmpty || (1 : Int) == 1) = true := by simp
    wp_walk using wpAny_loadPart' hl
    repeat (first
      | (refine wpAny_ite_false (decide_eq_false (by rw [c0]; exact Bool.false_ne_true)) ?_; wp_walk using wpAny_loadPart' hl)
      | (refine wpAny_ite_true (decide_eq_true c1) ?_; wp_walk using wpAny_loadPart' hl))
    exact ⟨_, rfl, h⟩
theorem tup_mul_none (l : Addr) (items : Array Value) (n : Nat) (dd : Option Addr) (sl : Array (Option Value)) (x : Int) (u : Tok) (c0 : (decide (x < -(2 ^ 63)) || decide (x ≥ 2 ^ 63)) = false) (c1 : (items.isEmpty || x == 1) = false) (c2 : (decide (x ≤ 0) || items.isEmpty) = true) :
    Meets (Builtin.«tuple.__mul__» ⟨[.ref l, .int x u], []⟩) (fun _ R s => s.heap.get? l = some { cls := .type "tuple", dict := dd, data := .seq items n, slots := sl } ∧
      R (.ok (.ret (Value.ref s.heap.objs.size))) { s with heap := s.heap.push { cls := Value.type "tuple", data := Data.seq #[] }, toks := s.toks }) :=
  .of_wp fun prog w A R s h => by
    obtain ⟨hp, g, d, tk, os⟩ := s
    obtain ⟨hl, h⟩ := h
    have f1 := AutoSeq1.idx_int
    wp_walk using wpAny_loadPart' hl
    repeat (first
      | (refine wpAny_ite_false (decide_eq_false (by rw [c0]; exact Bool.false_ne_true)) ?_; wp_walk using wpAny_loadPart' hl)
      | (refine wpAny_ite_false (decide_eq_false (by rw [c1]; exact Bool.false_ne_true)) ?_; wp_walk using wpAny_loadPart' hl)
      | (refine wpAny_ite_true (decide_eq_true c2) ?_; wp_walk using wpAny_loadPart' hl))
    exact ⟨_, rfl, h⟩
def rRepN (K : PySem.W.Frag) : R2 := fun x y H Q => ∃ l k xs, x = .ref l ∧ y = .int k ∧ SqT K H l xs ∧ xs ≠ [] ∧ (-1000 ≤ k ∧ k ≤ 1000) ∧ xs.length ≤ 1000 ∧ (k = 1 → Q (.ref l) H) ∧ (k ≠ 1 → ∀ p, H p = none → Q (.ref p) (upd H p (.tup (List.replicate k.toNat xs).flatten)))
section
variable {X : Cx}
theorem op_repN : OpR X (binaryOp .Mult) (rRepN X.K) := by
  intro pins s σ H x y v u Q I rx ry h
  obtain ⟨l, k, xs, rfl, rfl, hT, hne, ⟨h1, h2⟩, hz, q1, qn⟩ := h
  by_cases k2 : 2 ≤ k
  · exact op_repT pins s σ H _ _ v u Q I rx ry ⟨l, k, xs, rfl, rfl, hT, hne, k2, h2, hz, qn (by omega)⟩
  cases rx
  obtain ⟨t, rfl⟩ := ry
  obtain ⟨its, r, ⟨⟨cls, dd, data, sl⟩, ho, hc, n, hd⟩, hs⟩ := I.tuple hT
  simp only at hc hd
  subst hc hd
  have hi : its.toArray.isEmpty = false := by
    cases its with
    | nil => exact absurd (List.eq_nil_of_length_eq_zero r.length) hne
    | cons a b => rfl
  have at_ : ∀ {R : Value → Shared → Prop}, wpAny (model X.prog X.w) X.A.in1 (call (.builtin "tuple.__mul__") [.ref l, .int k t]) R X.xe s → True := fun _ => trivial
  have c0 : (decide (k < -(2 ^ 63)) || decide (k ≥ 2 ^ 63)) = false := by
    rw [decide_eq_false (by omega), decide_eq_false (by omega)]; rfl
  by_cases e : k = 1
  · subst e
    exact wpAny_binaryOp_repeat_ref (T := "tuple") (U := "int") (by decide) ⟨_, ho, rfl⟩ (fun s' => typeIs_int s' 1 t) noFill_tuple_mul F.fills_int_mul F.slot_int_rmul repeat_tuple F.slot_int_index.lookup
      (call_meets F.slot_int_rmul (typeIs_int s 1 t) F.entry_int_rmul (F.args_int_rmul_2 _ _) (int_rmul_tuple 1 t l its.toArray n dd sl)
        ⟨ho, rfl, ⟨_, ho, rfl⟩, call_meets F.slot_tuple_mul ⟨_, ho, rfl⟩ F.entry_tuple_mul (F.args_tuple_mul_2 _ _) (tup_mul_one l its.toArray n dd sl t) ⟨ho, ⟨.ref l, H, I, rfl, q1 rfl⟩⟩⟩)
  · have c1 : (its.toArray.isEmpty || k == 1) = false := by
      rw [hi, Bool.false_or]
      exact beq_eq_false_iff_ne.mpr e
    have c2 : (decide (k ≤ 0) || its.toArray.isEmpty) = true := by
      rw [hi, Bool.or_false]
      exact decide_eq_true (by omega)
    have e0 : k.toNat = 0 := by omega
    have q := qn e
    rw [e0] at q
    exact wpAny_binaryOp_repeat_ref (T := "tuple") (U := "int") (by decide) ⟨_, ho, rfl⟩ (fun s' => typeIs_int s' k t) noFill_tuple_mul F.fills_int_mul F.slot_int_rmul repeat_tuple F.slot_int_index.lookup
      (call_meets F.slot_int_rmul (typeIs_int s k t) F.entry_int_rmul (F.args_int_rmul_2 _ _) (int_rmul_tuple k t l its.toArray n dd sl)
        ⟨ho, rfl, ⟨_, ho, rfl⟩, call_meets F.slot_tuple_mul ⟨_, ho, rfl⟩ F.entry_tuple_mul (F.args_tuple_mul_2 _ _) (tup_mul_none l its.toArray n dd sl k t c0 c1 c2)
          ⟨ho, ⟨.ref s.heap.objs.size, _, I.laid (t' := s.toks) (o := .tup []) (fun b ob q => Heap.get?_push_of_some _ q) (Nat.le_refl _) ⟨Nat.zero_le _, [], .nil, IsTup.new _ _⟩, rfl, q _ (I.hok.fresh (Nat.le_refl _))⟩⟩⟩)
end
def rMulA : DR2 := fun x y μ Q => match rd μ x, rd μ y with
  | some (.tuple xs), some (.int k) => (isV x = false ∧ xs ≠ [] ∧ (-1000 ≤ k ∧ k ≤ 1000) ∧ xs.length ≤ 1000) ∧ Q (.dat (.tuple (List.replicate k.toNat xs).flatten)) μ
  | _, _ => False
theorem rd_tup_dat {x : Sl} {μ : Mu} {xs : List PyData} (e : rd μ x = some (.tuple xs)) (h : isV x = false) : x = .dat (.tuple xs) := by
  cases x with
  | dat d => cases e; rfl
  | vw d => cases h
  | raw w => cases e
  | rtup w => cases e
  | cell k =>
    replace e : rdC μ[k]? = _ := e
    cases q : μ[k]? with
    | none => rw [q] at e; cases e
    | some c => rw [q] at e; cases c <;> cases e
section
variable {X : Cx} {K : PySem.W.Frag}
theorem lr_mulA : LR2 K (rRepN K) rMulA := fun x y μ Q' h W H vx vy r hx hy Q q => by
  unfold rMulA at h
  split at h
  · rename_i xs k e1 e2
    obtain ⟨⟨hv, hne, hk, hl⟩, h⟩ := h
    cases rd_int r hy e2
    obtain ⟨a, ys, rfl, ha, hi⟩ := rd_tup r hx e1
    cases rd_tup_dat e1 hv
    have hlen := hi.length
    refine ⟨a, k, ys, rfl, rfl, ha, fun z => hne (List.eq_nil_of_length_eq_zero (by rw [← hlen, z]; rfl)), hk, by rw [hlen]; exact hl, fun e => ?_, fun e p hp => ?_⟩
    · subst e
      have : (List.replicate (1 : Int).toNat xs).flatten = xs := by simp
      rw [this] at h
      exact q (.ref a) (.dat (.tuple xs)) W H μ (Le.refl W) r hx h
    · exact q.newT (b := false) r (dpAll_rep (show DvAll K W.G ys xs from hi) k.toNat) h p hp
  · exact h.elim
theorem pd_mulA {a b : Expr} {da db : DE} {pos : Pos} (ha : PD X a da) (hb : PD X b db) : PD X (.BinOp a .Mult b pos) (dOp rMulA da db) := pd_op op_repN lr_mulA ha hb
end
end DL
namespace WL
open PySem PySem.Spec PyProof.Rows L2 Evl DL
theorem pot_fin {μ : Mu} {Q' : DQ} {cell y m : Int} (hm : 0 < m ∧ m < 2 ^ 39) (h : ∀ (p0 p1 : Int), 0 ≤ p0 → 0 ≤ p1 → p1 < 2 ^ 40 → Q' (Sl.cell (List.length μ)) (μ ++ [Cell.lst [PyData.int p0, PyData.int p1]])) :
    Q' (Sl.cell μ.length) (μ ++ [Cell.lst [.int (if 1000000000000000000 < cell then cell - 1000000000000000000 else 0), .int (y.fmod m + 1)]]) := by
  have f := fmod_lt (a := y) hm.1
  refine h _ _ ?_ (by omega) (by omega)
  split <;> omega
end WL
namespace WL
open PySem PySem.Spec PyProof.Rows L2 Evl DL
def dPot3 (a b c1 c2 c3 m1 m2 : Int) : DS := (dSeq (dAsg (dIf (dTest (dOp wLt (dVar 1) (dCB fLen (aCons (dVar 0) aNil)))) (dCB fAbs (aCons (dOp DL.rIx (dVar 0) (dVar 1)) aNil)) (dOp DL.rAdd (dOp DL.rMul (dC (.int a)) (dVar 1)) (dC (.int b)))) 2)
    (dRet (dLstC (aCons (dCB fMax2 (aCons (dC (.int 0)) (aCons (dOp DL.rSub (dVar 2) (dOp rPw (dC (.int 10)) (dC (.int 18)))) aNil))) (aCons (dOp DL.rAdd (dOp DL.rMd (dCB fInt (aCons (dOp DL.rAdd (dOp DL.rAdd (dOp DL.rMul (dOp DL.rMd (dCB fInt (aCons (dVar 2) aNil)) (dC (.int m1))) (dC (.int c1))) (dOp DL.rMul (dC (.int c2)) (dVar 1))) (dC (.int c3))) aNil)) (dC (.int m2))) (dC (.int 1))) aNil)))))
theorem pot_gen3 {a b c1 c2 c3 m1 m2 : Int} (hC : PotC a b m1 c1 c2 c3 m2) : Pure ["script", "k", "cell"] 2 WL.ph_law_pot (dPot3 a b c1 c2 c3 m1 m2) := by
  intro ss μ Q' hl h
  obtain ⟨ns, k, rfl, hk, h⟩ := h
  have z1 := hC.m1
  have z2 := hC.m2
  have q1 : CMulW a k := hC.a.cmul (k := 40) (sm_of hk.1 (by omega)) (by decide) (by decide)
  have q2 : CMulW c2 k := hC.c2.cmul (k := 40) (sm_of hk.1 (by omega)) (by decide) (by decide)
  have q3 : ∀ z : Int, CMulW (z.fmod m1) c1 := fun z => by
    have f := fmod_lt (a := z) z1.1
    exact (sm_of (k := 40) f.1 (by omega)).cmul hC.c1 (by decide) (by decide)
  have n1 : m1 ≠ 0 := by omega
  have n2 : m2 ≠ 0 := by omega
  by_cases c : k < ns.length
  · obtain ⟨x, hx⟩ : ∃ x, atI (ns.map PyData.int) k = some (.int x) := by
      obtain ⟨d, hd, e⟩ := atI_lt (ds := ns.map PyData.int) hk.1 (by simpa using c)
      obtain ⟨x, _, rfl⟩ := List.mem_map.mp hd
      exact ⟨x, e⟩
    simp [dPot3, startD, cp18, c, rix_l hx, o_finC, q1, q2, q3, n1, n2]
    exact .inr (pot_fin z2 h)
  · simp [dPot3, startD, cp18, c, o_finC, q1, q2, q3, n1, n2]
    exact .inr (pot_fin z2 h)
end WL
namespace K27
open PySem PySem.Spec PyProof.Rows L2 Evl DL
open WL
def ownD (n : Int) (ts : List T3) : PyData := .tuple [.int n, .list (ts.map tieD)]
def asRow : PyData → Option (List Int)
  | .tuple ds => intsOf ds
  | _ => none
def goes (ts : List T3) (xs : List Int) (f : T3 → Int) (p : Int) : Int := (((ts.zip xs).filter fun z => decide (f z.1 = p)).map (·.2)).sum
def awayI (ts : List T3) (xs : List Int) (p : Int) : Int := goes ts xs (·.1) p - goes ts xs (·.2.1) p
end K27
namespace K52
open PySem PySem.Spec PyProof.Rows L2 Evl DL
open WL
def fitT (z : T3 × Int) : Bool := !decide (z.1.2.2 < (if z.2 < 0 then -z.2 else z.2)) && decide ((z.1.2.2 - z.2).fmod 2 = 0)
def turnB (ts : List T3) (d : PyData) : Bool := match K27.asRow d with
  | some xs => decide (xs.length = ts.length) && (ts.zip xs).all fitT
  | none => false
def surI (n : Int) (ts : List T3) (xs : List Int) : List Int := (placesL n).map (K27.awayI ts xs)
def surOf (n : Int) (ts : List T3) (d : PyData) : List Int := match K27.asRow d with
  | some xs => surI n ts xs
  | none => []
def intsL (xs : List Int) : PyData := .list (xs.map PyData.int)
def ph_are_integers : DF := fun ss μ Q => ∃ s ds, ss = [s] ∧ (s = .dat (.tuple ds) ∨ s = .dat (.list ds)) ∧ ds.length ≤ 1000 ∧ Q (.dat (.bool (ds.all isW))) μ
def ph_check_surplus : DF := fun ss μ Q => ∃ n ts s xs, ss = [.dat (webD n ts), s] ∧ Sq1 s xs ∧ ((xs.length : Int) = n ∧ n ≤ 8 ∧ xs.sum = 0) ∧ Q (.dat .none) μ
end K52
namespace K52
open PySem PySem.Spec PyProof.Rows L2 Evl DL
def ds_are_integers : DS := (dRet (dCB fAll (aCons (dLc (iSeq (dVar 0)) (gN 1) dYes (dCall 1 WL.ph_is_integer (aCons (dVar 1) aNil)) [1]) aNil)))
end K52
namespace K27
open PySem PySem.Spec PyProof.Rows L2 Evl DL
end K27
namespace K27
open PySem PySem.Spec PyProof.Rows L2 Evl DL
open WL
theorem zw_ties {ts : List T3} {xs : List Int} : List.zipWith (fun d e => PyData.tuple [d, e]) (ts.map tieD) (xs.map PyData.int) = (ts.zip xs).map fun z => PyData.tuple [tieD z.1, .int z.2] := by
  rw [List.zipWith_map, ← List.map_uncurry_zip_eq_zipWith]
  rfl
def zD (z : T3 × Int) : PyData := .tuple [tieD z.1, .int z.2]
theorem zip_ci {ts : List T3} {xs : List Int} {a b : DE} {ρ : Rho} {μ : Mu} (h1 : ∀ R : DQ, a ρ μ R = R (.dat (tiesD ts)) μ) (h2 : ∀ R : DQ, b ρ μ R = R (.dat (rowI xs)) μ) (R : List Sl → (Mu → Prop) → Mu → Prop) :
    iZp (aCons a (aCons b aNil)) ρ μ R = R (((ts.zip xs).map zD).map .dat) (fun _ => True) μ := by
  have : (ts.zip xs).map zD = List.zipWith (fun d e => PyData.tuple [d, e]) (ts.map tieD) (xs.map PyData.int) := zw_ties.symm
  rw [this]
  unfold tiesD at h1
  unfold rowI at h2
  simp only [iZp, e_aCons, e_aNil, h1, h2, e_rdD, zipS_dat]
end K27
namespace K27
open PySem PySem.Spec PyProof.Rows L2 Evl DL
open WL
section
variable {μ : Mu} {Q : DQ} {n p q : Int} {ts : List T3} {d : PyData} {xs : List Int} {ds : List PyData}
end
theorem intsOf_all : ∀ {ds : List PyData}, (ds.all isW = true → ∃ xs, intsOf ds = some xs ∧ ds = xs.map PyData.int) ∧ (ds.all isW = false → intsOf ds = none)
  | [] => ⟨fun _ => ⟨[], rfl, rfl⟩, fun h => by cases h⟩
  | d :: ds => by
    have ih := @intsOf_all ds
    rw [List.all_cons]
    cases d with
    | int i =>
      refine ⟨fun h => ?_, fun h => ?_⟩
      · obtain ⟨xs, e1, e2⟩ := ih.1 (by simpa [isW] using h)
        exact ⟨i :: xs, by simp [intsOf, e1], by rw [e2, List.map_cons]⟩
      · have := ih.2 (by simpa [isW] using h)
        simp [intsOf, this]
    | _ => exact ⟨fun h => by simp [isW] at h, fun _ => rfl⟩
theorem asRow_row {xs : List Int} : asRow (rowI xs) = some xs := by
  have : ∀ xs : List Int, intsOf (xs.map PyData.int) = some xs := fun xs => by
    induction xs with
    | nil => rfl
    | cons a r ih => simp [intsOf, ih]
  exact this xs
end K27
namespace K27
open PySem PySem.Spec PyProof.Rows L2 Evl DL
open WL
section
variable {μ : Mu} {Q : DQ} {n p q : Int} {ts : List T3} {c : List Int} {k : Nat}
@[simp ↓] theorem ix_o0 : DL.rIx (.dat (ownD n ts)) (.dat (.int 0)) μ Q = Q (.dat (.int n)) μ := ix_0
@[simp ↓] theorem ix_o1 : DL.rIx (.dat (ownD n ts)) (.dat (.int 1)) μ Q = Q (.dat (.list (ts.map tieD))) μ := ix_1
end
end K27
namespace K27
open PySem PySem.Spec PyProof.Rows L2 Evl DL
open WL
section
variable {D : DEnds} {k : Nat} {μ : Mu} {n : Int} {s1 s2 : Option Sl}
end
end K27
namespace K27
open PySem PySem.Spec PyProof.Rows L2 Evl DL
open WL
theorem pl_at {β : Type} {n p : Int} (f : Int → β) (h : 0 ≤ p ∧ p < n) : ((placesL n).map f)[p.toNat]? = some (f p) := by
  unfold placesL
  rw [List.map_map, List.getElem?_map, List.getElem?_range (by omega)]
  show some (f ((p.toNat : Nat) : Int)) = _
  rw [Int.toNat_of_nonneg h.1]
theorem pl_set {β : Type} {n i : Int} (f : Int → β) (v : β) (h : 0 ≤ i ∧ i < n) : ((placesL n).map f).set i.toNat v = (placesL n).map fun p => if p = i then v else f p := by
  refine List.ext_getElem? fun j => ?_
  unfold placesL
  rw [List.map_map, List.map_map, List.getElem?_set, List.getElem?_map, List.getElem?_map, List.length_map, List.length_range]
  by_cases hj : j < n.toNat
  · rw [List.getElem?_range hj]
    by_cases e : i.toNat = j
    · rw [if_pos e, if_pos (by omega)]
      show some v = some (if ((j : Nat) : Int) = i then v else _)
      rw [if_pos (by omega)]
    · rw [if_neg e]
      show some (f (j : Int)) = some (if ((j : Nat) : Int) = i then v else f (j : Int))
      rw [if_neg (by omega)]
  · rw [List.getElem?_eq_none (l := List.range n.toNat) (by rw [List.length_range]; omega)]
    by_cases e : i.toNat = j
    · rw [if_pos e, if_neg (by omega)]; rfl
    · rw [if_neg e]; rfl
def awayZ (zs : List (T3 × Int)) (p : Int) : Int := ((zs.filter fun z => decide (z.1.1 = p)).map (·.2)).sum - ((zs.filter fun z => decide (z.1.2.1 = p)).map (·.2)).sum
def leftZ (n : Int) (zs : List (T3 × Int)) : List PyData := ((placesL n).map (awayZ zs)).map PyData.int
theorem away_snoc (zs : List (T3 × Int)) (z : T3 × Int) (p : Int) : awayZ (zs ++ [z]) p = awayZ zs p + (if z.1.1 = p then z.2 else 0) - (if z.1.2.1 = p then z.2 else 0) := by
  unfold awayZ
  rw [List.filter_append, List.filter_append, List.map_append, List.map_append, List.sum_append, List.sum_append]
  have e : ∀ (b : Bool), (([z].filter fun _ => b).map (·.2)).sum = if b = true then z.2 else 0 := fun b => by cases b <;> simp
  have e1 : (([z].filter fun z => decide (z.1.1 = p)).map (·.2)).sum = if z.1.1 = p then z.2 else 0 := by
    by_cases c : z.1.1 = p <;> simp [c]
  have e2 : (([z].filter fun z => decide (z.1.2.1 = p)).map (·.2)).sum = if z.1.2.1 = p then z.2 else 0 := by
    by_cases c : z.1.2.1 = p <;> simp [c]
  rw [e1, e2]
  omega
theorem left_len {n : Int} {zs : List (T3 × Int)} : (leftZ n zs).length = n.toNat := by
  unfold leftZ placesL
  rw [List.length_map, List.length_map, List.length_map, List.length_range]
theorem left_at {n : Int} {zs : List (T3 × Int)} {p : Int} (h : 0 ≤ p ∧ p < n) : atI (leftZ n zs) p = some (.int (awayZ zs p)) := by
  have := atI_nat (xs := leftZ n zs) (j := p.toNat) (v := .int (awayZ zs p)) (by
    unfold leftZ
    rw [List.map_map]
    exact pl_at (fun p => PyData.int (awayZ zs p)) h)
  rw [Int.toNat_of_nonneg h.1] at this
  exact this
theorem left_step {n : Int} {zs : List (T3 × Int)} {z : T3 × Int} (h1 : 0 ≤ z.1.1 ∧ z.1.1 < n) (h2 : 0 ≤ z.1.2.1 ∧ z.1.2.1 < n) (ne : z.1.1 ≠ z.1.2.1) :
    ((leftZ n zs).set z.1.1.toNat (.int (awayZ zs z.1.1 + z.2))).set z.1.2.1.toNat (.int (awayZ zs z.1.2.1 - z.2)) = leftZ n (zs ++ [z]) := by
  unfold leftZ
  rw [List.map_map, List.map_map, pl_set _ _ h1, pl_set _ _ h2]
  refine List.map_congr_left fun p hp => ?_
  show (if p = z.1.2.1 then PyData.int (awayZ zs z.1.2.1 - z.2) else if p = z.1.1 then PyData.int (awayZ zs z.1.1 + z.2) else PyData.int (awayZ zs p)) = PyData.int (awayZ (zs ++ [z]) p)
  rw [away_snoc]
  by_cases c2 : z.1.2.1 = p
  · rw [if_pos c2.symm, if_neg (fun e => ne (e.trans c2.symm)), if_pos c2, c2]
    congr 1
    omega
  · rw [if_neg (fun e => c2 e.symm), if_neg c2]
    by_cases c1 : z.1.1 = p
    · rw [if_pos c1.symm, if_pos c1, c1]
      congr 1
      omega
    · rw [if_neg (fun e => c1 e.symm), if_neg c1]
      congr 1
      omega
theorem ixN_left {n : Int} {l : Nat} {i : Int} (hl : l = n.toNat) (h : 0 ≤ i ∧ i < n) : ixN l i = some i.toNat := by
  unfold ixN
  rw [if_pos h.1, if_pos (by omega)]
end K27
namespace K52
open PySem PySem.Spec PyProof.Rows L2 Evl DL
open WL
open K27 (asRow awayI awayZ goes asRow_row intsOf_all zD zip_ci leftZ left_at left_len left_step ixN_left)
theorem pu_are_integers : Pure ["value", "number"] 1 ph_are_integers ds_are_integers := by
  intro ss μ Q' hl h
  obtain ⟨s, ds, rfl, hs, hd, h⟩ := h
  have key : ∀ s : Sl, Sq μ s ds → (dRet (dCB fAll (aCons (dLc (iSeq (dVar 0)) (gN 1) dYes (dCall 1 WL.ph_is_integer (aCons (dVar 1) aNil)) [1]) aNil))) ⟨fun _ μ' => finQ μ.length Q' (.dat .none) μ', finQ μ.length Q', fun _ _ => False, fun _ _ => False⟩ [some s, none] μ := fun s hs => by
    obtain ⟨C, c0, c1, ci⟩ := iSeq_ok (i := 0) (ρ := [some s, none]) (μ := μ) rfl hs
    have L := fun Q => lc_map (g := gN 1) (e := dCall 1 WL.ph_is_integer (aCons (dVar 1) aNil)) (vs := [1]) (Q := Q) (fun d => PyData.bool (isW d)) ci (fun _ => c1 _) (sz hd) (fun x hx acc R => by
      simp [wipeD])
    have e : (ds.map fun d => PyData.bool (isW d)) = (ds.map isW).map PyData.bool := by rw [List.map_map]; rfl
    rw [e] at L
    have e2 : (ds.map isW).all id = ds.all isW := by rw [List.all_map]; rfl
    simpa [startD, L, e2, -List.map_map, -List.all_map] using h
  rcases hs with rfl | rfl
  · exact key _ .dt
  · exact key _ .dl
section
variable {μ : Mu} {Q : DQ} {n p : Int} {ts : List T3} {d : PyData} {xs : List Int} {ds : List PyData} {k : Nat}
theorem c_are_integersT : ph_are_integers [.dat (.tuple ds)] μ Q = (ds.length ≤ 1000 ∧ Q (.dat (.bool (ds.all isW))) μ) := propext ⟨fun ⟨_, _, e, e2, h⟩ => by
  cases e
  rcases e2 with e2 | e2 <;> cases e2
  exact h, fun h => ⟨_, _, rfl, .inl rfl, h⟩⟩
end
theorem turn_cases {ts : List T3} (d : PyData) : (tupOfB d (ts.length : Int) = false ∧ turnB ts d = false) ∨ ∃ ds, d = .tuple ds ∧ ds.length = ts.length ∧ tupOfB d (ts.length : Int) = true ∧ ((ds.all isW = false ∧ turnB ts d = false) ∨ ∃ xs, d = rowI xs ∧ ds = xs.map PyData.int ∧ xs.length = ts.length ∧ ds.all isW = true ∧ turnB ts d = (ts.zip xs).all fitT) := by
  cases d with
  | tuple ds =>
    by_cases h : ds.length = ts.length
    · right
      refine ⟨ds, rfl, h, by simp [tupOfB, h], ?_⟩
      cases g : ds.all isW
      · left
        refine ⟨rfl, ?_⟩
        simp [turnB, asRow, intsOf_all.2 g]
      · right
        obtain ⟨xs, e1, e2⟩ := intsOf_all.1 g
        have hl : xs.length = ts.length := by rw [← h, e2, List.length_map]
        refine ⟨xs, by rw [e2]; rfl, e2, hl, rfl, ?_⟩
        simp [turnB, asRow, e1, hl]
    · left
      refine ⟨by simp only [tupOfB]; exact decide_eq_false (by omega), ?_⟩
      cases g : ds.all isW
      · simp [turnB, asRow, intsOf_all.2 g]
      · obtain ⟨xs, e1, e2⟩ := intsOf_all.1 g
        have hl : ¬ xs.length = ts.length := by rw [e2, List.length_map] at h; exact h
        simp [turnB, asRow, e1, hl]
  | _ => exact .inl ⟨rfl, rfl⟩
end K52
namespace WL
open PySem PySem.Spec PyProof.Rows L2 Evl DL
section
variable {k m : Nat} {μ ν ν0 ν' : Mu} {cs : List Cell} {c d : Cell} {Q : DQ}
end
section
variable {k m : Nat} {ν0 : Mu} {cs : List Cell} {c d e : Cell} {Q : DQ}
end
end WL
namespace WL
open PySem PySem.Spec PyProof.Rows L2 Evl DL
end WL
namespace WL
open PySem PySem.Spec PyProof.Rows L2 Evl DL
def tieIx (ts : List T3) (a b : Int) : Nat := (ts.map two).idxOf (if a < b then (a, b) else (b, a))
def Tied (ts : List T3) (a b : Int) : Prop := (if a < b then (a, b) else (b, a)) ∈ ts.map two
instance (ts : List T3) (a b : Int) : Decidable (Tied ts a b) := inferInstanceAs (Decidable (_ ∈ _))
def nexts : List Int → List (Int × Int)
  | a :: b :: r => (a, b) :: nexts (b :: r)
  | _ => []
def stepI (ts : List T3) (p : Int × Int) : Int × Int := ((tieIx ts p.1 p.2 : Nat), if p.1 < p.2 then 1 else -1)
def ph_signed_steps : DF := fun ss μ Q => ∃ n ts xs, ss = [.dat (webD n ts), .dat (rowI xs)] ∧ ((ts.map two).Nodup ∧ ts.length ≤ 100 ∧ xs.length ≤ 100 ∧ ∀ p ∈ nexts xs, Tied ts p.1 p.2) ∧ Q (.dat (.list (((nexts xs).map (stepI ts)).map pairD))) μ
def Goes (ts : List T3) (sp : List (Int × Int)) (a b : Int) : Prop := ∃ z ∈ ts.zip sp, (z.1.1 = a ∧ z.1.2.1 = b ∧ 0 < z.2.1) ∨ (z.1.2.1 = a ∧ z.1.1 = b ∧ 0 < z.2.2)
inductive Come (ts : List T3) (sp : List (Int × Int)) (a : Int) : Int → Prop
  | here : Come ts sp a a
  | on {b c : Int} : Come ts sp a b → Goes ts sp b c → Come ts sp a c
structure OpenW (ts : List T3) (sp : List (Int × Int)) (a b : Int) (w : List Int) : Prop where
  nd : w.Nodup
  first : w.head? = some a
  last : w.getLast? = some b
  goes : ∀ p ∈ nexts w, Goes ts sp p.1 p.2
def ph_open_way : DF := fun ss μ Q => ∃ n ts sp a b, ss = [.dat (webD n ts), .dat (.list (sp.map pairD)), .dat (.int a), .dat (.int b)] ∧ (WebOk n ts ∧ sp.length = ts.length ∧ (0 ≤ a ∧ a < n) ∧ a ≠ b) ∧
  ∀ w : List Int, (w = [] ∧ ¬ Come ts sp a b ∨ OpenW ts sp a b w ∧ ∀ x ∈ w, 0 ≤ x ∧ x < n) → Q (.dat (rowI w)) μ
structure Camed (ok : Int → Int → Prop) (a : Int) (cs : List (Int × Option Int)) : Prop where
  nd : (cs.map (·.1)).Nodup
  head : cs.head? = some (a, none)
  par : ∀ (i : Nat) (x : Int) (q : Option Int), cs[i]? = some (x, q) → (i = 0 ∧ q = none) ∨ ∃ (p : Int) (j : Nat) (q' : Option Int), q = some p ∧ j < i ∧ cs[j]? = some (p, q') ∧ ok p x
def atSum (ts : List T3) (p : Int) : Int := ((ts.filter fun t => decide (p = t.1) || decide (p = t.2.1)).map (·.2.2)).sum
def ph_summed_at : DF := fun ss μ Q => ∃ ts p, ss = [.dat (tiesD ts), .dat (.int p)] ∧ ts.length ≤ 100 ∧ Q (.dat (.int (atSum ts p))) μ
end WL
namespace WL
open PySem PySem.Spec PyProof.Rows L2 Evl DL
def ph_are_integers : DF := K52.ph_are_integers
structure WayOk (ts : List T3) (xs : List Int) : Prop where
  two_ : 2 ≤ xs.length
  nd : xs.Nodup
  on : ∀ p ∈ nexts xs, Tied ts p.1 p.2
instance (ts : List T3) (xs : List Int) : Decidable (WayOk ts xs) := decidable_of_iff (2 ≤ xs.length ∧ xs.Nodup ∧ ∀ p ∈ nexts xs, Tied ts p.1 p.2) ⟨fun ⟨a, b, c⟩ => ⟨a, b, c⟩, fun ⟨a, b, c⟩ => ⟨a, b, c⟩⟩
def alongT (ts : List T3) (xs : List Int) : List Int := (nexts xs).map fun p => ((tieIx ts p.1 p.2 : Nat) : Int)
end WL
namespace WL
open PySem PySem.Spec PyProof.Rows L2 Evl DL
def ds_are_integers : DS := (dRet (dCB fAll (aCons (dLc (iSeq (dVar 0)) (gN 1) dYes (dCall 1 ph_is_integer (aCons (dVar 1) aNil)) [1]) aNil)))
end WL
namespace WL
open PySem PySem.Spec PyProof.Rows L2 Evl DL
end WL
namespace WL
open PySem PySem.Spec PyProof.Rows L2 Evl DL
open K27 (awayI goes zD zw_ties)
section
variable {n : Int} {ts : List T3} {μ : Mu} {Q : DQ}
end
end WL
namespace WL
open PySem PySem.Spec PyProof.Rows L2 Evl DL
theorem pu_are_integers : Pure ["value", "number"] 1 ph_are_integers ds_are_integers := K52.pu_are_integers
theorem WebOk.nd {n : Int} {ts : List T3} (h : WebOk n ts) : (ts.map two).Nodup := by
  refine List.pairwise_map.mpr (h.rows.up.imp fun {a b} l e => ?_)
  rw [e] at l
  unfold lexP at l
  omega
end WL
namespace K11
open PySem PySem.Spec PyProof.Rows L2 Evl DL
open WL
open TL (numL tl tl_num numL_digits numL_lt numL_step numL_ne numL_val tl_append ext_tl len_tl int_num numL_len)
def rat (n u : Int) : PyData := .tuple [.int n, .int u]
def gcdI (n u : Int) : Int := ((Nat.gcd n.natAbs u.natAbs : Nat) : Int)
def IsR (n u : Int) : Prop := 1 ≤ u ∧ gcdI n u = 1
instance (n u : Int) : Decidable (IsR n u) := inferInstanceAs (Decidable (_ ∧ _))
def ratB : PyData → Bool
  | .tuple [.int n, .int u] => decide (IsR n u)
  | _ => false
def rowB : PyData → Bool
  | .tuple ds => decide (1 ≤ (ds.length : Int)) && (decide ((ds.length : Int) ≤ 40) && ds.all isW)
  | _ => false
def Dg (n : Int) : Prop := n.natAbs < 10 ^ 60
def T (l : List Nat) : Str := ⟨l.toArray⟩
def ratL (n u : Int) : List Nat := (if n < 0 then [45] else []) ++ (numL n.natAbs ++ (if u = 1 then [] else 47 :: numL u.natAbs))
def isDg (c : Nat) : Bool := decide (48 ≤ c) && decide (c ≤ 57)
def digE (l : List Nat) (b : Nat) : Nat := if l[b]? = some 48 then b + 1 else b + ((l.drop b).takeWhile isDg).length
def ph_check_text : DF := fun ss μ Q => ∃ z, ss = [.dat (.str z)] ∧ Q (.dat .none) μ
def ph_is_ratio : DF := fun ss μ Q => ∃ d, ss = [.dat d] ∧ Q (.dat (.bool (ratB d))) μ
def ph_check_ratio : DF := fun ss μ Q => ∃ n u, ss = [.dat (rat n u)] ∧ IsR n u ∧ Q (.dat .none) μ
def ph_reduced : DF := fun ss μ Q => ∃ n u, ss = [.dat (.int n), .dat (.int u)] ∧ IsR n u ∧ Q (.dat (rat n u)) μ
def ph_count_text : DF := fun ss μ Q => ∃ n : Int, ss = [.dat (.int n)] ∧ (0 ≤ n ∧ Dg n) ∧ Q (.dat (.str (T (numL n.toNat)))) μ
def ph_law_common : DF := fun ss μ Q => ∃ a b, ss = [.dat (.int a), .dat (.int b)] ∧ (Sm 8000 a ∧ Sm 8000 b) ∧ Q (.dat (.int (gcdI a b))) μ
def ph_law_is_whole : DF := ph_is_integer
end K11
namespace K11
open PySem PySem.Spec PyProof.Rows L2 Evl DL
open WL
open TL (numL tl tl_num numL_digits numL_lt numL_step numL_ne numL_val tl_append ext_tl len_tl int_num numL_len)
theorem cps_T (l : List Nat) : (T l).cps.toList = l := rfl
theorem len_T (l : List Nat) : (T l).length = l.length := rfl
theorem gcdI_step (a b : Int) : gcdI b (a - a.fdiv b * b) = gcdI a b := by
  show ((Int.gcd b (a - a.fdiv b * b) : Nat) : Int) = ((Int.gcd a b : Nat) : Int)
  rw [Int.gcd_sub_mul_right_right, Int.gcd_comm]
theorem step_abs (a b : Int) (h : b ≠ 0) : (a - a.fdiv b * b).natAbs < b.natAbs := by
  have e : a - a.fdiv b * b = a.fmod b := by
    rw [Int.fmod_def, Int.mul_comm]
  rw [e]
  by_cases hb : 0 < b
  · have h1 := Int.fmod_lt_of_pos a hb
    have h2 := Int.fmod_nonneg_of_pos a hb
    omega
  · have hb : 0 < -b := by omega
    have h1 := Int.fmod_lt_of_pos (-a) hb
    have h2 := Int.fmod_nonneg_of_pos (-a) hb
    rw [Int.neg_fmod_neg] at h1 h2
    omega
theorem gcdI_zero (a : Int) : gcdI a 0 = (a.natAbs : Int) := by
  unfold gcdI
  rw [Int.natAbs_zero, Nat.gcd_zero_right]
theorem abs_if (a : Int) : (if a < 0 then -a else a) = (a.natAbs : Int) := by
  split <;> omega
structure Rq (w : Nat) (d : PyData) : Prop where
  show_ : d.showable = true
  dict : d.hasDict = false
  leaves : d.leavesShort 64 = true
  wt : d.weight ≤ w
theorem Rq.mono {v w : Nat} {d : PyData} (h : Rq v d) (hv : v ≤ w) : Rq w d := ⟨h.1, h.2, h.3, Nat.le_trans h.4 hv⟩
theorem Rq.okR {w n : Nat} {d : PyData} (h : Rq w d) (hw : w ≤ 2 ^ 16) (s : Sh n d) (hn : n ≤ 64) : okR d := by
  refine ⟨h.1, .inl h.2, Nat.le_trans s.2 hn, ?_⟩
  have z := PyData.shown_le 64 (by decide) d h.3
  have e : (2 : Nat) ^ 16 = 65536 := by decide
  have h4 := h.4
  have h2 : (64 + 2) * d.weight ≤ 66 * 65536 := Nat.mul_le_mul (by omega) (by omega)
  rw [sizeLine_eq]
  omega
theorem Rq.int {i : Int} (h : Dg i) : Rq 300 (.int i) := by
  refine ⟨?_, by simp only [PyData.hasDict], ?_, ?_⟩
  · simp only [PyData.showable]
    refine decide_eq_true ?_
    by_cases h0 : i.natAbs = 0
    · rw [h0]; decide
    · have : i.natAbs.log2 < 200 := (Nat.log2_lt h0).mpr (Nat.lt_trans h (by decide))
      omega
  · simp only [PyData.leavesShort]
    refine decide_eq_true ?_
    have e := int_text_length_le10 (k := 60) (by decide) h
    show (PySem.Str.ofString (toString i)).length ≤ 64
    rw [PyProof.Rows.ofString_length]
    have e2 : (toString i).toList.length ≤ 61 := e
    omega
  · simp only [PyData.weight]
    split
    · exact Nat.zero_le _
    · rename_i h0
      have : i.natAbs ≠ 0 := fun z => h0 (by rw [Int.natAbs_eq_zero.mp z]; rfl)
      have : i.natAbs.log2 < 200 := (Nat.log2_lt this).mpr (Nat.lt_trans h (by decide))
      omega
theorem Rq.bool {b : Bool} : Rq 0 (.bool b) := ⟨by simp only [PyData.showable], by simp only [PyData.hasDict], by simp only [PyData.leavesShort], by simp only [PyData.weight]; exact Nat.le_refl _⟩
theorem Rq.none : Rq 0 .none := ⟨by simp only [PyData.showable], by simp only [PyData.hasDict], by simp only [PyData.leavesShort], by simp only [PyData.weight]; exact Nat.le_refl _⟩
theorem Rq.all {w : Nat} : ∀ {ds : List PyData}, (∀ d ∈ ds, Rq w d) → PyData.showableAll ds = true ∧ PyData.hasDictAll ds = false ∧ PyData.leavesShortAll 64 ds = true ∧ PyData.weightAll ds ≤ ds.length * (w + 1)
  | [], _ => by simp only [PyData.showableAll, PyData.hasDictAll, PyData.leavesShortAll, PyData.weightAll, List.length_nil]; simp
  | d :: r, h => by
    obtain ⟨a, b, c, e⟩ := Rq.all fun x hx => h x (List.mem_cons_of_mem _ hx)
    obtain ⟨a1, b1, c1, e1⟩ := h d (List.mem_cons_self ..)
    simp only [PyData.showableAll, PyData.hasDictAll, PyData.leavesShortAll, PyData.weightAll, List.length_cons, a, b, c, a1, b1, c1, Bool.and_self, Bool.or_self, true_and]
    rw [Nat.add_mul]
    omega
theorem Rq.tup {w m : Nat} {ds : List PyData} (h : ∀ d ∈ ds, Rq w d) (hm : ds.length ≤ m) : Rq (m * (w + 1)) (.tuple ds) := by
  obtain ⟨a, b, c, e⟩ := Rq.all h
  exact ⟨by simp only [PyData.showable]; exact a, by simp only [PyData.hasDict]; exact b, by simp only [PyData.leavesShort]; exact c, by simp only [PyData.weight]; exact Nat.le_trans e (Nat.mul_le_mul_right _ hm)⟩
theorem Rq.list {w m : Nat} {ds : List PyData} (h : ∀ d ∈ ds, Rq w d) (hm : ds.length ≤ m) : Rq (m * (w + 1)) (.list ds) := by
  obtain ⟨a, b, c, e⟩ := Rq.all h
  exact ⟨by simp only [PyData.showable]; exact a, by simp only [PyData.hasDict]; exact b, by simp only [PyData.leavesShort]; exact c, by simp only [PyData.weight]; exact Nat.le_trans e (Nat.mul_le_mul_right _ hm)⟩
end K11
namespace K13
open PySem PySem.Spec PyProof.Rows L2 Evl DL
open WL
open K11 (T rat IsR gcdI Dg isDg digE ratL)
def redN (n u : Int) : Int := n.fdiv (gcdI n u)
def redD (n u : Int) : Int := u.fdiv (gcdI n u)
def phE_digits_end (C : Addr) : DFE := fun ss μ Q R => ∃ (l : List Nat) (b : Nat), ss = [.dat (.str (T l)), .dat (.int (b : Int))] ∧ (b ≤ l.length ∧ l.length ≤ 600) ∧ (digE l b ≠ b → Q (.dat (.int (digE l b : Nat))) μ) ∧ (digE l b = b → R C (PySem.Str.ofString "position") (.dat (.int (b : Nat))) μ)
def ph_reduced : DF := fun ss μ Q => ∃ n u, ss = [.dat (.int n), .dat (.int u)] ∧ (1 ≤ u ∧ Sm 8000 n ∧ Sm 8000 u) ∧ Q (.dat (rat (redN n u) (redD n u))) μ
def ph_law_ratio : DF := ph_reduced
end K13
namespace K11
open PySem PySem.Spec PyProof.Rows L2 Evl DL
def ds_is_ratio : DS := (dSeq (dIfS (dOr (dNot (dTru (dCall 2 WL.ph_is_tuple_of (aCons (dVar 0) (aCons (dC (.int 2)) aNil))))) (dOr (dNot (dTru (dCall 1 WL.ph_is_integer (aCons (dOp rIx (dVar 0) (dC (.int 0))) aNil)))) (dNot (dTru (dCall 1 WL.ph_is_integer (aCons (dOp rIx (dVar 0) (dC (.int 1))) aNil)))))) (dRet (dC (.bool false))) dNext)
    (dSeq (dAsgG (dVar 0) (gT 2 (gsCons (gN 1) (gsCons (gN 2) gsNil))))
    (dRet (dAndV (dOp wGe (dVar 2) (dC (.int 1))) (dOp rEq (dCB fGcd (aCons (dVar 1) (aCons (dVar 2) aNil))) (dC (.int 1)))))))
def ds_law_common : DS := (dSeq (dWhile (dTest (dOp rNe (dVar 1) (dC (.int 0)))) (dPar 0 1 (aCons (dVar 1) (aCons (dOp rSub (dVar 0) (dOp rMul (dOp rDv (dVar 0) (dVar 1)) (dVar 1))) aNil))))
    (dRet (dCB fAbs (aCons (dVar 0) aNil))))
end K11
namespace K13
open PySem PySem.Spec PyProof.Rows L2 Evl DL
def ds_law_ratio : DS := (dSeq (dAsg (dCall 2 K11.ph_law_common (aCons (dVar 0) (aCons (dVar 1) aNil))) 2)
    (dSeq (dIfS (dTest (dOp wLt (dVar 1) (dC (.int 0)))) (dAsg (dUn rNeg (dVar 2)) 2) dNext)
    (dRet (dTup (aCons (dOp rDv (dVar 0) (dVar 2)) (aCons (dOp rDv (dVar 1) (dVar 2)) aNil))))))
end K13
namespace K13
open PySem PySem.Spec PyProof.Rows L2 Evl DL
open WL
open K11 (T rat IsR gcdI Dg isDg digE ratL)
theorem gcd_pos {n u : Int} (h : 1 ≤ u) : 1 ≤ gcdI n u := by
  have : 0 < Nat.gcd n.natAbs u.natAbs := Nat.gcd_pos_of_pos_right _ (by omega)
  unfold gcdI
  omega
theorem gcd_sm {n u : Int} (h : 1 ≤ u) (hs : Sm 8000 u) : Sm 8000 (gcdI n u) := by
  have h1 : Nat.gcd n.natAbs u.natAbs ≤ u.natAbs := Nat.le_of_dvd (by omega) (Nat.gcd_dvd_right ..)
  unfold Sm gcdI
  rw [Int.natAbs_natCast]
  exact Nat.lt_of_le_of_lt h1 hs
theorem cdv_of {i j : Int} (h : 1 ≤ j) (hs : Sm 8000 j) : CDv i j := hs.cdv (by decide) (by omega)
end K13
namespace K11
open PySem PySem.Spec PyProof.Rows L2 Evl DL
open WL
open TL (numL tl tl_num numL_digits numL_lt numL_step numL_ne numL_val tl_append ext_tl len_tl int_num numL_len)
section
variable {μ ν : Mu} {Q : DQ} {n u i j : Int} {l : List Nat} {z y : Str}
theorem sub1 (l : List Nat) (c b : Nat) : (decide (b + (T [c]).length ≤ (T l).length) && (((T l).cps.toList.drop b).take (T [c]).length == (T [c]).cps.toList)) = decide (l[b]? = some c) := by
  rw [len_T, len_T, cps_T, cps_T]
  show (decide (b + 1 ≤ l.length) && ((l.drop b).take 1 == [c])) = _
  rw [← List.head?_drop]
  cases h : l.drop b with
  | nil =>
    have := List.drop_eq_nil_iff.mp h
    rw [decide_eq_false (by omega)]
    rfl
  | cons x r =>
    have hb : b < l.length := by
      refine Nat.lt_of_not_le fun z => ?_
      rw [List.drop_eq_nil_iff.mpr z] at h
      cases h
    rw [decide_eq_true (show b + 1 ≤ l.length from hb)]
    show (x == c && true) = decide (some x = some c)
    rw [Bool.and_true, Bool.beq_eq_decide_eq]
    simp
theorem w_leS : wLe (.dat (.str y)) (.dat (.str z)) μ Q = Q (.dat (.bool (!decide (z.cps.toList < y.cps.toList)))) μ := rfl
theorem o_lenS (h : l.length ≤ 1000) : fLen [.dat (.str (T l))] μ Q = Q (.dat (.int (l.length : Nat))) μ := by
  show ((T l).length ≤ sizeLine ∧ Q (.dat (.int ((T l).length : Nat))) μ) = _
  rw [len_T]
  exact propext ⟨fun z => z.2, fun z => ⟨Nat.le_trans h (by decide), z⟩⟩
theorem o_ixS {b c : Nat} (h : l.length ≤ 1000) (e : l[b]? = some c) : DL.rIx (.dat (.str (T l))) (.dat (.int (b : Int))) μ Q = Q (.dat (.str (T [c]))) μ := by
  have a := atI_nat (xs := l) (j := b) e
  show ((T l).length ≤ sizeLine ∧ ∃ c', atI (T l).cps.toList (b : Int) = some c' ∧ Q (.dat (.str ⟨#[c']⟩)) μ) = _
  rw [len_T, cps_T, a]
  exact propext ⟨fun ⟨_, c', e, q⟩ => by cases e; exact q, fun q => ⟨Nat.le_trans h (by decide), c, rfl, q⟩⟩
theorem o_sw3 {b c : Nat} (hb : b ≤ l.length) : mSw3 (.dat (.str (T l))) [.dat (.str (T [c])), .dat (.int (b : Int))] μ Q = Q (.dat (.bool (decide (l[b]? = some c)))) μ := by
  show Q (.dat (.bool (Txt.startswith3 (T l) (T [c]) (b : Int)))) μ = _
  have e : Txt.startswith3 (T l) (T [c]) (b : Int) = decide (l[b]? = some c) := by
    unfold Txt.startswith3
    have f : fromIndex (T l).length (b : Int) = b := by
      unfold fromIndex
      rw [len_T]
      omega
    rw [f, StrLaws.subAt_eq]
    exact sub1 l c b
  rw [e]
theorem o_sw {c : Nat} : mSw (.dat (.str (T l))) [.dat (.str (T [c]))] μ Q = Q (.dat (.bool (decide (l[0]? = some c)))) μ := by
  show Q (.dat (.bool (Txt.startswith (T l) (T [c])))) μ = _
  have e : Txt.startswith (T l) (T [c]) = decide (l[0]? = some c) := by
    unfold Txt.startswith
    rw [StrLaws.subAt_eq]
    exact sub1 l c 0
  rw [e]
theorem dig_of (c : Nat) : (!decide ((T [c]).cps.toList < (T [48]).cps.toList) && !decide ((T [57]).cps.toList < (T [c]).cps.toList)) = isDg c := by
  show (!decide ([c] < [48]) && !decide ([57] < [c])) = (decide (48 ≤ c) && decide (c ≤ 57))
  have h1 : ([c] < [48]) ↔ c < 48 := by simp [List.cons_lt_cons_iff]
  have h2 : ([57] < [c]) ↔ 57 < c := by simp [List.cons_lt_cons_iff]
  by_cases a : c < 48
  · rw [decide_eq_true (h1.mpr a), decide_eq_false (show ¬ 48 ≤ c by omega)]
    rfl
  · rw [decide_eq_false (fun z => a (h1.mp z)), decide_eq_true (show 48 ≤ c by omega)]
    by_cases b : 57 < c
    · rw [decide_eq_true (h2.mpr b), decide_eq_false (show ¬ c ≤ 57 by omega)]
      rfl
    · rw [decide_eq_false (fun z => b (h2.mp z)), decide_eq_true (show c ≤ 57 by omega)]
      rfl
theorem dig_chain {c : Nat} {R : Bool → Mu → Prop} {ρ : Rho} {d : DE} (hd : ∀ R : DQ, d ρ μ R = R (.dat (.str (T [c]))) μ) : dTest (dChain wLe wLe (dC (.str (PySem.Str.ofString "0"))) d (dC (.str (PySem.Str.ofString "9")))) ρ μ R = R (isDg c) μ := by
  have h0 : PySem.Str.ofString "0" = T [48] := rfl
  have h9 : PySem.Str.ofString "9" = T [57] := rfl
  rw [← dig_of c, h0, h9]
  simp only [e_dTest, dChain, e_dC, hd, w_leS]
  cases decide ((T [c]).cps.toList < (T [48]).cps.toList) <;> simp
@[simp ↓ high] theorem dig_at {b : Nat} {R : Bool → Mu → Prop} {s1 : Option Sl} (hl : l.length ≤ 1000) (hb : b < l.length) : dTest (dChain wLe wLe (dC (.str (PySem.Str.ofString "0"))) (dOp DL.rIx (dVar 0) (dVar 2)) (dC (.str (PySem.Str.ofString "9")))) [some (.dat (.str (T l))), s1, some (.dat (.int (b : Int)))] μ R = R (isDg (l.getD b 0)) μ := by
  have hc : l[b]? = some (l.getD b 0) := by
    rw [List.getD_eq_getElem?_getD, List.getElem?_eq_getElem hb]
    rfl
  exact dig_chain fun R => by
    simp only [e_dOp, e_dVar, List.getElem?_cons_zero, List.getElem?_cons_succ]
    exact o_ixS hl hc
theorem digits_loop {D : DEnds} {s1 : Option Sl} (hl : l.length ≤ 1000) (k : D.nx [some (.dat (.str (T l))), s1, some (.dat (.int ((i.toNat + ((l.drop i.toNat).takeWhile isDg).length : Nat) : Int)))] μ) (h0 : 0 ≤ i) :
    ∀ (m b : Nat), l.length - b < m → i.toNat ≤ b → b ≤ l.length → i.toNat + ((l.drop i.toNat).takeWhile isDg).length = b + ((l.drop b).takeWhile isDg).length →
    whileD (dAnd (dTest (dOp wLt (dVar 2) (dCB fLen (aCons (dVar 0) aNil)))) (dTest (dChain wLe wLe (dC (.str (PySem.Str.ofString "0"))) (dOp DL.rIx (dVar 0) (dVar 2)) (dC (.str (PySem.Str.ofString "9"))))))
      (dAug 2 rIadd (dC (.int 1))) D m [some (.dat (.str (T l))), s1, some (.dat (.int (b : Int)))] μ
  | 0, b, h, _, _, _ => absurd h (Nat.not_lt_zero _)
  | m + 1, b, h, hi, hb, e => by
    have L : ∀ (Q : DQ), fLen [.dat (.str (T l))] μ Q = Q (.dat (.int (l.length : Nat))) μ := fun Q => o_lenS hl
    by_cases c : b < l.length
    · have gd : l.getD b 0 = l[b] := by
        rw [List.getD_eq_getElem?_getD, List.getElem?_eq_getElem c]
        rfl
      rw [List.drop_eq_getElem_cons c, List.takeWhile_cons] at e
      cases g : isDg l[b] with
      | true =>
        rw [g] at e
        have ih := digits_loop hl k h0 m (b + 1) (by omega) (by omega) (by omega) (by rw [e]; simp; omega)
        simp [whileD, ↓L, hl, gd, g, c, dAug, rIadd, -List.getD_eq_getElem?_getD]
        exact ih
      | false =>
        rw [g] at e
        replace e : i.toNat + ((l.drop i.toNat).takeWhile isDg).length = b := e
        rw [e] at k
        simp [whileD, ↓L, hl, gd, g, c, -List.getD_eq_getElem?_getD]
        exact k
    · have : b = l.length := by omega
      subst this
      rw [List.drop_length] at e
      rw [e] at k
      simp [whileD, ↓L]
      exact k
theorem e_dMtS {m : DM} {a : DE} {as : DA} {ρ : Rho} : dMtS m a as ρ μ Q = a ρ μ fun x μ1 => (∃ z, x = .dat (.str z)) ∧ as ρ μ1 fun ss μ2 => m x ss μ2 Q := rfl
end
end K11
namespace K11
open PySem PySem.Spec PyProof.Rows L2 Evl DL
open WL
open TL (numL tl tl_num numL_digits numL_lt numL_step numL_ne numL_val tl_append ext_tl len_tl int_num numL_len)
section
variable {μ ν : Mu} {Q : DQ} {n u i j : Int} {l : List Nat} {z y : Str} {d : PyData}
theorem rat_inj {a b c d : Int} (h : rat a b = rat c d) : a = c ∧ b = d := by cases h; exact ⟨rfl, rfl⟩
@[simp ↓] theorem c_check_text : ph_check_text [.dat (.str z)] μ Q = Q (.dat .none) μ := propext ⟨fun ⟨_, e, h⟩ => by cases e; exact h, fun h => ⟨_, rfl, h⟩⟩
@[simp ↓] theorem c_is_ratio : ph_is_ratio [.dat d] μ Q = Q (.dat (.bool (ratB d))) μ := propext ⟨fun ⟨_, e, h⟩ => by cases e; exact h, fun h => ⟨_, rfl, h⟩⟩
@[simp ↓] theorem c_check_ratio : ph_check_ratio [.dat (rat n u)] μ Q = (IsR n u ∧ Q (.dat .none) μ) := propext ⟨fun ⟨_, _, e, h⟩ => by
  obtain ⟨rfl, rfl⟩ := rat_inj (dr_inj e).1
  exact h, fun h => ⟨_, _, rfl, h⟩⟩
@[simp ↓] theorem c_reduced : ph_reduced [.dat (.int n), .dat (.int u)] μ Q = (IsR n u ∧ Q (.dat (rat n u)) μ) := propext ⟨fun ⟨_, _, e, h⟩ => by cases e; exact h, fun h => ⟨_, _, rfl, h⟩⟩
@[simp ↓] theorem c_count_text : ph_count_text [.dat (.int n)] μ Q = ((0 ≤ n ∧ Dg n) ∧ Q (.dat (.str (T (numL n.toNat)))) μ) := propext ⟨fun ⟨_, e, h⟩ => by cases e; exact h, fun h => ⟨_, rfl, h⟩⟩
end
end K11
namespace K11
open PySem PySem.Spec PyProof.Rows L2 Evl DL
open WL
open TL (numL tl tl_num numL_digits numL_lt numL_step numL_ne numL_val tl_append ext_tl len_tl int_num numL_len)
section
variable {μ ν : Mu} {Q : DQ} {n u i j : Int} {l : List Nat} {z y : Str} {d : PyData}
def sgL (n : Int) : List Nat := if n < 0 then [45] else []
end
end K11
namespace K52
open PySem PySem.Spec PyProof.Rows L2 Evl DL
open WL
open K27 (asRow awayI awayZ goes asRow_row intsOf_all zD zip_ci leftZ left_at left_len left_step ixN_left away_snoc)
theorem sur_len {n : Int} {ts : List T3} {xs : List Int} (hw : WebOk n ts) : ((surI n ts xs).length : Int) = n := by
  have := hw.lo
  unfold surI placesL
  rw [List.length_map, List.length_map, List.length_range]
  omega
end K52
namespace K52
open PySem PySem.Spec PyProof.Rows L2 Evl DL
open WL
open K27 (asRow awayI awayZ goes asRow_row intsOf_all zD zip_ci leftZ left_at left_len left_step ixN_left away_snoc)
theorem turn_form {ts : List T3} {d : PyData} (h : turnB ts d = true) : ∃ xs, d = rowI xs ∧ xs.length = ts.length := by
  rcases turn_cases (ts := ts) d with ⟨t0, f0⟩ | ⟨ds, e0, hl2, t1, ⟨a0, f0⟩ | ⟨xs, e1, e2, hx, a1, f1⟩⟩
  · rw [f0] at h; cases h
  · rw [f0] at h; cases h
  · exact ⟨xs, e1, hx⟩
section
variable {μ : Mu} {Q : DQ} {n p : Int} {ts : List T3} {d : PyData} {xs : List Int} {ds : List PyData} {k : Nat}
theorem c_check_surplus {s : Sl} (hs : Sq1 s xs) : ph_check_surplus [.dat (webD n ts), s] μ Q = (((xs.length : Int) = n ∧ n ≤ 8 ∧ xs.sum = 0) ∧ Q (.dat .none) μ) := propext ⟨fun ⟨_, _, t, ys, e, hy, h⟩ => by
  obtain ⟨e1, e2⟩ := dr_inj e
  obtain ⟨rfl, rfl⟩ := webD_inj e1
  cases (List.cons.inj e2).1
  cases sq1_inj hs hy
  exact h, fun h => ⟨_, _, _, _, rfl, hs, h⟩⟩
end
theorem eq_ints {as bs : List Int} {μ : Mu} {Q : DQ} : DL.rEq (.dat (intsL as)) (.dat (intsL bs)) μ Q = Q (.dat (.bool (decide (as = bs)))) μ := by
  have e : PyData.eqv (intsL as) (intsL bs) = decide (as = bs) := by
    unfold intsL
    simp only [PyData.eqv]
    exact eqv_ints as bs
  show ((SeqAt.shaped (intsL as) = true ∧ SeqAt.shaped (intsL bs) = true) ∧ Q (.dat (.bool (PyData.eqv (intsL as) (intsL bs)))) μ) = _
  rw [e]
  exact propext ⟨fun z => z.2, fun z => ⟨⟨(sh_ints (c := as)).ok (by decide), (sh_ints (c := bs)).ok (by decide)⟩, z⟩⟩
end K52
namespace K52
open PySem PySem.Spec PyProof.Rows L2 Evl DL
open WL
open K27 (asRow awayI awayZ goes asRow_row intsOf_all zD zip_ci leftZ left_at left_len left_step ixN_left away_snoc)
end K52
namespace K17
open PySem PySem.Spec PyProof.Rows L2 Evl DL
open WL
def LS (s : Sl) (ts : List T3) : Prop := s = .dat (.list (ts.map tieD)) ∨ s = .dat (tiesD ts)
structure OrdL (n : Int) (o : List Int) : Prop where
  nd : o.Nodup
  rg : ∀ p ∈ o, 0 ≤ p ∧ p < n
  all : ∀ p, 0 ≤ p → p < n → p ∈ o
  len : (o.length : Int) = n
def atB (p : Int) (t : T3) : Bool := decide (p ∈ [t.1, t.2.1])
def sumAt (ts : List T3) (p : Int) : Int := ((ts.filter (atB p)).map (·.2.2)).sum
def roomB (ts : List T3) (p q : Int) : Int := ((ts.filter fun t => decide (farI t p = some q)).map (·.2.2)).sum
def ph_are_integers : DF := fun ss μ Q => ∃ s c, ss = [s] ∧ Sq1 s c ∧ SmallL c ∧ Q (.dat (.bool true)) μ
def ph_is_traffic : DF := fun ss μ Q => ∃ n ts ws, ss = [.dat (webD n ts), .dat (tiesD ws)] ∧ (WebOk n ts ∧ RowsOk 6 n ws) ∧ Q (.dat (.bool true)) μ
def ph_check_wishes : DF := fun ss μ Q => ∃ n ts ws, ss = [.dat (webD n ts), .dat (tiesD ws)] ∧ RowsOk 6 n ws ∧ Q (.dat .none) μ
def ph_check_traffic : DF := fun ss μ Q => ∃ n ts ws, ss = [.dat (webD n ts), .dat (tiesD ws)] ∧ (WebOk n ts ∧ RowsOk 6 n ws) ∧ Q (.dat .none) μ
def ph_room_between : DF := fun ss μ Q => ∃ n ts p q, ss = [.dat (webD n ts), .dat (.int p), .dat (.int q)] ∧ (WebOk n ts ∧ (0 ≤ p ∧ p < n) ∧ (0 ≤ q ∧ q < n)) ∧ Q (.dat (.int (roomB ts p q))) μ
def ph_summed_at : DF := fun ss μ Q => ∃ ts p, ss = [.dat (tiesD ts), .dat (.int p)] ∧ ts.length ≤ 100 ∧ Q (.dat (.int (sumAt ts p))) μ
def ph_room_at : DF := fun ss μ Q => ∃ n ts p, ss = [.dat (webD n ts), .dat (.int p)] ∧ (WebOk n ts ∧ (0 ≤ p ∧ p < n)) ∧ Q (.dat (.int (sumAt ts p))) μ
def ph_wish_at : DF := fun ss μ Q => ∃ n ts ws p, ss = [.dat (webD n ts), .dat (tiesD ws), .dat (.int p)] ∧ (WebOk n ts ∧ RowsOk 6 n ws ∧ (0 ≤ p ∧ p < n)) ∧ Q (.dat (.int (sumAt ws p))) μ
end K17
namespace K17
open PySem PySem.Spec PyProof.Rows L2 Evl DL
end K17
namespace K17
open PySem PySem.Spec PyProof.Rows L2 Evl DL
open WL
section
variable {μ : Mu} {Q : DQ} {n p q : Int} {ts ws : List T3} {c o : List Int} {s : Sl}
theorem ww_inj {n' : Int} {ts' ws' : List T3} (e : [Sl.dat (webD n ts), .dat (tiesD ws)] = [.dat (webD n' ts'), .dat (tiesD ws')]) : n = n' ∧ ts = ts' ∧ ws = ws' := by
  obtain ⟨e1, e2⟩ := dr_inj e
  obtain ⟨rfl, rfl⟩ := webD_inj e1
  cases tiesD_inj (dr_inj e2).1
  exact ⟨rfl, rfl, rfl⟩
theorem wi_inj {n' p' : Int} {ts' : List T3} (e : [Sl.dat (webD n ts), .dat (.int p)] = [.dat (webD n' ts'), .dat (.int p')]) : n = n' ∧ ts = ts' ∧ p = p' := by
  obtain ⟨e1, e2⟩ := dr_inj e
  obtain ⟨rfl, rfl⟩ := webD_inj e1
  cases e2
  exact ⟨rfl, rfl, rfl⟩
theorem LS.sq (h : LS s ts) : Sq μ s (ts.map tieD) := by
  rcases h with rfl | rfl
  · exact .dl
  · exact .dt
theorem c_are_integers (h : Sq1 s c) : ph_are_integers [s] μ Q = (SmallL c ∧ Q (.dat (.bool true)) μ) := propext ⟨fun ⟨_, _, e, h', g⟩ => by cases (List.cons.inj e).1; cases sq1_inj h h'; exact g, fun g => ⟨_, _, rfl, h, g⟩⟩
@[simp ↓] theorem c_are_tie {t : T3} : ph_are_integers [.dat (tieD t)] μ Q = Q (.dat (.bool true)) μ := (c_are_integers (c := tl t) (.inl rfl)).trans (propext ⟨fun z => z.2, fun z => ⟨by unfold SmallL tl; simp, z⟩⟩)
@[simp ↓] theorem c_check_wishes : ph_check_wishes [.dat (webD n ts), .dat (tiesD ws)] μ Q = (RowsOk 6 n ws ∧ Q (.dat .none) μ) := propext ⟨fun ⟨_, _, _, e, h⟩ => by obtain ⟨rfl, rfl, rfl⟩ := ww_inj e; exact h, fun h => ⟨_, _, _, rfl, h⟩⟩
@[simp ↓] theorem c_check_traffic : ph_check_traffic [.dat (webD n ts), .dat (tiesD ws)] μ Q = ((WebOk n ts ∧ RowsOk 6 n ws) ∧ Q (.dat .none) μ) := propext ⟨fun ⟨_, _, _, e, h⟩ => by obtain ⟨rfl, rfl, rfl⟩ := ww_inj e; exact h, fun h => ⟨_, _, _, rfl, h⟩⟩
@[simp ↓] theorem c_is_traffic : ph_is_traffic [.dat (webD n ts), .dat (tiesD ws)] μ Q = ((WebOk n ts ∧ RowsOk 6 n ws) ∧ Q (.dat (.bool true)) μ) := propext ⟨fun ⟨_, _, _, e, h⟩ => by obtain ⟨rfl, rfl, rfl⟩ := ww_inj e; exact h, fun h => ⟨_, _, _, rfl, h⟩⟩
@[simp ↓] theorem c_summed_at : ph_summed_at [.dat (tiesD ts), .dat (.int p)] μ Q = (ts.length ≤ 100 ∧ Q (.dat (.int (sumAt ts p))) μ) := propext ⟨fun ⟨_, _, e, h⟩ => by
  obtain ⟨e1, e2⟩ := dr_inj e
  cases tiesD_inj e1
  cases e2
  exact h, fun h => ⟨_, _, rfl, h⟩⟩
@[simp ↓] theorem c_room_at : ph_room_at [.dat (webD n ts), .dat (.int p)] μ Q = ((WebOk n ts ∧ (0 ≤ p ∧ p < n)) ∧ Q (.dat (.int (sumAt ts p))) μ) := propext ⟨fun ⟨_, _, _, e, h⟩ => by obtain ⟨rfl, rfl, rfl⟩ := wi_inj e; exact h, fun h => ⟨_, _, _, rfl, h⟩⟩
end
end K17
namespace K17
open PySem PySem.Spec PyProof.Rows L2 Evl DL
open WL
end K17
namespace K17
open PySem PySem.Spec PyProof.Rows L2 Evl DL
open WL
theorem OrdL.small {n : Int} {o : List Int} (h : OrdL n o) (hn : n ≤ 8) : o.length ≤ 8 := by
  have := h.len
  omega
end K17
namespace K17
open PySem PySem.Spec PyProof.Rows L2 Evl DL
open WL
end K17
namespace K17
open PySem PySem.Spec PyProof.Rows L2 Evl DL
open WL
end K17
namespace K17
open PySem PySem.Spec PyProof.Rows L2 Evl DL
open WL
end K17
namespace K17
open PySem PySem.Spec PyProof.Rows L2 Evl DL
open WL
end K17
namespace K17
open PySem PySem.Spec PyProof.Rows L2 Evl DL
open WL
section
variable {n p q : Int} {ts ws : List T3} {μ : Mu} {Q : DQ}
@[simp ↓] theorem c_room_between : ph_room_between [.dat (webD n ts), .dat (.int p), .dat (.int q)] μ Q = ((WebOk n ts ∧ (0 ≤ p ∧ p < n) ∧ (0 ≤ q ∧ q < n)) ∧ Q (.dat (.int (roomB ts p q))) μ) := propext ⟨fun ⟨_, _, _, _, e, h⟩ => by
  obtain ⟨e1, e2⟩ := dr_inj e
  obtain ⟨rfl, rfl⟩ := webD_inj e1
  cases e2
  exact h, fun h => ⟨_, _, _, _, rfl, h⟩⟩
@[simp ↓] theorem c_wish_at : ph_wish_at [.dat (webD n ts), .dat (tiesD ws), .dat (.int p)] μ Q = ((WebOk n ts ∧ RowsOk 6 n ws ∧ (0 ≤ p ∧ p < n)) ∧ Q (.dat (.int (sumAt ws p))) μ) := propext ⟨fun ⟨_, _, _, _, e, h⟩ => by
  obtain ⟨e1, e2⟩ := dr_inj e
  obtain ⟨rfl, rfl⟩ := webD_inj e1
  obtain ⟨e3, e4⟩ := dr_inj e2
  cases tiesD_inj e3
  cases e4
  exact h, fun h => ⟨_, _, _, _, rfl, h⟩⟩
end
section
variable {D : DEnds} {n step : Int} {ts ws : List T3} {μ : Mu}
end
end K17
namespace K17
open PySem PySem.Spec PyProof.Rows L2 Evl DL
open WL
theorem any_pair {ps : List (Int × Int)} {p : Int × Int} : ((ps.map WL.pairD).any fun z => PyData.eqv z (WL.pairD p)) = decide (p ∈ ps) := by
  induction ps with
  | nil => rfl
  | cons a r ih =>
    rw [List.map_cons, List.any_cons, ih]
    have e : PyData.eqv (WL.pairD a) (WL.pairD p) = decide (a = p) := by
      have : PyData.eqv (WL.pairD a) (WL.pairD p) = decide ([a.1, a.2] = [p.1, p.2]) := eqv_row (a := [a.1, a.2]) (b := [p.1, p.2])
      rw [this, decide_eq_decide]
      constructor
      · intro z
        simp at z
        exact Prod.ext z.1 z.2
      · intro z
        rw [z]
    rw [e]
    by_cases h : p = a
    · subst h; simp
    · have h' : ¬ a = p := fun z => h z.symm
      simp [h, h']
def pr (fs : List T3) : List PyData := (fs.map two).map WL.pairD
structure FI (n most : Int) (fs : List T3) : Prop where
  nd : (fs.map two).Nodup
  rg : ∀ t ∈ fs, (0 ≤ t.1 ∧ t.1 < t.2.1 ∧ t.2.1 < n) ∧ (1 ≤ t.2.2 ∧ t.2.2 ≤ most)
theorem FI.rows {n most : Int} {m : Nat} {fs : List T3} (h : FI n most fs) (hm : most ≤ 20) (h1 : 1 ≤ fs.length) (h2 : fs.length ≤ m) : RowsOk m n (sortT fs) := by
  have p := sortT_perm fs
  refine ⟨by rw [p.length_eq]; exact h1, by rw [p.length_eq]; exact h2, fun t ht => ?_, sortT_up h.nd⟩
  have := h.rg t (p.mem_iff.mp ht)
  omega
theorem pr_app (fs : List T3) (t : T3) : pr fs ++ [WL.pairD (two t)] = pr (fs ++ [t]) := by simp [pr]
theorem ti_app (fs : List T3) (t : T3) : fs.map tieD ++ [tieD t] = (fs ++ [t]).map tieD := by simp
section
variable {D : DEnds} {k : Nat} {n more most : Int} {μ : Mu}
end
end K17
namespace K17
open PySem PySem.Spec PyProof.Rows L2 Evl DL
open WL
section
variable {D : DEnds} {k : Nat} {n more most : Int} {μ : Mu}
end
end K17
namespace K52
open PySem PySem.Spec PyProof.Rows L2 Evl DL
open WL
open K17 (pr pr_app ti_app FI any_pair)
section
variable {D : DEnds} {k m : Nat} {n : Int} {μ : Mu} {s1 s2 : Option Sl}
end
end K52
namespace K52
open PySem PySem.Spec PyProof.Rows L2 Evl DL
open WL
open K17 (pr pr_app ti_app FI any_pair FI.rows)
end K52
namespace K27
open PySem PySem.Spec PyProof.Rows L2 Evl DL
open WL
section
variable {μ : Mu} {Q : DQ} {n p q : Int} {ts : List T3} {k : Nat} {way : List Int} {much : Int}
end
end K27
namespace K27
open PySem PySem.Spec PyProof.Rows L2 Evl DL
open WL
end K27
namespace K27
open PySem PySem.Spec PyProof.Rows L2 Evl DL
open WL
end K27
namespace K52
open PySem PySem.Spec PyProof.Rows L2 Evl DL
open WL
end K52
namespace K11
open PySem PySem.Spec PyProof.Rows L2 Evl DL
open WL
open TL (numL tl tl_num numL_digits numL_lt numL_step numL_ne numL_val tl_append ext_tl len_tl int_num numL_len)
section
variable {μ ν : Mu} {Q : DQ} {n u i j a b : Int} {l : List Nat} {z y : Str} {d : PyData} {k : Nat} {xs : List Int}
@[simp ↓] theorem c_law_is_whole : ph_law_is_whole [.dat d] μ Q = Q (.dat (.bool (isW d))) μ := c_is_integer
theorem c_law_common : ph_law_common [.dat (.int a), .dat (.int b)] μ Q = ((Sm 8000 a ∧ Sm 8000 b) ∧ Q (.dat (.int (gcdI a b))) μ) := propext ⟨fun ⟨_, _, e, h⟩ => by cases e; exact h, fun h => ⟨_, _, rfl, h⟩⟩
theorem isW_int {d : PyData} (h : isW d = true) : ∃ i, d = .int i := by
  cases d <;> first | exact ⟨_, rfl⟩ | (simp [isW] at h)
theorem pu_is_ratio : Pure ["value", "number", "under"] 1 ph_is_ratio ds_is_ratio := by
  intro ss μ Q' hl h
  obtain ⟨d, rfl, h⟩ := h
  cases d with
  | tuple ds =>
    rcases ds with _ | ⟨x, _ | ⟨y, _ | ⟨z, r⟩⟩⟩
    · simpa [ds_is_ratio, startD, tupOfB, ratB] using h
    · simpa [ds_is_ratio, startD, tupOfB, ratB] using h
    · cases hx : isW x with
      | false =>
        have : ratB (.tuple [x, y]) = false := by cases x <;> first | rfl | (simp [isW] at hx)
        rw [this] at h
        simpa [ds_is_ratio, startD, tupOfB, hx] using h
      | true =>
        obtain ⟨n, rfl⟩ := isW_int hx
        cases hy : isW y with
        | false =>
          have : ratB (.tuple [.int n, y]) = false := by cases y <;> first | rfl | (simp [isW] at hy)
          rw [this] at h
          have wi : isW (.int n) = true := rfl
          simpa [ds_is_ratio, startD, tupOfB, wi, hy] using h
        | true =>
          obtain ⟨u, rfl⟩ := isW_int hy
          have g : ∀ Q : DQ, fGcd [.dat (.int n), .dat (.int u)] μ Q = Q (.dat (.int (gcdI n u))) μ := fun Q => by
            show (_ ∧ Q (.dat (.int ((Nat.gcd n.natAbs u.natAbs : Nat) : Int))) μ) = _
            exact propext ⟨fun z => z.2, fun z => ⟨trivial, z⟩⟩
          by_cases c : 1 ≤ u
          · simp [ds_is_ratio, startD, tupOfB, isW, c, ↓g]
            simpa [ratB, IsR, c] using h
          · simp [ds_is_ratio, startD, tupOfB, isW, c]
            simpa [ratB, IsR, c] using h
    · have : ratB (.tuple (x :: y :: z :: r)) = false := by
        unfold ratB
        split
        · rename_i heq
          cases heq
        · rfl
      rw [this] at h
      have : ¬ ((r.length : Int) + 1 + 1 + 1 = 2) := by omega
      simpa [ds_is_ratio, startD, tupOfB, this] using h
  | _ => simpa [ds_is_ratio, startD, tupOfB, ratB] using h
theorem fdiv_sm {k : Nat} {a b : Int} (h : Sm k a) : Sm k (a.fdiv b) := Nat.lt_of_le_of_lt (Int.natAbs_fdiv_le_natAbs _ _) h
theorem common_loop : ∀ (m : Nat) (a b : Int) (D : DEnds) (μ : Mu), b.natAbs < m → Sm 8000 a → Sm 8000 b → (∀ x : Int, (x.natAbs : Int) = gcdI a b → D.nx [some (.dat (.int x)), some (.dat (.int 0))] μ) →
    whileD (dTest (dOp DL.rNe (dVar 1) (dC (.int 0)))) (dPar 0 1 (aCons (dVar 1) (aCons (dOp DL.rSub (dVar 0) (dOp DL.rMul (dOp DL.rDv (dVar 0) (dVar 1)) (dVar 1))) aNil))) D m [some (.dat (.int a)), some (.dat (.int b))] μ
  | 0, _, _, _, _, hm, _, _, _ => absurd hm (Nat.not_lt_zero _)
  | m + 1, a, b, D, μ, hm, ha, hb, h => by
    by_cases h0 : b = 0
    · subst h0
      simp [whileD]
      exact h a (gcdI_zero a).symm
    · have st := step_abs a b h0
      have ih := common_loop m b (a - a.fdiv b * b) D μ (by omega) hb (show Sm 8000 (a - a.fdiv b * b) from Nat.lt_trans st hb) (fun x e => h x (e.trans (gcdI_step a b)))
      have e2 : CMulW (a.fdiv b) b := (fdiv_sm ha).cmul hb (by decide) (by decide)
      simpa [whileD, h0, e2, hb.cdv (by decide) h0] using ih
theorem pu_law_common : Pure ["one", "other"] 2 ph_law_common ds_law_common := by
  intro ss μ Q' hl h
  obtain ⟨a, b, rfl, ⟨s1, s2⟩, h⟩ := h
  refine ⟨b.natAbs + 1, common_loop _ a b _ μ (Nat.lt_succ_self _) s1 s2 fun x e => ?_⟩
  have := abs_if x
  simp [this, e]
  exact h
end
end K11
namespace K13
open PySem PySem.Spec PyProof.Rows L2 Evl DL
open WL
open K11 (T rat IsR gcdI Dg isDg digE ratL)
section
variable {μ ν : Mu} {Q : DQ} {n u i j : Int} {l : List Nat} {z y : Str} {d : PyData} {C : Addr} {R : RQF}
abbrev pos_ : Str := PySem.Str.ofString "position"
def dsE_digits_end (C : Addr) : DSX := fun R => dSeq (dIfS (dTru (dMtS mSw3 (dVar 0) (aCons (dC (.str (PySem.Str.ofString "0"))) (aCons (dVar 1) aNil)))) (dRet (dOp DL.rAdd (dVar 1) (dC (.int 1)))) dNext)
    (dSeq (dAsg (dVar 1) 2)
    (dSeq (dWhile (dAnd (dTest (dOp wLt (dVar 2) (dCB fLen (aCons (dVar 0) aNil)))) (dTest (dChain wLe wLe (dC (.str (PySem.Str.ofString "0"))) (dOp DL.rIx (dVar 0) (dVar 2)) (dC (.str (PySem.Str.ofString "9")))))) (dAug 2 rIadd (dC (.int 1))))
    (dSeq (dIfS (dTest (dOp DL.rEq (dVar 2) (dVar 1))) (dRaise C pos_ (aCons (dVar 2) aNil) R) dNext)
    (dRet (dVar 2)))))
theorem e_dRaise {fn : Str} {da : DA} {R : RQ} {D : DEnds} {ρ : Rho} : dRaise C fn da R D ρ μ = da ρ μ fun ss μ1 => ∃ s, ss = [s] ∧ R C fn s ρ μ1 := rfl
theorem puE_digits_end : PureE ["text", "begin", "end"] 2 (phE_digits_end C) (dsE_digits_end C) := by
  intro ss μ Q' R' hl h
  obtain ⟨l, b, rfl, ⟨hb, hl⟩, h, hR⟩ := h
  have sw : ∀ Q : DQ, mSw3 (.dat (.str (T l))) [.dat (.str (PySem.Str.ofString "0")), .dat (.int (b : Int))] μ Q = Q (.dat (.bool (decide (l[b]? = some 48)))) μ := fun Q => K11.o_sw3 hb
  unfold digE at h hR
  by_cases c : l[b]? = some 48
  · rw [if_pos c] at h
    replace h := h (by omega)
    simp [dsE_digits_end, startD, K11.e_dMtS, ↓sw, c]
    simpa using h
  · rw [if_neg c] at h hR
    have E := fun D (k : D.nx _ μ) => K11.digits_loop (D := D) (s1 := some (.dat (.int (b : Int)))) (i := (b : Int)) (by omega) k (by omega) (l.length - b + 1) b (by omega) (by simp) hb (by simp)
    simp [dsE_digits_end, startD, K11.e_dMtS, ↓sw, c, dWhile]
    refine ⟨_, E _ ?_⟩
    by_cases z : b + ((l.drop b).takeWhile isDg).length = b
    · have hz : (((b : Int).toNat + ((l.drop (b : Int).toNat).takeWhile isDg).length : Nat) : Int) = (b : Int) := by
        rw [Int.toNat_natCast, z]
      rw [hz]
      simp [e_dRaise]
      simpa using hR z
    · have hz : ¬ (((b : Int).toNat + ((l.drop (b : Int).toNat).takeWhile isDg).length : Nat) : Int) = (b : Int) := by
        intro q
        rw [Int.toNat_natCast] at q
        exact z (Int.ofNat.inj q)
      simp [hz]
      rw [if_neg (by simpa using hz)]
      simpa using h z
theorem pu_law_ratio : Pure ["number", "under", "common"] 2 ph_law_ratio ds_law_ratio := by
  intro ss μ Q' hl h
  obtain ⟨n, u, rfl, ⟨hu, hn, hs⟩, h⟩ := h
  have c : ¬ u < 0 := by omega
  have c1 : ∀ i, CDv i (gcdI n u) := fun i => cdv_of (gcd_pos hu) (gcd_sm hu hs)
  simp [ds_law_ratio, startD, K11.c_law_common, hn, hs, c, c1]
  simpa [rat, redN, redD] using h
end
end K13
namespace K13
open PySem PySem.Spec PyProof.Rows L2 Evl DL
open WL
open K11 (T rat IsR gcdI Dg isDg digE ratL)
section
variable {μ ν : Mu} {Q : DQ} {n u i j : Int} {l : List Nat} {z y : Str} {d : PyData} {C : Addr} {R : RQF}
end
end K13
namespace WL
open PySem PySem.Spec PyProof.Rows L2 Evl DL
theorem Camed.uniq {ok : Int → Int → Prop} {a : Int} {cs : List (Int × Option Int)} (h : Camed ok a cs) {i j : Nat} {x : Int} {q q' : Option Int} (h1 : cs[i]? = some (x, q)) (h2 : cs[j]? = some (x, q')) : i = j := by
  have l1 := (List.getElem?_eq_some_iff.mp h1)
  have l2 := (List.getElem?_eq_some_iff.mp h2)
  obtain ⟨b1, e1⟩ := l1
  obtain ⟨b2, e2⟩ := l2
  exact (List.getElem_inj (xs := cs.map (·.1)) (h₀ := by simpa using b1) (h₁ := by simpa using b2) h.nd).mp (by rw [List.getElem_map, List.getElem_map, e1, e2])
structure Led (ok : Int → Int → Prop) (cs : List (Int × Option Int)) (b : Int) (w : List Int) (i : Nat) : Prop where
  at_ : ∃ x r q, w = x :: r ∧ cs[i]? = some (x, q)
  nd : w.Nodup
  last : w.getLast? = some b
  goes : ∀ p ∈ nexts w, ok p.1 p.2
  in_ : ∀ y ∈ w, ∃ j q, i ≤ j ∧ cs[j]? = some (y, q)
end WL
namespace WL
open PySem PySem.Spec PyProof.Rows L2 Evl DL
abbrev Cs := List (Int × Option Int)
def ks (cs : Cs) : List Int := cs.map (·.1)
section
variable {μ : Mu} {a : Cs × List Int}
end
structure InvO (ts : List T3) (sp : List (Int × Int)) (n st : Int) (a : Cs × List Int) : Prop where
  ca : Camed (Goes ts sp) st a.1
  rg : ∀ q ∈ ks a.1, 0 ≤ q ∧ q < n
  sub : ∀ q ∈ a.2, q ∈ ks a.1
  nd2 : a.2.Nodup
theorem InvO.len {ts : List T3} {sp : List (Int × Int)} {n st : Int} {a : Cs × List Int} (h : InvO ts sp n st a) (h8 : n ≤ 8) : a.1.length ≤ 8 := by
  have := nodup_len 8 (ks a.1) 0 h.ca.nd fun q hq => by have := h.rg q hq; omega
  rwa [ks, List.length_map] at this
theorem InvO.len2 {ts : List T3} {sp : List (Int × Int)} {n st : Int} {a : Cs × List Int} (h : InvO ts sp n st a) (h8 : n ≤ 8) : a.2.length ≤ 8 := nodup_len 8 a.2 0 h.nd2 fun q hq => by have := h.rg q (h.sub q hq); omega
end WL
namespace WL
open PySem PySem.Spec PyProof.Rows L2 Evl DL
end WL
namespace K52
open PySem PySem.Spec PyProof.Rows L2 Evl DL
open WL
section
variable {μ : Mu} {Q : DQ} {n : Int} {ts : List T3} {d : PyData} {xs ys : List Int} {k : Nat}
end
end K52
namespace K52
open PySem PySem.Spec PyProof.Rows L2 Evl DL
open WL
end K52
namespace K52
open PySem PySem.Spec PyProof.Rows L2 Evl DL
open WL
end K52
namespace K51
open PySem PySem.Spec PyProof.Rows L2 Evl DL
open WL
open K27 (awayI awayZ away_snoc)
open K52 (fitT surI turnB)
def TurnOk (ts : List T3) (xs : List Int) : Prop := xs.length = ts.length ∧ (ts.zip xs).all fitT = true
theorem away_cons (z : T3 × Int) (zs : List (T3 × Int)) (p : Int) : awayZ (z :: zs) p = (if z.1.1 = p then z.2 else 0) - (if z.1.2.1 = p then z.2 else 0) + awayZ zs p := by
  unfold awayZ
  by_cases c : z.1.1 = p <;> by_cases d : z.1.2.1 = p <;> simp [c, d] <;> omega
def inI (l : List Int) (p x : Int) : Int := if p ∈ l then x else 0
theorem sum_in {l : List Int} (hn : l.Nodup) (p x : Int) : (l.map fun q => if p = q then x else 0).sum = inI l p x := by
  induction l with
  | nil => rfl
  | cons a r ih =>
    obtain ⟨h1, h2⟩ := List.nodup_cons.mp hn
    rw [List.map_cons, List.sum_cons, ih h2]
    unfold inI
    by_cases c : p = a
    · subst c
      rw [if_pos rfl, if_neg h1, if_pos (List.mem_cons_self ..)]
      omega
    · rw [if_neg c]
      by_cases d : p ∈ r
      · rw [if_pos d, if_pos (List.mem_cons_of_mem _ d)]; omega
      · rw [if_neg d, if_neg (fun h => (List.mem_cons.mp h).elim c d)]; rfl
theorem sum_add3 {l : List Int} {f g h : Int → Int} : (l.map fun q => f q - g q + h q).sum = (l.map f).sum - (l.map g).sum + (l.map h).sum := by
  induction l with
  | nil => rfl
  | cons a r ih => simp only [List.map_cons, List.sum_cons, ih]; omega
theorem sum_away {l : List Int} (hn : l.Nodup) : ∀ zs : List (T3 × Int), (l.map (awayZ zs)).sum = (zs.map fun z => inI l z.1.1 z.2 - inI l z.1.2.1 z.2).sum
  | [] => by
    have : awayZ [] = fun _ => 0 := rfl
    rw [this]
    show (l.map fun _ => (0 : Int)).sum = 0
    clear hn this
    induction l with
    | nil => rfl
    | cons a r ih => rw [List.map_cons, List.sum_cons, ih]; rfl
  | z :: zs => by
    have e : awayZ (z :: zs) = fun q => (if z.1.1 = q then z.2 else 0) - (if z.1.2.1 = q then z.2 else 0) + awayZ zs q := funext fun q => away_cons z zs q
    rw [e, sum_add3, sum_in hn, sum_in hn, sum_away hn zs, List.map_cons, List.sum_cons]
theorem across_iff {l : List Int} {t : T3} : acrossB l t = true ↔ ¬ (t.1 ∈ l ↔ t.2.1 ∈ l) := by
  unfold acrossB
  by_cases c : t.1 ∈ l <;> by_cases d : t.2.1 ∈ l <;> simp [c, d]
theorem room_cons (t : T3) (ts : List T3) (l : List Int) : roomL (t :: ts) l = (if acrossB l t = true then t.2.2 else 0) + roomL ts l := by
  unfold roomL
  by_cases c : acrossB l t = true
  · rw [List.filter_cons_of_pos c, if_pos c]; rfl
  · rw [List.filter_cons_of_neg c, if_neg c]; omega
end K51
namespace K51
open PySem PySem.Spec PyProof.Rows L2 Evl DL
open WL
open K27 (awayI awayZ away_snoc)
open K52 (fitT surI turnB)
def sgn (p : Int × Int) : Int := if p.1 < p.2 then 1 else -1
def ixT (ts : List T3) (p : Int × Int) : Nat := tieIx ts p.1 p.2
theorem tie_at {ts : List T3} {a b : Int} (h : Tied ts a b) : ∃ t, ts[tieIx ts a b]? = some t ∧ two t = (if a < b then (a, b) else (b, a)) := by
  unfold tieIx
  have l := List.idxOf_lt_length_of_mem h
  have e := List.getElem_idxOf (x := (if a < b then (a, b) else (b, a))) (xs := ts.map two) l
  rw [List.length_map] at l
  rw [List.getElem_map] at e
  exact ⟨_, List.getElem?_eq_getElem l, e⟩
theorem nexts_mem : ∀ {w : List Int} {p : Int × Int}, p ∈ nexts w → p.1 ∈ w ∧ p.2 ∈ w
  | [], p, h => by simp [nexts] at h
  | [a], p, h => by simp [nexts] at h
  | a :: b :: r, p, h => by
    rcases List.mem_cons.mp (show p ∈ (a, b) :: nexts (b :: r) from h) with rfl | h
    · exact ⟨by simp, by simp⟩
    · have := nexts_mem h
      exact ⟨List.mem_cons_of_mem _ this.1, List.mem_cons_of_mem _ this.2⟩
theorem getD_some {α : Type} {l : List α} {i : Nat} {x d : α} (h : l[i]? = some x) : l.getD i d = x := by rw [List.getD_eq_getElem?_getD, h]; rfl
end K51
namespace K51
open PySem PySem.Spec PyProof.Rows L2 Evl DL
open WL
open K27 (awayI awayZ)
open K52 (fitT surI turnB surOf intsL)
end K51
namespace K51
open PySem PySem.Spec PyProof.Rows L2 Evl DL
end K51
namespace K51
open PySem PySem.Spec PyProof.Rows L2 Evl DL
open WL
open K27 (awayI awayZ)
open K52 (fitT surI turnB surOf intsL)
section
variable {μ : Mu} {Q : DQ} {n p : Int} {ts : List T3} {xs sur : List Int} {s : Sl}
end
end K51
namespace K51
open PySem PySem.Spec PyProof.Rows L2 Evl DL
open WL
open K27 (awayI awayZ)
open K52 (fitT surI turnB surOf intsL turn_form sur_len c_check_surplus)
section
variable {μ : Mu} {Q : DQ} {n p : Int} {ts : List T3} {xs sur : List Int} {s : Sl}
theorem c_signed_steps {w : List Int} : WL.ph_signed_steps [.dat (webD n ts), .dat (rowI w)] μ Q = (((ts.map two).Nodup ∧ ts.length ≤ 100 ∧ w.length ≤ 100 ∧ ∀ p ∈ nexts w, Tied ts p.1 p.2) ∧ Q (.dat (.list (((nexts w).map (stepI ts)).map WL.pairD))) μ) := propext ⟨fun ⟨_, _, _, e, h⟩ => by
  obtain ⟨e1, e2⟩ := dr_inj e
  obtain ⟨rfl, rfl⟩ := webD_inj e1
  cases rowI_inj (dr_inj e2).1
  exact h, fun h => ⟨_, _, _, rfl, h⟩⟩
theorem ties_nodup {many : Int} (hw : WebOk many ts) : (ts.map two).Nodup := by
  have := hw.rows.up
  rw [List.nodup_iff_pairwise_ne, List.pairwise_map]
  refine this.imp fun {a b} h e => ?_
  rw [e] at h
  rcases h with h | ⟨_, h⟩ <;> exact absurd h (by omega)
end
end K51
namespace K51
open PySem PySem.Spec PyProof.Rows L2 Evl DL
open WL
open K27 (awayI awayZ)
open K52 (fitT surI turnB surOf intsL)
section
variable {μ : Mu} {Q : DQ} {n p : Int} {ts : List T3} {xs sur : List Int} {s : Sl}
theorem TurnOk.at {ts : List T3} {xs : List Int} (h : TurnOk ts xs) {i : Nat} {t : T3} (ht : ts[i]? = some t) : ∃ x, xs[i]? = some x ∧ fitT (t, x) = true := by
  have il := (List.getElem?_eq_some_iff.mp ht).1
  have il' : i < xs.length := by rw [h.1]; exact il
  have hx : xs[i]? = some xs[i] := List.getElem?_eq_getElem il'
  refine ⟨_, hx, List.all_eq_true.mp h.2 _ ?_⟩
  refine List.mem_iff_getElem?.mpr ⟨i, ?_⟩
  rw [List.getElem?_zip_eq_some]
  exact ⟨ht, hx⟩
theorem ix_ties {i : Nat} {t : T3} (ht : ts[i]? = some t) : DL.rIx (.dat (tiesD ts)) (.dat (.int (i : Nat))) μ Q = Q (.dat (tieD t)) μ :=
  rix_t (atI_nat (by rw [List.getElem?_map, ht]; rfl))
theorem ix_nat {i : Nat} {x : Int} (hx : xs[i]? = some x) : DL.rIx (.dat (.list (xs.map PyData.int))) (.dat (.int (i : Nat))) μ Q = Q (.dat (.int x)) μ :=
  rix_l (atI_nat (by rw [List.getElem?_map, hx]; rfl))
theorem cm_of {x y : Int} (h : x.natAbs < 2 ^ 40) (g : y.natAbs < 2 ^ 40) : CMulW x y := (show Sm 40 x from h).cmul (show Sm 40 y from g) (by decide) (by decide)
end
end K51
namespace K51
open PySem PySem.Spec PyProof.Rows L2 Evl DL
open WL
open K27 (awayI awayZ)
open K52 (fitT surI turnB surOf intsL)
section
variable {μ : Mu} {Q : DQ} {n p : Int} {ts : List T3} {xs sur : List Int} {s : Sl}
end
end K51
namespace K51
open PySem PySem.Spec PyProof.Rows L2 Evl DL
open WL
open K27 (awayI awayZ)
open K52 (fitT surI turnB surOf intsL)
section
variable {μ : Mu} {Q : DQ} {n p : Int} {ts : List T3} {xs sur : List Int} {s : Sl}
theorem two_uniq (hn : (ts.map two).Nodup) {i j : Nat} {t u : T3} (h1 : ts[i]? = some t) (h2 : ts[j]? = some u) (e : two t = two u) : i = j := by
  obtain ⟨b1, e1⟩ := List.getElem?_eq_some_iff.mp h1
  obtain ⟨b2, e2⟩ := List.getElem?_eq_some_iff.mp h2
  exact (List.getElem_inj (xs := ts.map two) (h₀ := by simpa using b1) (h₁ := by simpa using b2) hn).mp (by rw [List.getElem_map, List.getElem_map, e1, e2, e])
end
end K51
namespace K28
open PySem PySem.Spec PyProof.Rows L2 Evl DL
open WL
open K27 (awayI awayZ)
open K51 (away_cons inI sum_away across_iff room_cons sgn ixT tie_at nexts_mem getD_some two_uniq)
section
variable {n a b : Int} {ts : List T3} {xs : List Int} {w : List Int}
def incs (ts : List T3) (k : Int) (xs : List Int) (ps : List (Int × Int)) : List Int := ps.foldl (fun ys p => ys.set (ixT ts p) (ys.getD (ixT ts p) 0 + sgn p * k)) xs
def openL (ts : List T3) (xs : List Int) : List (Int × Int) := (ts.zip xs).map fun z => (z.1.2.2 - z.2, z.1.2.2 + z.2)
def posL (xs : List Int) : List (Int × Int) := xs.map fun x => (x, -x)
structure Fits (ts : List T3) (xs : List Int) : Prop where
  len : xs.length = ts.length
  fit : ∀ (i : Nat) (t : T3) (x : Int), ts[i]? = some t → xs[i]? = some x → -t.2.2 ≤ x ∧ x ≤ t.2.2
def Kept (n : Int) (ts : List T3) (a b : Int) (xs : List Int) : Prop := ∀ p, 0 ≤ p ∧ p < n → p ≠ a → p ≠ b → awayZ (ts.zip xs) p = 0
end
end K28
namespace K28
open PySem PySem.Spec PyProof.Rows L2 Evl DL
open WL
open K27 (awayI awayZ)
open K51 (away_cons inI sum_away across_iff room_cons sgn ixT tie_at nexts_mem getD_some two_uniq ties_nodup)
def leastL (ts : List T3) (xs : List Int) (w : List Int) : Int := WL.minI ((nexts w).map fun p => sgn p * xs.getD (ixT ts p) 0)
inductive Parted (n : Int) (ts : List T3) (a b : Int) : List Int → List (List Int × Int) → Prop
  | done {xs : List Int} : ¬ Come ts (posL xs) a b → Parted n ts a b xs []
  | more {xs w : List Int} {ps : List (List Int × Int)} : OpenW ts (posL xs) a b w → (∀ x ∈ w, 0 ≤ x ∧ x < n) → Parted n ts a b (incs ts (-leastL ts xs w) xs (nexts w)) ps → Parted n ts a b xs ((w, leastL ts xs w) :: ps)
structure WayFT (n : Int) (ts : List T3) (a b : Int) (w : List Int) : Prop where
  nd : w.Nodup
  first : w.head? = some a
  last : w.getLast? = some b
  on : ∀ p ∈ nexts w, Tied ts p.1 p.2
  in_ : ∀ x ∈ w, 0 ≤ x ∧ x < n
section
variable {n a b : Int} {ts : List T3} {xs : List Int} {w : List Int}
def Parts (n : Int) (ts : List T3) (a b : Int) (L : List Int) : Prop := ∀ w, WayFT n ts a b w → ∃ i ∈ alongT ts w, i ∈ L
end
end K28
namespace K28
open PySem PySem.Spec PyProof.Rows L2 Evl DL
open WL
open K27 (awayI awayZ)
open K51 (away_cons inI sum_away across_iff room_cons sgn ixT tie_at nexts_mem getD_some two_uniq ties_nodup)
section
variable {n a b : Int} {ts : List T3} {xs : List Int} {w L : List Int}
structure Lot (m : Nat) (L : List Int) : Prop where
  up : L.Pairwise (· < ·)
  in_ : ∀ i ∈ L, 0 ≤ i ∧ i < (m : Int)
structure First (n : Int) (ts : List T3) (a b : Int) (L : List Int) : Prop where
  lot : Lot ts.length L
  parts : Parts n ts a b L
  least : ∀ M, Lot ts.length M → Parts n ts a b M → L.length < M.length ∨ (L.length = M.length ∧ leL L M = true)
theorem First.uniq {L M : List Int} (h : First n ts a b L) (g : First n ts a b M) : L = M := by
  rcases h.least M g.lot g.parts with h1 | ⟨_, h1⟩
  · rcases g.least L h.lot h.parts with g1 | ⟨g1, _⟩ <;> omega
  · rcases g.least L h.lot h.parts with g1 | ⟨_, g1⟩
    · omega
    · exact leL_anti _ _ h1 g1
end
end K28
namespace DL
open PySem PySem.Spec PyProof.Rows L2 Evl
section
variable {P : Program} {w : World} {A : Around} {E : Value → Shared → Prop} {s : Shared}
end
section
variable {X : Cx}
end
end DL
namespace PySem.AutoSeq1
end PySem.AutoSeq1
namespace DL
open PySem PySem.Spec PyProof.Rows L2 Evl
section
variable {X : Cx} {K : PySem.W.Frag} {o e : Expr} {apos cpos p pos : Pos} {od ed : DE}
end
end DL
namespace WL
open PySem PySem.Spec PyProof.Rows L2 Evl DL
structure LensOk (ts : List T3) (ls : List Int) : Prop where
  len : ls.length = ts.length
  in_ : ∀ l ∈ ls, 0 ≤ l ∧ l ≤ 1000000000000
end WL
namespace WL
open PySem PySem.Spec PyProof.Rows L2 Evl DL
end WL
namespace WL
open PySem PySem.Spec PyProof.Rows L2 Evl DL
instance (many : Int) (c : List Int) : Decidable (Cut many c) := inferInstanceAs (Decidable (_ ∧ _ ∧ _))
end WL
namespace WL
open PySem PySem.Spec PyProof.Rows L2 Evl DL
end WL
namespace WL
open PySem PySem.Spec PyProof.Rows L2 Evl DL
end WL
namespace WL
open PySem PySem.Spec PyProof.Rows L2 Evl DL
end WL
namespace WL
open PySem PySem.Spec PyProof.Rows L2 Evl DL
open PySem.W (dataLt)
end WL
namespace K27
open PySem PySem.Spec PyProof.Rows L2 Evl DL
open WL
section
variable {μ : Mu} {Q : DQ} {n p q : Int} {ts : List T3} {k : Nat} {d : PyData}
end
end K27
namespace K28
open PySem PySem.Spec PyProof.Rows L2 Evl DL
open WL
open K27 (awayI awayZ ownD)
open K51 (sgn ixT)
open K52 (intsL)
def listedB : PyData → Bool
  | .list _ => true
  | .tuple _ => true
  | _ => false
def ph_is_listed : DF := fun ss μ Q => ∃ d, ss = [.dat d] ∧ Q (.dat (.bool (listedB d))) μ
structure Grown (n : Int) (ts : List T3) (a b : Int) (xs : List Int) : Prop where
  fits : Fits ts xs
  kept : Kept n ts a b xs
  full : ¬ Come ts (openL ts xs) a b
structure Apart (n : Int) (ts : List T3) (a b : Int) (ws : List (List Int)) : Prop where
  ways : ∀ w ∈ ws, WayFT n ts a b w
  nd : (ws.flatMap fun w => (nexts w).map (ixT ts)).Nodup
  many : ∃ L, Lot ts.length L ∧ Parts n ts a b L ∧ L.length ≤ ws.length
structure Five (n : Int) (ts : List T3) : Prop where
  web : WebOk n ts
  five : n ≤ 5
  seven : ts.length ≤ 7
structure Ways (n : Int) (ts : List T3) (a b : Int) (ws : List (List Int)) : Prop where
  all : ∀ w, w ∈ ws ↔ WayFT n ts a b w
  few : ws.length ≤ 1000
  some_ : ws ≠ []
structure WaysK (ts : List T3) (ws : List (List Int)) : Prop where
  few : ws.length ≤ 1000
  ok : ∀ w ∈ ws, w.length ≤ 8 ∧ ∀ p ∈ nexts w, p.1 ≠ p.2 ∧ Tied ts p.1 p.2
end K28
namespace K10
open PySem PySem.Spec PyProof.Rows L2 Evl DL
open WL
open K11 (rat ratB rowB IsR gcdI)
variable [Cls]
def isS : PyData → Bool
  | .str _ => true
  | _ => false
def ratsL (ds : List PyData) : Bool := decide (1 ≤ (ds.length : Int)) && (decide ((ds.length : Int) ≤ 40) && ds.all ratB)
def ratsB : PyData → Bool
  | .list ds => ratsL ds
  | .tuple ds => ratsL ds
  | _ => false
def ph_is_row : DF := fun ss μ Q => ∃ d, ss = [.dat d] ∧ Q (.dat (.bool (rowB d))) μ
def f_check_text : List PyData → Oc := oChk isS Cls.InvalidText
def f_check_integer : List PyData → Oc := oChk isW Cls.InvalidInteger
def f_check_ratio : List PyData → Oc := oChk ratB Cls.InvalidRatio
def f_check_ratios : List PyData → Oc := oBoth f_check_ratio
def noQ : Oc := .exc Cls.NoQuotient ("" : Str) .none
def f_made : List PyData → Oc
  | [a, b] => (f_check_integer [a]).sq ((f_check_integer [b]).sq (match b with
    | .int 0 => noQ
    | _ => .no))
  | _ => .no
def f_plus : List PyData → Oc := oStop f_check_ratios
def f_minus : List PyData → Oc := oStop f_check_ratios
def f_times : List PyData → Oc := oStop f_check_ratios
def f_compared : List PyData → Oc := oStop f_check_ratios
def f_over : List PyData → Oc
  | [a, b] => (f_check_ratios [a, b]).sq (match b with
    | .tuple [.int 0, _] => noQ
    | _ => .no)
  | _ => .no
def f_floor_of : List PyData → Oc := oStop f_check_ratio
def f_ceiling_of : List PyData → Oc := oStop f_check_ratio
def f_ratio_text : List PyData → Oc := oStop f_check_ratio
def f_parse_ratio : List PyData → Oc
  | [d] => (f_check_text [d]).sq (match d with
    | .str ⟨⟨[]⟩⟩ => .exc Cls.BadText ("position" : Str) (.int 0)
    | _ => .no)
  | _ => .no
def f_check_row : List PyData → Oc := oChk rowB Cls.InvalidRow
def lenD : PyData → Nat
  | .tuple ds => ds.length
  | _ => 0
def f_check_rows : List PyData → Oc
  | [a, b] => (f_check_row [a]).sq ((f_check_row [b]).sq (if lenD a = lenD b then .ret .none else .exc Cls.UnlikeLengths ("" : Str) .none))
  | _ => .no
def f_row_product : List PyData → Oc := oStop f_check_rows
def f_row_sum : List PyData → Oc := oStop f_check_rows
def f_row_taken : List PyData → Oc
  | [a, b] => (f_check_row [a]).sq ((f_check_integer [b]).sq .no)
  | _ => .no
def isZ : PyData → Bool
  | .int i => i == 0
  | _ => false
def f_row_divisor : List PyData → Oc
  | [.tuple ds] => (f_check_row [.tuple ds]).sq (if ds.all isZ = true then .ret (.int 0) else .no)
  | [d] => f_check_row [d]
  | _ => .no
def f_row_reduced : List PyData → Oc := oStop f_row_divisor
def f_ratios_of : List PyData → Oc
  | [a, b] => (f_check_row [a]).sq ((f_check_integer [b]).sq (match b with
    | .int 0 => noQ
    | _ => .no))
  | _ => .no
def f_check_ratio_list : List PyData → Oc := oChk ratsB Cls.InvalidRatios
def same (n u : Int) (k : Nat) : PyData := .tuple (List.replicate k (rat n u))
def SameOk (n u : Int) (k : Nat) : Prop := IsR n u ∧ 1 ≤ u ∧ u ≤ 40 ∧ n.natAbs ≤ 40 ∧ 1 ≤ k ∧ k ≤ 40
def phE_common_under : DFE := fun ss μ Q R => ∃ d, ss = [.dat d] ∧ ((ratsB d = false ∧ R Cls.InvalidRatios ("value" : Str) (.dat d) μ) ∨ ∃ n u k, d = same n u k ∧ SameOk n u k ∧ Q (.dat (.int u)) μ)
def wholeV (n u : Int) (k : Nat) : PyData := .tuple [.tuple (List.replicate k (.int (n * u.fdiv u))), .int u]
def phE_whole_row : DFE := fun ss μ Q R => ∃ d, ss = [.dat d] ∧ ((ratsB d = false ∧ R Cls.InvalidRatios ("value" : Str) (.dat d) μ) ∨ ∃ n u k, d = same n u k ∧ SameOk n u k ∧ Q (.dat (wholeV n u k)) μ)
end K10
namespace K10
open PySem PySem.Spec PyProof.Rows L2 Evl DL
variable [Cls]
def ds_is_row : DS := (dRet (dAndV (dUn (fIsi .tup) (dVar 0)) (dAndV (dChain wLe wLe (dC (.int 1)) (dCB fLen (aCons (dVar 0) aNil)) (dC (.int 40))) (dCall 1 K52.ph_are_integers (aCons (dVar 0) aNil)))))
def ds_law_pot : DS := (dSeq (dAsg (dIf (dTest (dOp wLt (dVar 1) (dCB fLen (aCons (dVar 0) aNil)))) (dCB fAbs (aCons (dOp rIx (dVar 0) (dVar 1)) aNil)) (dOp rAdd (dOp rMul (dC (.int 1237)) (dVar 1)) (dC (.int 991)))) 2)
    (dRet (dLstC (aCons (dCB fMax2 (aCons (dC (.int 0)) (aCons (dOp rSub (dVar 2) (dOp rPw (dC (.int 10)) (dC (.int 18)))) aNil))) (aCons (dOp rAdd (dOp rMd (dCB fInt (aCons (dOp rAdd (dOp rAdd (dOp rMul (dOp rMd (dCB fInt (aCons (dVar 2) aNil)) (dC (.int 2147483549))) (dC (.int 41761))) (dOp rMul (dC (.int 7351)) (dVar 1))) (dC (.int 977))) aNil)) (dC (.int 2147483477))) (dC (.int 1))) aNil)))))
def ds_law_draw : DS := (dSeq (dIfS (dTest (dOp wGt (dOp rIx (dVar 0) (dC (.int 0))) (dC (.int 0)))) (dSeq (dAsgG (dCB fDm (aCons (dOp rIx (dVar 0) (dC (.int 0))) (aCons (dVar 1) aNil))) (gT 2 (gsCons (gS (dVar 0) (dC (.int 0))) (gsCons (gN 2) gsNil))))
    (dRet (dVar 2))) dNext)
    (dSeq (dAsgG (dOp rMd (dCB fInt (aCons (dOp rAdd (dOp rMul (dOp rIx (dVar 0) (dC (.int 1))) (dC (.int 41117))) (dC (.int 31601))) aNil)) (dC (.int 2147483477))) (gS (dVar 0) (dC (.int 1))))
    (dRet (dOp rMd (dCB fInt (aCons (dOp rDv (dOp rMd (dCB fInt (aCons (dOp rMul (dOp rIx (dVar 0) (dC (.int 1))) (dOp rIx (dVar 0) (dC (.int 1)))) aNil)) (dC (.int 2147483549))) (dC (.int 23))) aNil)) (dVar 1)))))
def ds_law_ratio : DS := (dSeq (dAsg (dCall 2 K11.ph_law_common (aCons (dVar 0) (aCons (dVar 1) aNil))) 2)
    (dSeq (dIfS (dTest (dOp wLt (dVar 1) (dC (.int 0)))) (dAsg (dUn rNeg (dVar 2)) 2) dNext)
    (dRet (dTup (aCons (dOp rDv (dVar 0) (dVar 2)) (aCons (dOp rDv (dVar 1) (dVar 2)) aNil))))))
def dsE_check_text : DSX := fun R => (dIfS (dNot (dTru (dUn (fIsi .str) (dVar 0)))) (dRaise Cls.InvalidText (PySem.Str.ofString "value") (aCons (dVar 0) aNil) R) dNext)
def dsE_check_integer : DSX := fun R => (dIfS (dNot (dTru (dCall 1 WL.ph_is_integer (aCons (dVar 0) aNil)))) (dRaise Cls.InvalidInteger (PySem.Str.ofString "value") (aCons (dVar 0) aNil) R) dNext)
def dsE_check_ratio : DSX := fun R => (dIfS (dNot (dTru (dCall 1 K11.ph_is_ratio (aCons (dVar 0) aNil)))) (dRaise Cls.InvalidRatio (PySem.Str.ofString "value") (aCons (dVar 0) aNil) R) dNext)
def dsE_check_ratios : DSX := fun R => (dSeq (dDrop (dCallE 1 (phO f_check_ratio) (aCons (dVar 0) aNil) R))
    (dDrop (dCallE 1 (phO f_check_ratio) (aCons (dVar 1) aNil) R)))
def dsE_made : DSX := fun R => (dSeq (dDrop (dCallE 1 (phO f_check_integer) (aCons (dVar 0) aNil) R))
    (dSeq (dDrop (dCallE 1 (phO f_check_integer) (aCons (dVar 1) aNil) R))
    (dSeq (dIfS (dTest (dOp rEq (dVar 1) (dC (.int 0)))) (dRaise0 Cls.NoQuotient R) dNext)
    dNever)))
def dsE_plus : DSX := fun R => (dSeq (dDrop (dCallE 2 (phO f_check_ratios) (aCons (dVar 0) (aCons (dVar 1) aNil)) R))
    dNever)
def dsE_minus : DSX := fun R => (dSeq (dDrop (dCallE 2 (phO f_check_ratios) (aCons (dVar 0) (aCons (dVar 1) aNil)) R))
    dNever)
def dsE_times : DSX := fun R => (dSeq (dDrop (dCallE 2 (phO f_check_ratios) (aCons (dVar 0) (aCons (dVar 1) aNil)) R))
    dNever)
def dsE_over : DSX := fun R => (dSeq (dDrop (dCallE 2 (phO f_check_ratios) (aCons (dVar 0) (aCons (dVar 1) aNil)) R))
    (dSeq (dIfS (dTest (dOp rEq (dOp rIx (dVar 1) (dC (.int 0))) (dC (.int 0)))) (dRaise0 Cls.NoQuotient R) dNext)
    dNever))
def dsE_compared : DSX := fun R => (dSeq (dDrop (dCallE 2 (phO f_check_ratios) (aCons (dVar 0) (aCons (dVar 1) aNil)) R))
    dNever)
def dsE_floor_of : DSX := fun R => (dSeq (dDrop (dCallE 1 (phO f_check_ratio) (aCons (dVar 0) aNil) R))
    dNever)
def dsE_ceiling_of : DSX := fun R => (dSeq (dDrop (dCallE 1 (phO f_check_ratio) (aCons (dVar 0) aNil) R))
    dNever)
def dsE_ratio_text : DSX := fun R => (dSeq (dDrop (dCallE 1 (phO f_check_ratio) (aCons (dVar 0) aNil) R))
    dNever)
def dsE_parse_ratio : DSX := fun R => (dSeq (dDrop (dCallE 1 (phO f_check_text) (aCons (dVar 0) aNil) R))
    (dSeq (dAsg (dIf (dTru (dMtS mSw (dVar 0) (aCons (dC (.str (PySem.Str.ofString "-"))) aNil))) (dC (.int 1)) (dC (.int 0))) 1)
    (dSeq (dAsg (dCallE 2 (K13.phE_digits_end Cls.BadText) (aCons (dVar 0) (aCons (dVar 1) aNil)) R) 2)
    dNever)))
def dsE_check_row : DSX := fun R => (dIfS (dNot (dTru (dCall 1 ph_is_row (aCons (dVar 0) aNil)))) (dRaise Cls.InvalidRow (PySem.Str.ofString "value") (aCons (dVar 0) aNil) R) dNext)
def dsE_check_rows : DSX := fun R => (dSeq (dDrop (dCallE 1 (phO f_check_row) (aCons (dVar 0) aNil) R))
    (dSeq (dDrop (dCallE 1 (phO f_check_row) (aCons (dVar 1) aNil) R))
    (dIfS (dTest (dOp rNe (dCB fLen (aCons (dVar 0) aNil)) (dCB fLen (aCons (dVar 1) aNil)))) (dRaise0 Cls.UnlikeLengths R) dNext)))
def dsE_check_ratio_list : DSX := fun R => (dSeq (dIfS (dOr (dNot (dTru (dCall 1 K28.ph_is_listed (aCons (dVar 0) aNil)))) (dNot (dTest (dChain wLe wLe (dC (.int 1)) (dCB fLen (aCons (dVar 0) aNil)) (dC (.int 40)))))) (dRaise Cls.InvalidRatios (PySem.Str.ofString "value") (aCons (dVar 0) aNil) R) dNext)
    (dIfS (dNot (dTru (dCB fAll (aCons (dLc (iSeq (dVar 0)) (gN 1) dYes (dCall 1 K11.ph_is_ratio (aCons (dVar 1) aNil)) [1]) aNil)))) (dRaise Cls.InvalidRatios (PySem.Str.ofString "value") (aCons (dVar 0) aNil) R) dNext))
def dsE_row_product : DSX := fun R => (dSeq (dDrop (dCallE 2 (phO f_check_rows) (aCons (dVar 0) (aCons (dVar 1) aNil)) R))
    dNever)
def dsE_row_sum : DSX := fun R => (dSeq (dDrop (dCallE 2 (phO f_check_rows) (aCons (dVar 0) (aCons (dVar 1) aNil)) R))
    dNever)
def dsE_row_taken : DSX := fun R => (dSeq (dDrop (dCallE 1 (phO f_check_row) (aCons (dVar 0) aNil) R))
    (dSeq (dDrop (dCallE 1 (phO f_check_integer) (aCons (dVar 1) aNil) R))
    dNever))
def dsE_row_divisor : DSX := fun R => (dSeq (dDrop (dCallE 1 (phO f_check_row) (aCons (dVar 0) aNil) R))
    (dSeq (dAsg (dC (.int 0)) 1)
    (dSeq (dFor (iSeq (dVar 0)) (gN 2) (dAsg (dCB fGcd (aCons (dVar 1) (aCons (dVar 2) aNil))) 1))
    (dRet (dVar 1)))))
def dsE_row_reduced : DSX := fun R => (dSeq (dAsg (dCallE 1 (phO f_row_divisor) (aCons (dVar 0) aNil) R) 1)
    dNever)
def dsE_common_under : DSX := fun R => (dSeq (dDrop (dCallE 1 (phO f_check_ratio_list) (aCons (dVar 0) aNil) R))
    (dSeq (dAsg (dC (.int 1)) 1)
    (dSeq (dFor (iSeq (dVar 0)) (gN 2) (dAsg (dCB fLcm (aCons (dVar 1) (aCons (dOp rIx (dVar 2) (dC (.int 1))) aNil))) 1))
    (dRet (dVar 1)))))
def dsE_whole_row : DSX := fun R => (dSeq (dAsg (dCallE 1 phE_common_under (aCons (dVar 0) aNil) R) 1)
    (dRet (dTup (aCons (dCB fTuple (aCons (dLc (iSeq (dVar 0)) (gN 2) dYes (dOp rMul (dOp rIx (dVar 2) (dC (.int 0))) (dOp rDv (dVar 1) (dOp rIx (dVar 2) (dC (.int 1))))) [2]) aNil)) (aCons (dVar 1) aNil)))))
def dsE_ratios_of : DSX := fun R => (dSeq (dDrop (dCallE 1 (phO f_check_row) (aCons (dVar 0) aNil) R))
    (dSeq (dDrop (dCallE 1 (phO f_check_integer) (aCons (dVar 1) aNil) R))
    (dSeq (dIfS (dTest (dOp rEq (dVar 1) (dC (.int 0)))) (dRaise0 Cls.NoQuotient R) dNext)
    dNever)))
end K10
namespace DL
open PySem PySem.Spec PyProof.Rows L2 Evl LamX NdefX
def lP : Expr → Arguments
  | .Lambda p _ _ _ => p
  | _ => default
def lB : Expr → Expr
  | .Lambda _ b _ _ => b
  | e => e
def lS : Expr → Scope
  | .Lambda _ _ s _ => s
  | _ => default
def lPos : Expr → Pos
  | .Lambda _ _ _ p => p
  | _ => ⟨0, 0, 0, 0⟩
def stV : Stmt → Expr
  | .Assign _ v _ => v
  | .Expr v _ => v
  | .Return (some v) _ => v
  | .If c _ _ _ => c
  | _ => .Tuple [] default ⟨0, 0, 0, 0⟩
def forB : Stmt → List Stmt
  | .For _ _ b _ _ => b
  | _ => []
def elts : Expr → List Expr
  | .List es _ => es
  | .Tuple es _ _ => es
  | .Call _ es _ _ => es
  | .UnaryOp _ e _ => [e]
  | _ => []
abbrev noSt : Stmt := .Pass ⟨0, 0, 0, 0⟩
abbrev nth (es : List Expr) (i : Nat) : Expr := es.getD i (.Tuple [] default ⟨0, 0, 0, 0⟩)
def li (e : Expr) (q : Str) (cl : List (Str × Addr)) : Addr → LamI := fun c => ⟨q, lP e, lB e, lS e, cloFrom cl (lS e).names [], c⟩
section
variable {k0 : Nat} {T : Addr} {q : Str} {l : Addr → LamI} {js : List Nat} {Ss : List LamT} {told : OutI → List PyData → Prop} {dt : DE} {D : DEnds} {ρ : Rho} {μ : Mu} {ds due : List PyData} {o : OutI} {Q : DQ}
def dJudge1 (k0 : Nat) (T : Addr) (q : Str) (l : Addr → LamI) (js : List Nat) (Ss : List LamT) (told : OutI → List PyData → Prop) (dt : DE) : DE := dCallT js Ss 2 (allF told) (aCons (dLstR (aCons (dLam k0 T q l) aNil)) (aCons dt aNil))
theorem judge1_ok (hk : μ[k0]? = some (.tab T q)) (hS : Ss.map LamT.li = [l]) (sh : SeqAt.shaped (.list due) = true) (ev : PyData.eqv (.list due) (.list due) = true)
    (hd : ∀ ν (Q : DQ), Q (.dat (.list due)) ν → dt ρ ν Q) (hj : js.map (fun j => ρ[j]?) = ds.map (fun d => some (some (Sl.dat d))))
    (h : ∀ S ∈ Ss, ∃ o, told o due ∧ ∀ ν, OutI.of (fvOf S.N (S.sel.map (ds[·]?)) S.de) ν o) (qq : ∀ fcs, Q (.dat (.bool true)) (upM [] [] (μ ++ fnCells [l] fcs))) : dJudge1 k0 T q l js Ss told dt ρ μ Q := by
  refine ⟨hk, fun f c => ⟨[.inl μ.length], rfl, (show 1 ≤ sizeLine by decide), ?_⟩⟩
  refine hd _ _ ⟨rfl, ds, hj, fun vs => ?_⟩
  have := all_blk (told := told) (Ss := Ss) (ls := [l]) (fcs := [(f, c)]) (vs := vs) (ds := ds) (due := due) (μ := μ) (Q := fun s μ2 => Q s (upM [] [] μ2)) hS rfl h sh ev (by
    show Q (.dat (.bool true)) (upM [] [] (upM vs ds _))
    rw [upM_up]
    exact qq _)
  exact this
theorem blk1_step (hk : μ[k0]? = some (.tab T q)) (hS : Ss.map LamT.li = [l]) (hμ : ∀ c ∈ μ, noFn c = true) (sh : SeqAt.shaped (.list due) = true) (ev : PyData.eqv (.list due) (.list due) = true)
    (hd : ∀ ν (Q : DQ), Q (.dat (.list due)) ν → dt ρ ν Q) (hj : js.map (fun j => ρ[j]?) = ds.map (fun d => some (some (Sl.dat d))))
    (h : ∀ S ∈ Ss, ∃ o, told o due ∧ ∀ ν, OutI.of (fvOf S.N (S.sel.map (ds[·]?)) S.de) ν o) (k : D.nx (cutR μ.length ρ) μ) : dCut (dIfS (dNot (dTru (dJudge1 k0 T q l js Ss told dt))) (dRet (dC (.bool false))) dNext) D ρ μ := by
  show dIfS _ _ _ _ ρ μ
  simp only [e_dIfS, e_dNot, e_dTru]
  refine judge1_ok (ds := ds) hk hS sh ev hd hj h fun fcs => ⟨trivial, ?_⟩
  show D.nx (cutR μ.length ρ) ((upM [] [] (μ ++ fnCells [l] fcs)).take μ.length)
  rw [upM_take, upM_id hμ]
  exact k
end
theorem eo_dCallEK {np n : Nat} {idx : List Nat} {φ : DFE} {a b : DA} {R : RQ} {ρ : Rho} {μ : Mu} {Q : DQ} : dCallEK np idx n φ a b R ρ μ Q = a ρ μ fun ss μ1 => b ρ μ1 fun ts μ2 => (kp np idx ss ts).length = n ∧ φ (kp np idx ss ts) μ2 Q (fun C f s μ3 => R C f s ρ μ3) := rfl
theorem alike {told : OutI → List PyData → Prop} {Ss : List LamT} {ds due : List PyData} {o : OutI} (ht : told o due) (h : ∀ S ∈ Ss, ∀ ν, OutI.of (fvOf S.N (S.sel.map (ds[·]?)) S.de) ν o) : ∀ S ∈ Ss, ∃ o, told o due ∧ ∀ ν, OutI.of (fvOf S.N (S.sel.map (ds[·]?)) S.de) ν o := fun S hm => ⟨o, ht, h S hm⟩
theorem for_lit {e : DE} {g : DG} {b : DS} {D : DEnds} {ρ : Rho} {μ : Mu} {ds : List PyData} (he : ∀ R : DQ, R (.dat (.list ds)) μ → e ρ μ R) (h : forD (fun ν => rd ν (.dat (.list ds)) = some (.list ds)) g b D (ds.map .dat) ρ μ) : dFor (iSeq e) g b D ρ μ := he _ h
theorem for_turns {C : Mu → Prop} {g : DG} {b : DS} {D : DEnds} {μ : Mu} (hC : C μ) (I : Rho → Prop) (ds : List PyData) (ρ : Rho) (h0 : I ρ) (hs : ∀ d ∈ ds, ∀ ρ, I ρ → ∀ N : Rho → Mu → Prop, (∀ ρ', I ρ' → N ρ' μ) → g (.dat d) ρ μ fun ρ1 μ1 => b { D with nx := N, ct := N, bk := D.nx } ρ1 μ1) (k : ∀ ρ', I ρ' → D.nx ρ' μ) : forD C g b D (ds.map Sl.dat) ρ μ :=
  for_inv hC I _ ρ h0 (fun s hm => by
    obtain ⟨d, hd, rfl⟩ := List.mem_map.mp hm
    exact hs d hd) k
class Tabs where
  T : Nat → Addr
end DL
namespace K10
open PySem PySem.Spec PyProof.Rows L2 Evl DL LamX NdefX
def topS (i : Nat) : Stmt := PySem.Challenge.pw_wishways_k10_numbers_refused.main.body.getD i (.Pass ⟨0, 0, 0, 0⟩)
def clsBody : Stmt → List Stmt
  | .ClassDef (body := b) .. => b
  | _ => []
abbrev s_is_integer : Stmt := topS 13
theorem sc_is_integer : FnScope ["value"] ["value"] (defScope s_is_integer) := ⟨rfl, rfl, rfl, by decide +kernel, rfl, by decide +kernel, by decide +kernel⟩
abbrev s_is_listed : Stmt := topS 14
theorem sc_is_listed : FnScope ["value"] ["value"] (defScope s_is_listed) := ⟨rfl, rfl, rfl, by decide +kernel, rfl, by decide +kernel, by decide +kernel⟩
abbrev s_is_tuple_of : Stmt := topS 15
theorem sc_is_tuple_of : FnScope ["value", "many"] ["value", "many"] (defScope s_is_tuple_of) := ⟨rfl, rfl, rfl, by decide +kernel, rfl, by decide +kernel, by decide +kernel⟩
abbrev s_are_integers : Stmt := topS 16
theorem sc_are_integers : FnScope ["value", "number"] ["value"] (defScope s_are_integers) := ⟨rfl, rfl, rfl, by decide +kernel, rfl, by decide +kernel, by decide +kernel⟩
abbrev s_check_text : Stmt := topS 17
theorem sc_check_text : FnScope ["text"] ["text"] (defScope s_check_text) := ⟨rfl, rfl, rfl, by decide +kernel, rfl, by decide +kernel, by decide +kernel⟩
abbrev s_is_ratio : Stmt := topS 19
theorem sc_is_ratio : FnScope ["value", "number", "under"] ["value"] (defScope s_is_ratio) := ⟨rfl, rfl, rfl, by decide +kernel, rfl, by decide +kernel, by decide +kernel⟩
abbrev s_check_integer : Stmt := topS 20
theorem sc_check_integer : FnScope ["value"] ["value"] (defScope s_check_integer) := ⟨rfl, rfl, rfl, by decide +kernel, rfl, by decide +kernel, by decide +kernel⟩
abbrev s_check_ratio : Stmt := topS 21
theorem sc_check_ratio : FnScope ["value"] ["value"] (defScope s_check_ratio) := ⟨rfl, rfl, rfl, by decide +kernel, rfl, by decide +kernel, by decide +kernel⟩
abbrev s_check_ratios : Stmt := topS 22
theorem sc_check_ratios : FnScope ["near", "far"] ["near", "far"] (defScope s_check_ratios) := ⟨rfl, rfl, rfl, by decide +kernel, rfl, by decide +kernel, by decide +kernel⟩
abbrev s_made : Stmt := topS 24
theorem sc_made : FnScope ["number", "under"] ["number", "under"] (defScope s_made) := ⟨rfl, rfl, rfl, by decide +kernel, rfl, by decide +kernel, by decide +kernel⟩
abbrev s_plus : Stmt := topS 25
theorem sc_plus : FnScope ["near", "far"] ["near", "far"] (defScope s_plus) := ⟨rfl, rfl, rfl, by decide +kernel, rfl, by decide +kernel, by decide +kernel⟩
abbrev s_minus : Stmt := topS 26
theorem sc_minus : FnScope ["near", "far"] ["near", "far"] (defScope s_minus) := ⟨rfl, rfl, rfl, by decide +kernel, rfl, by decide +kernel, by decide +kernel⟩
abbrev s_times : Stmt := topS 27
theorem sc_times : FnScope ["near", "far"] ["near", "far"] (defScope s_times) := ⟨rfl, rfl, rfl, by decide +kernel, rfl, by decide +kernel, by decide +kernel⟩
abbrev s_over : Stmt := topS 28
theorem sc_over : FnScope ["near", "far"] ["near", "far"] (defScope s_over) := ⟨rfl, rfl, rfl, by decide +kernel, rfl, by decide +kernel, by decide +kernel⟩
abbrev s_compared : Stmt := topS 29
theorem sc_compared : FnScope ["near", "far", "left", "right"] ["near", "far"] (defScope s_compared) := ⟨rfl, rfl, rfl, by decide +kernel, rfl, by decide +kernel, by decide +kernel⟩
abbrev s_floor_of : Stmt := topS 30
theorem sc_floor_of : FnScope ["ratio"] ["ratio"] (defScope s_floor_of) := ⟨rfl, rfl, rfl, by decide +kernel, rfl, by decide +kernel, by decide +kernel⟩
abbrev s_ceiling_of : Stmt := topS 31
theorem sc_ceiling_of : FnScope ["ratio"] ["ratio"] (defScope s_ceiling_of) := ⟨rfl, rfl, rfl, by decide +kernel, rfl, by decide +kernel, by decide +kernel⟩
abbrev s_ratio_text : Stmt := topS 32
theorem sc_ratio_text : FnScope ["ratio", "number", "under", "sign", "text"] ["ratio"] (defScope s_ratio_text) := ⟨rfl, rfl, rfl, by decide +kernel, rfl, by decide +kernel, by decide +kernel⟩
abbrev s_parse_ratio : Stmt := topS 34
theorem sc_parse_ratio : FnScope ["text", "begin", "end", "last"] ["text"] (defScope s_parse_ratio) := ⟨rfl, rfl, rfl, by decide +kernel, rfl, by decide +kernel, by decide +kernel⟩
abbrev s_digits_end : Stmt := topS 35
theorem sc_digits_end : FnScope ["text", "begin", "end"] ["text", "begin"] (defScope s_digits_end) := ⟨rfl, rfl, rfl, by decide +kernel, rfl, by decide +kernel, by decide +kernel⟩
abbrev s_is_row : Stmt := topS 37
theorem sc_is_row : FnScope ["value"] ["value"] (defScope s_is_row) := ⟨rfl, rfl, rfl, by decide +kernel, rfl, by decide +kernel, by decide +kernel⟩
abbrev s_check_row : Stmt := topS 38
theorem sc_check_row : FnScope ["value"] ["value"] (defScope s_check_row) := ⟨rfl, rfl, rfl, by decide +kernel, rfl, by decide +kernel, by decide +kernel⟩
abbrev s_check_rows : Stmt := topS 39
theorem sc_check_rows : FnScope ["row", "other"] ["row", "other"] (defScope s_check_rows) := ⟨rfl, rfl, rfl, by decide +kernel, rfl, by decide +kernel, by decide +kernel⟩
abbrev s_check_ratio_list : Stmt := topS 40
theorem sc_check_ratio_list : FnScope ["ratios", "ratio"] ["ratios"] (defScope s_check_ratio_list) := ⟨rfl, rfl, rfl, by decide +kernel, rfl, by decide +kernel, by decide +kernel⟩
abbrev s_row_product : Stmt := topS 42
theorem sc_row_product : FnScope ["row", "other"] ["row", "other"] (defScope s_row_product) := ⟨rfl, rfl, rfl, by decide +kernel, rfl, by decide +kernel, by decide +kernel⟩
abbrev s_row_sum : Stmt := topS 43
theorem sc_row_sum : FnScope ["row", "other", "number", "more"] ["row", "other"] (defScope s_row_sum) := ⟨rfl, rfl, rfl, by decide +kernel, rfl, by decide +kernel, by decide +kernel⟩
abbrev s_row_taken : Stmt := topS 44
theorem sc_row_taken : FnScope ["row", "number", "part"] ["row", "number"] (defScope s_row_taken) := ⟨rfl, rfl, rfl, by decide +kernel, rfl, by decide +kernel, by decide +kernel⟩
abbrev s_row_divisor : Stmt := topS 45
theorem sc_row_divisor : FnScope ["row", "divisor", "number"] ["row"] (defScope s_row_divisor) := ⟨rfl, rfl, rfl, by decide +kernel, rfl, by decide +kernel, by decide +kernel⟩
abbrev s_row_reduced : Stmt := topS 46
theorem sc_row_reduced : FnScope ["row", "divisor", "number"] ["row"] (defScope s_row_reduced) := ⟨rfl, rfl, rfl, by decide +kernel, rfl, by decide +kernel, by decide +kernel⟩
abbrev s_common_under : Stmt := topS 47
theorem sc_common_under : FnScope ["ratios", "under", "ratio"] ["ratios"] (defScope s_common_under) := ⟨rfl, rfl, rfl, by decide +kernel, rfl, by decide +kernel, by decide +kernel⟩
abbrev s_whole_row : Stmt := topS 48
theorem sc_whole_row : FnScope ["ratios", "under", "ratio"] ["ratios"] (defScope s_whole_row) := ⟨rfl, rfl, rfl, by decide +kernel, rfl, by decide +kernel, by decide +kernel⟩
abbrev s_ratios_of : Stmt := topS 49
theorem sc_ratios_of : FnScope ["row", "under", "number"] ["row", "under"] (defScope s_ratios_of) := ⟨rfl, rfl, rfl, by decide +kernel, rfl, by decide +kernel, by decide +kernel⟩
abbrev s_law_pot : Stmt := topS 51
theorem sc_law_pot : FnScope ["script", "k", "cell"] ["script", "k"] (defScope s_law_pot) := ⟨rfl, rfl, rfl, by decide +kernel, rfl, by decide +kernel, by decide +kernel⟩
abbrev s_law_draw : Stmt := topS 52
theorem sc_law_draw : FnScope ["pot", "size", "digit"] ["pot", "size"] (defScope s_law_draw) := ⟨rfl, rfl, rfl, by decide +kernel, rfl, by decide +kernel, by decide +kernel⟩
abbrev s_law_common : Stmt := topS 54
theorem sc_law_common : FnScope ["one", "other"] ["one", "other"] (defScope s_law_common) := ⟨rfl, rfl, rfl, by decide +kernel, rfl, by decide +kernel, by decide +kernel⟩
abbrev s_law_ratio : Stmt := topS 55
theorem sc_law_ratio : FnScope ["number", "under", "common"] ["number", "under"] (defScope s_law_ratio) := ⟨rfl, rfl, rfl, by decide +kernel, rfl, by decide +kernel, by decide +kernel⟩
abbrev s_law_integers_right : Stmt := topS 59
theorem sc_law_integers_right : FnScope ["odd", "calls"] [] (defScope s_law_integers_right) := ⟨rfl, rfl, rfl, by decide +kernel, rfl, by decide +kernel, by decide +kernel⟩
abbrev s_law_ratios_right : Stmt := topS 60
theorem sc_law_ratios_right : FnScope ["good", "odds", "odd", "calls"] ["good"] (defScope s_law_ratios_right) := ⟨rfl, rfl, rfl, by decide +kernel, rfl, by decide +kernel, by decide +kernel⟩
abbrev s_law_lists_right : Stmt := topS 61
theorem sc_law_lists_right : FnScope ["good", "odd", "calls"] ["good"] (defScope s_law_lists_right) := ⟨rfl, rfl, rfl, by decide +kernel, rfl, by decide +kernel, by decide +kernel⟩
abbrev s_law : Stmt := topS 62
theorem sc_law : FnScope ["script", "pot", "good", "odd"] ["script"] (defScope s_law) := ⟨rfl, rfl, rfl, by decide +kernel, rfl, by decide +kernel, by decide +kernel⟩
abbrev i_InvalidInteger : Stmt := (clsBody (topS 3)).getD 0 (.Pass ⟨0, 0, 0, 0⟩)
theorem sc_InvalidInteger : FnScope ["self", "value"] ["self", "value"] (defScope i_InvalidInteger) := ⟨rfl, rfl, rfl, by decide +kernel, rfl, by decide +kernel, by decide +kernel⟩
abbrev i_InvalidRatio : Stmt := (clsBody (topS 4)).getD 0 (.Pass ⟨0, 0, 0, 0⟩)
theorem sc_InvalidRatio : FnScope ["self", "value"] ["self", "value"] (defScope i_InvalidRatio) := ⟨rfl, rfl, rfl, by decide +kernel, rfl, by decide +kernel, by decide +kernel⟩
abbrev i_InvalidText : Stmt := (clsBody (topS 5)).getD 0 (.Pass ⟨0, 0, 0, 0⟩)
theorem sc_InvalidText : FnScope ["self", "value"] ["self", "value"] (defScope i_InvalidText) := ⟨rfl, rfl, rfl, by decide +kernel, rfl, by decide +kernel, by decide +kernel⟩
abbrev i_BadText : Stmt := (clsBody (topS 6)).getD 0 (.Pass ⟨0, 0, 0, 0⟩)
theorem sc_BadText : FnScope ["self", "position"] ["self", "position"] (defScope i_BadText) := ⟨rfl, rfl, rfl, by decide +kernel, rfl, by decide +kernel, by decide +kernel⟩
abbrev i_InvalidRatios : Stmt := (clsBody (topS 7)).getD 0 (.Pass ⟨0, 0, 0, 0⟩)
theorem sc_InvalidRatios : FnScope ["self", "value"] ["self", "value"] (defScope i_InvalidRatios) := ⟨rfl, rfl, rfl, by decide +kernel, rfl, by decide +kernel, by decide +kernel⟩
abbrev i_InvalidRow : Stmt := (clsBody (topS 8)).getD 0 (.Pass ⟨0, 0, 0, 0⟩)
theorem sc_InvalidRow : FnScope ["self", "value"] ["self", "value"] (defScope i_InvalidRow) := ⟨rfl, rfl, rfl, by decide +kernel, rfl, by decide +kernel, by decide +kernel⟩
abbrev l_law_integers_right_0 : Expr := nth (elts (stV ((forB ((defBody s_law_integers_right).getD 0 noSt)).getD 0 noSt))) 0
theorem nd_law_integers_right_0 : ndefB (defScope s_law_integers_right) (lS l_law_integers_right_0) ["odd"] = true := by decide +kernel
theorem ns_law_integers_right_0 : nscB ["odd"] [] ["odd"] (lS l_law_integers_right_0) = true := by decide +kernel
abbrev l_law_integers_right_1 : Expr := nth (elts (stV ((forB ((defBody s_law_integers_right).getD 0 noSt)).getD 1 noSt))) 0
theorem nd_law_integers_right_1 : ndefB (defScope s_law_integers_right) (lS l_law_integers_right_1) ["odd"] = true := by decide +kernel
theorem ns_law_integers_right_1 : nscB ["odd"] [] ["odd"] (lS l_law_integers_right_1) = true := by decide +kernel
abbrev l_law_integers_right_2 : Expr := nth (elts (stV ((forB ((defBody s_law_integers_right).getD 0 noSt)).getD 2 noSt))) 0
theorem nd_law_integers_right_2 : ndefB (defScope s_law_integers_right) (lS l_law_integers_right_2) ["odd"] = true := by decide +kernel
theorem ns_law_integers_right_2 : nscB ["odd"] [] ["odd"] (lS l_law_integers_right_2) = true := by decide +kernel
abbrev l_law_integers_right_3 : Expr := nth (elts (stV ((forB ((defBody s_law_integers_right).getD 0 noSt)).getD 3 noSt))) 0
theorem nd_law_integers_right_3 : ndefB (defScope s_law_integers_right) (lS l_law_integers_right_3) ["odd"] = true := by decide +kernel
theorem ns_law_integers_right_3 : nscB ["odd"] [] ["odd"] (lS l_law_integers_right_3) = true := by decide +kernel
abbrev l_law_integers_right_4 : Expr := nth (elts (stV ((forB ((defBody s_law_integers_right).getD 0 noSt)).getD 4 noSt))) 0
theorem nd_law_integers_right_4 : ndefB (defScope s_law_integers_right) (lS l_law_integers_right_4) ["odd"] = true := by decide +kernel
theorem ns_law_integers_right_4 : nscB ["odd"] [] ["odd"] (lS l_law_integers_right_4) = true := by decide +kernel
abbrev l_law_integers_right_5 : Expr := nth (elts (stV ((defBody s_law_integers_right).getD 1 noSt))) 0
theorem nd_law_integers_right_5 : ndefB (defScope s_law_integers_right) (lS l_law_integers_right_5) [] = true := by decide +kernel
theorem ns_law_integers_right_5 : nscB [] [] [] (lS l_law_integers_right_5) = true := by decide +kernel
abbrev l_law_integers_right_6 : Expr := nth (elts (stV ((defBody s_law_integers_right).getD 2 noSt))) 0
theorem nd_law_integers_right_6 : ndefB (defScope s_law_integers_right) (lS l_law_integers_right_6) [] = true := by decide +kernel
theorem ns_law_integers_right_6 : nscB [] [] [] (lS l_law_integers_right_6) = true := by decide +kernel
abbrev l_law_integers_right_7 : Expr := nth (elts (stV ((defBody s_law_integers_right).getD 3 noSt))) 0
theorem nd_law_integers_right_7 : ndefB (defScope s_law_integers_right) (lS l_law_integers_right_7) [] = true := by decide +kernel
theorem ns_law_integers_right_7 : nscB [] [] [] (lS l_law_integers_right_7) = true := by decide +kernel
abbrev l_law_ratios_right_0 : Expr := nth (elts (stV ((forB ((defBody s_law_ratios_right).getD 1 noSt)).getD 0 noSt))) 0
theorem nd_law_ratios_right_0 : ndefB (defScope s_law_ratios_right) (lS l_law_ratios_right_0) ["odd"] = true := by decide +kernel
theorem ns_law_ratios_right_0 : nscB ["odd"] [] ["odd"] (lS l_law_ratios_right_0) = true := by decide +kernel
abbrev l_law_ratios_right_1 : Expr := nth (elts (stV ((forB ((defBody s_law_ratios_right).getD 1 noSt)).getD 1 noSt))) 0
theorem nd_law_ratios_right_1 : ndefB (defScope s_law_ratios_right) (lS l_law_ratios_right_1) ["odd"] = true := by decide +kernel
theorem ns_law_ratios_right_1 : nscB ["odd"] [] ["odd"] (lS l_law_ratios_right_1) = true := by decide +kernel
abbrev l_law_ratios_right_2 : Expr := nth (elts (stV ((forB ((defBody s_law_ratios_right).getD 1 noSt)).getD 2 noSt))) 0
theorem nd_law_ratios_right_2 : ndefB (defScope s_law_ratios_right) (lS l_law_ratios_right_2) ["odd"] = true := by decide +kernel
theorem ns_law_ratios_right_2 : nscB ["odd"] [] ["odd"] (lS l_law_ratios_right_2) = true := by decide +kernel
abbrev l_law_ratios_right_3 : Expr := nth (elts (stV ((forB ((defBody s_law_ratios_right).getD 1 noSt)).getD 3 noSt))) 0
theorem nd_law_ratios_right_3 : ndefB (defScope s_law_ratios_right) (lS l_law_ratios_right_3) ["odd"] = true := by decide +kernel
theorem ns_law_ratios_right_3 : nscB ["odd"] [] ["odd"] (lS l_law_ratios_right_3) = true := by decide +kernel
abbrev l_law_ratios_right_4 : Expr := nth (elts (stV ((forB ((defBody s_law_ratios_right).getD 1 noSt)).getD 4 noSt))) 0
theorem nd_law_ratios_right_4 : ndefB (defScope s_law_ratios_right) (lS l_law_ratios_right_4) ["odd"] = true := by decide +kernel
theorem ns_law_ratios_right_4 : nscB ["odd"] [] ["odd"] (lS l_law_ratios_right_4) = true := by decide +kernel
abbrev l_law_ratios_right_5 : Expr := nth (elts (stV ((forB ((defBody s_law_ratios_right).getD 1 noSt)).getD 5 noSt))) 0
theorem nd_law_ratios_right_5 : ndefB (defScope s_law_ratios_right) (lS l_law_ratios_right_5) ["odd"] = true := by decide +kernel
theorem ns_law_ratios_right_5 : nscB ["odd"] [] ["odd"] (lS l_law_ratios_right_5) = true := by decide +kernel
abbrev l_law_ratios_right_6 : Expr := nth (elts (stV ((forB ((defBody s_law_ratios_right).getD 1 noSt)).getD 6 noSt))) 0
theorem nd_law_ratios_right_6 : ndefB (defScope s_law_ratios_right) (lS l_law_ratios_right_6) ["good", "odd"] = true := by decide +kernel
theorem ns_law_ratios_right_6 : nscB ["good", "odd"] [] ["good", "odd"] (lS l_law_ratios_right_6) = true := by decide +kernel
abbrev l_law_ratios_right_7 : Expr := nth (elts (stV ((forB ((defBody s_law_ratios_right).getD 1 noSt)).getD 7 noSt))) 0
theorem nd_law_ratios_right_7 : ndefB (defScope s_law_ratios_right) (lS l_law_ratios_right_7) ["good", "odd"] = true := by decide +kernel
theorem ns_law_ratios_right_7 : nscB ["good", "odd"] [] ["good", "odd"] (lS l_law_ratios_right_7) = true := by decide +kernel
abbrev l_law_ratios_right_8 : Expr := nth (elts (stV ((forB ((defBody s_law_ratios_right).getD 1 noSt)).getD 8 noSt))) 0
theorem nd_law_ratios_right_8 : ndefB (defScope s_law_ratios_right) (lS l_law_ratios_right_8) ["good", "odd"] = true := by decide +kernel
theorem ns_law_ratios_right_8 : nscB ["good", "odd"] [] ["good", "odd"] (lS l_law_ratios_right_8) = true := by decide +kernel
abbrev l_law_ratios_right_9 : Expr := nth (elts (stV ((forB ((defBody s_law_ratios_right).getD 1 noSt)).getD 9 noSt))) 0
theorem nd_law_ratios_right_9 : ndefB (defScope s_law_ratios_right) (lS l_law_ratios_right_9) ["good", "odd"] = true := by decide +kernel
theorem ns_law_ratios_right_9 : nscB ["good", "odd"] [] ["good", "odd"] (lS l_law_ratios_right_9) = true := by decide +kernel
abbrev l_law_ratios_right_10 : Expr := nth (elts (stV ((forB ((defBody s_law_ratios_right).getD 1 noSt)).getD 10 noSt))) 0
theorem nd_law_ratios_right_10 : ndefB (defScope s_law_ratios_right) (lS l_law_ratios_right_10) ["good", "odd"] = true := by decide +kernel
theorem ns_law_ratios_right_10 : nscB ["good", "odd"] [] ["good", "odd"] (lS l_law_ratios_right_10) = true := by decide +kernel
abbrev l_law_ratios_right_11 : Expr := nth (elts (stV ((forB ((defBody s_law_ratios_right).getD 1 noSt)).getD 11 noSt))) 0
theorem nd_law_ratios_right_11 : ndefB (defScope s_law_ratios_right) (lS l_law_ratios_right_11) ["odd"] = true := by decide +kernel
theorem ns_law_ratios_right_11 : nscB ["odd"] [] ["odd"] (lS l_law_ratios_right_11) = true := by decide +kernel
abbrev l_law_ratios_right_12 : Expr := nth (elts (stV ((forB ((defBody s_law_ratios_right).getD 1 noSt)).getD 12 noSt))) 0
theorem nd_law_ratios_right_12 : ndefB (defScope s_law_ratios_right) (lS l_law_ratios_right_12) ["odd"] = true := by decide +kernel
theorem ns_law_ratios_right_12 : nscB ["odd"] [] ["odd"] (lS l_law_ratios_right_12) = true := by decide +kernel
abbrev l_law_ratios_right_13 : Expr := nth (elts (stV ((forB ((defBody s_law_ratios_right).getD 1 noSt)).getD 13 noSt))) 0
theorem nd_law_ratios_right_13 : ndefB (defScope s_law_ratios_right) (lS l_law_ratios_right_13) ["odd"] = true := by decide +kernel
theorem ns_law_ratios_right_13 : nscB ["odd"] [] ["odd"] (lS l_law_ratios_right_13) = true := by decide +kernel
abbrev l_law_lists_right_0 : Expr := nth (elts (stV ((forB ((defBody s_law_lists_right).getD 0 noSt)).getD 0 noSt))) 0
theorem nd_law_lists_right_0 : ndefB (defScope s_law_lists_right) (lS l_law_lists_right_0) ["odd"] = true := by decide +kernel
theorem ns_law_lists_right_0 : nscB ["odd"] [] ["odd"] (lS l_law_lists_right_0) = true := by decide +kernel
abbrev l_law_lists_right_1 : Expr := nth (elts (stV ((forB ((defBody s_law_lists_right).getD 0 noSt)).getD 1 noSt))) 0
theorem nd_law_lists_right_1 : ndefB (defScope s_law_lists_right) (lS l_law_lists_right_1) ["odd"] = true := by decide +kernel
theorem ns_law_lists_right_1 : nscB ["odd"] [] ["odd"] (lS l_law_lists_right_1) = true := by decide +kernel
abbrev l_law_lists_right_2 : Expr := nth (elts (stV ((forB ((defBody s_law_lists_right).getD 1 noSt)).getD 0 noSt))) 0
theorem nd_law_lists_right_2 : ndefB (defScope s_law_lists_right) (lS l_law_lists_right_2) ["odd"] = true := by decide +kernel
theorem ns_law_lists_right_2 : nscB ["odd"] [] ["odd"] (lS l_law_lists_right_2) = true := by decide +kernel
abbrev l_law_lists_right_3 : Expr := nth (elts (stV ((forB ((defBody s_law_lists_right).getD 1 noSt)).getD 1 noSt))) 0
theorem nd_law_lists_right_3 : ndefB (defScope s_law_lists_right) (lS l_law_lists_right_3) ["odd"] = true := by decide +kernel
theorem ns_law_lists_right_3 : nscB ["odd"] [] ["odd"] (lS l_law_lists_right_3) = true := by decide +kernel
abbrev l_law_lists_right_4 : Expr := nth (elts (stV ((forB ((defBody s_law_lists_right).getD 1 noSt)).getD 2 noSt))) 0
theorem nd_law_lists_right_4 : ndefB (defScope s_law_lists_right) (lS l_law_lists_right_4) ["odd"] = true := by decide +kernel
theorem ns_law_lists_right_4 : nscB ["odd"] [] ["odd"] (lS l_law_lists_right_4) = true := by decide +kernel
abbrev l_law_lists_right_5 : Expr := nth (elts (stV ((forB ((defBody s_law_lists_right).getD 1 noSt)).getD 3 noSt))) 0
theorem nd_law_lists_right_5 : ndefB (defScope s_law_lists_right) (lS l_law_lists_right_5) ["odd"] = true := by decide +kernel
theorem ns_law_lists_right_5 : nscB ["odd"] [] ["odd"] (lS l_law_lists_right_5) = true := by decide +kernel
abbrev l_law_lists_right_6 : Expr := nth (elts (stV ((forB ((defBody s_law_lists_right).getD 1 noSt)).getD 4 noSt))) 0
theorem nd_law_lists_right_6 : ndefB (defScope s_law_lists_right) (lS l_law_lists_right_6) ["odd"] = true := by decide +kernel
theorem ns_law_lists_right_6 : nscB ["odd"] [] ["odd"] (lS l_law_lists_right_6) = true := by decide +kernel
abbrev l_law_lists_right_7 : Expr := nth (elts (stV ((forB ((defBody s_law_lists_right).getD 1 noSt)).getD 5 noSt))) 0
theorem nd_law_lists_right_7 : ndefB (defScope s_law_lists_right) (lS l_law_lists_right_7) ["odd"] = true := by decide +kernel
theorem ns_law_lists_right_7 : nscB ["odd"] [] ["odd"] (lS l_law_lists_right_7) = true := by decide +kernel
abbrev l_law_lists_right_8 : Expr := nth (elts (stV ((forB ((defBody s_law_lists_right).getD 1 noSt)).getD 6 noSt))) 0
theorem nd_law_lists_right_8 : ndefB (defScope s_law_lists_right) (lS l_law_lists_right_8) ["odd"] = true := by decide +kernel
theorem ns_law_lists_right_8 : nscB ["odd"] [] ["odd"] (lS l_law_lists_right_8) = true := by decide +kernel
abbrev l_law_lists_right_9 : Expr := nth (elts (stV ((forB ((defBody s_law_lists_right).getD 1 noSt)).getD 7 noSt))) 0
theorem nd_law_lists_right_9 : ndefB (defScope s_law_lists_right) (lS l_law_lists_right_9) ["odd"] = true := by decide +kernel
theorem ns_law_lists_right_9 : nscB ["odd"] [] ["odd"] (lS l_law_lists_right_9) = true := by decide +kernel
abbrev l_law_lists_right_10 : Expr := nth (elts (stV ((forB ((defBody s_law_lists_right).getD 1 noSt)).getD 8 noSt))) 0
theorem nd_law_lists_right_10 : ndefB (defScope s_law_lists_right) (lS l_law_lists_right_10) ["odd"] = true := by decide +kernel
theorem ns_law_lists_right_10 : nscB ["odd"] [] ["odd"] (lS l_law_lists_right_10) = true := by decide +kernel
abbrev l_law_lists_right_11 : Expr := nth (elts (stV ((forB ((defBody s_law_lists_right).getD 1 noSt)).getD 9 noSt))) 0
theorem nd_law_lists_right_11 : ndefB (defScope s_law_lists_right) (lS l_law_lists_right_11) ["odd"] = true := by decide +kernel
theorem ns_law_lists_right_11 : nscB ["odd"] [] ["odd"] (lS l_law_lists_right_11) = true := by decide +kernel
abbrev l_law_lists_right_12 : Expr := nth (elts (stV ((defBody s_law_lists_right).getD 2 noSt))) 0
theorem nd_law_lists_right_12 : ndefB (defScope s_law_lists_right) (lS l_law_lists_right_12) [] = true := by decide +kernel
theorem ns_law_lists_right_12 : nscB [] [] [] (lS l_law_lists_right_12) = true := by decide +kernel
abbrev l_law_lists_right_13 : Expr := nth (elts (stV ((defBody s_law_lists_right).getD 3 noSt))) 0
theorem nd_law_lists_right_13 : ndefB (defScope s_law_lists_right) (lS l_law_lists_right_13) [] = true := by decide +kernel
theorem ns_law_lists_right_13 : nscB [] [] [] (lS l_law_lists_right_13) = true := by decide +kernel
abbrev l_law_lists_right_14 : Expr := nth (elts (stV ((defBody s_law_lists_right).getD 5 noSt))) 0
theorem nd_law_lists_right_14 : ndefB (defScope s_law_lists_right) (lS l_law_lists_right_14) ["good"] = true := by decide +kernel
theorem ns_law_lists_right_14 : nscB ["good"] [] ["good"] (lS l_law_lists_right_14) = true := by decide +kernel
abbrev l_law_lists_right_15 : Expr := nth (elts (stV ((defBody s_law_lists_right).getD 6 noSt))) 0
theorem nd_law_lists_right_15 : ndefB (defScope s_law_lists_right) (lS l_law_lists_right_15) [] = true := by decide +kernel
theorem ns_law_lists_right_15 : nscB [] [] [] (lS l_law_lists_right_15) = true := by decide +kernel
abbrev l_law_0 : Expr := nth (elts (nth (elts (nth (elts (stV ((forB ((defBody s_law).getD 3 noSt)).getD 0 noSt))) 0)) 0)) 0
theorem nd_law_0 : ndefB (defScope s_law) (lS l_law_0) ["odd"] = true := by decide +kernel
theorem ns_law_0 : nscB ["odd"] [] ["odd"] (lS l_law_0) = true := by decide +kernel
abbrev l_law_1 : Expr := nth (elts (nth (elts (stV ((defBody s_law).getD 4 noSt))) 0)) 0
theorem nd_law_1 : ndefB (defScope s_law) (lS l_law_1) [] = true := by decide +kernel
theorem ns_law_1 : nscB [] [] [] (lS l_law_1) = true := by decide +kernel
abbrev tabN : List Str := [PySem.Str.ofString "_law_integers_right.<locals>.<lambda>", PySem.Str.ofString "_law_ratios_right.<locals>.<lambda>", PySem.Str.ofString "_law_lists_right.<locals>.<lambda>", PySem.Str.ofString "law.<locals>.<lambda>"]
abbrev q_law_integers_right : Str := PySem.Str.ofString "_law_integers_right.<locals>.<lambda>"
abbrev q_law_ratios_right : Str := PySem.Str.ofString "_law_ratios_right.<locals>.<lambda>"
abbrev q_law_lists_right : Str := PySem.Str.ofString "_law_lists_right.<locals>.<lambda>"
abbrev q_law : Str := PySem.Str.ofString "law.<locals>.<lambda>"
end K10
namespace K10
open PySem PySem.Spec PyProof.Rows L2 Evl DL
abbrev s_hk : Stmt := topS 56
theorem sc_hk : FnScope ["call", "told", "e"] ["call"] (defScope s_hk) := ⟨rfl, rfl, rfl, by decide +kernel, rfl, by decide +kernel, by decide +kernel⟩
abbrev s_h : Stmt := topS 57
theorem sc_h : FnScope ["call", "told", "e"] ["call"] (defScope s_h) := ⟨rfl, rfl, rfl, by decide +kernel, rfl, by decide +kernel, by decide +kernel⟩
abbrev i_text : Stmt := (clsBody (topS 5)).getD 0 (.Pass ⟨0, 0, 0, 0⟩)
abbrev i_bad : Stmt := (clsBody (topS 6)).getD 0 (.Pass ⟨0, 0, 0, 0⟩)
abbrev s_all : Stmt := topS 58
theorem sc_all : FnScope ["calls", "due", "call"] ["calls", "due"] (defScope s_all) := ⟨rfl, rfl, rfl, by decide +kernel, rfl, by decide +kernel, by decide +kernel⟩
abbrev i_Int : Stmt := (clsBody (topS 3)).getD 0 (.Pass ⟨0, 0, 0, 0⟩)
abbrev i_Rat : Stmt := (clsBody (topS 4)).getD 0 (.Pass ⟨0, 0, 0, 0⟩)
abbrev i_Rats : Stmt := (clsBody (topS 7)).getD 0 (.Pass ⟨0, 0, 0, 0⟩)
abbrev i_Row : Stmt := (clsBody (topS 8)).getD 0 (.Pass ⟨0, 0, 0, 0⟩)
theorem vne : ("value" : Str) ≠ ("" : Str) := by decide
def clInt (C : Addr) : ClI := ⟨C, "value", [.str "integer", .rep, .is]⟩
def clRat (C : Addr) : ClI := ⟨C, "value", [.str "ratio", .rep, .is]⟩
def clRats (C : Addr) : ClI := ⟨C, "value", [.str "ratios", .rep, .is]⟩
def clRow (C : Addr) : ClI := ⟨C, "value", [.str "row", .rep, .is]⟩
theorem pne : ("position" : Str) ≠ ("" : Str) := by decide
def clText (C : Addr) : ClI := ⟨C, "value", [.str "text", .rep, .is]⟩
def clBad (C : Addr) : ClI := ⟨C, "position", [.str "bad", .rep, .is]⟩
def clQuo (C : Addr) : ClI := ⟨C, ("" : Str), [.str "quotient", .is]⟩
def clLen (C : Addr) : ClI := ⟨C, ("" : Str), [.str "lengths", .is]⟩
section
variable {P : Program} {w : World} {K : PySem.W.Frag} {mg : Str → Option Value} {base : Heap} {CInt CRat CRats CRow B fInt fRat fRats fRow : Addr} {Θ : Th} {lvl : Nat} {outs : List Addr}
theorem owE_kinds (hm : ∃ f fd, Fun K "_law_heard_kinds" "_law_heard_kinds" s_hk f fd ∧ mg "_law_heard_kinds" = some (.ref f)) (hθ : ∀ f t φ, Θ f t φ → FnV P w K mg base lvl f t φ) (TInt : ErrT K mg "InvalidInteger" "value" i_Int "InvalidInteger.__init__" CInt fInt) (KBInt : Kin K mg "WayError" CInt B) (TRat : ErrT K mg "InvalidRatio" "value" i_Rat "InvalidRatio.__init__" CRat fRat) (KBRat : Kin K mg "WayError" CRat B) (TRats : ErrT K mg "InvalidRatios" "value" i_Rats "InvalidRatios.__init__" CRats fRats) (KBRats : Kin K mg "WayError" CRats B) (TRow : ErrT K mg "InvalidRow" "value" i_Row "InvalidRow.__init__" CRow fRow) (KBRow : Kin K mg "WayError" CRow B)
    (nInt : ∀ C ∈ [clRat CRat, clRats CRats, clRow CRow].map ClI.C ++ outs, PySem.W.exmOne K (.ref C) (.ref CInt) = some false) (nRat : ∀ C ∈ [clRats CRats, clRow CRow].map ClI.C ++ outs, PySem.W.exmOne K (.ref C) (.ref CRat) = some false) (nRats : ∀ C ∈ [clRow CRow].map ClI.C ++ outs, PySem.W.exmOne K (.ref C) (.ref CRats) = some false) (nRow : ∀ C ∈ [].map ClI.C ++ outs, PySem.W.exmOne K (.ref C) (.ref CRow) = some false) (z_repr : mg "repr" = none) (z_isinstance : mg "isinstance" = none) : OwnE P w K mg base "_law_heard_kinds" s_hk ["call"] (lvl + 1) 1 (kindsF [clInt CInt, clRat CRat, clRats CRats, clRow CRow] outs Θ) := by
  obtain ⟨f, fd, F, hf⟩ := hm
  refine ⟨f, fd, F, okE F sc_hk rfl (fun cdv A outer s H E hr => ?_) pu_kinds, hf⟩
  have tk : Takes (cxOf (L2.CX P w) P w K mg base ["call", "told", "e"] "_law_heard_kinds" (defScope s_hk) f cdv A outer s H E) (fun cls d _ H => E cls d H) := takes_of rfl rfl rfl rfl
  exact pdsx_cons (pdx_of (pd_set (i := 1) sc_hk.nd (pd_lst (pda_cons pd_str pda_nil)))) (pdsx_cons (pdx_tryH (fun W pn xe tk2 po => pdsx_one (pdx_expr (pdx_callF (i := 0) tk2 hθ hr)))
      (pdh_cons (iT := 1) (iE := 2) sc_hk.nd TInt.gC TInt.te nInt (ptl_str (ptl_rep (ptl_is ptl_nil KBInt z_isinstance) TInt hr z_repr (hfn := vne)))
      (pdh_cons (iT := 1) (iE := 2) sc_hk.nd TRat.gC TRat.te nRat (ptl_str (ptl_rep (ptl_is ptl_nil KBRat z_isinstance) TRat hr z_repr (hfn := vne)))
      (pdh_cons (iT := 1) (iE := 2) sc_hk.nd TRats.gC TRats.te nRats (ptl_str (ptl_rep (ptl_is ptl_nil KBRats z_isinstance) TRats hr z_repr (hfn := vne)))
      (pdh_cons (iT := 1) (iE := 2) sc_hk.nd TRow.gC TRow.te nRow (ptl_str (ptl_rep (ptl_is ptl_nil KBRow z_isinstance) TRow hr z_repr (hfn := vne)))
      (pdh_out tk)))))) (pdsx_one (pdx_of (pd_ret (pd_var 1)))))
variable {CText CBad CQuo CLen BS fText fBad : Addr} {k : Nat}
theorem ow_heard {cs1 : List ClI} (hm : ∃ f fd, Fun K "_law_heard" "_law_heard" s_h f fd ∧ mg "_law_heard" = some (.ref f)) (o : OwnE P w K mg base "_law_heard_kinds" s_hk ["call"] k 1 (kindsF cs1 ([clText CText, clBad CBad, clQuo CQuo, clLen CLen].map ClI.C) Θ))
    (TText : ErrT K mg "InvalidText" "value" i_text "InvalidText.__init__" CText fText) (TBad : ErrT K mg "BadText" "position" i_bad "BadText.__init__" CBad fBad) (TQuo : ErrN K mg "NoQuotient" CQuo) (TLen : ErrN K mg "UnlikeLengths" CLen)
    (KText : Kin K mg "WayError" CText B) (KBad : Kin K mg "WayError" CBad B) (KQuo : Kin K mg "StateError" CQuo BS) (KLen : Kin K mg "StateError" CLen BS)
    (nText : ∀ C ∈ [clBad CBad, clQuo CQuo, clLen CLen].map ClI.C ++ [], PySem.W.exmOne K (.ref C) (.ref CText) = some false) (nBad : ∀ C ∈ [clQuo CQuo, clLen CLen].map ClI.C ++ [], PySem.W.exmOne K (.ref C) (.ref CBad) = some false) (nQuo : ∀ C ∈ [clLen CLen].map ClI.C ++ [], PySem.W.exmOne K (.ref C) (.ref CQuo) = some false)
    (z_repr : mg "repr" = none) (z_isinstance : mg "isinstance" = none) : Own P w K mg base "_law_heard" s_h ["call"] (k + 1) 1 (heardF (Told (cs1 ++ [clText CText, clBad CBad, clQuo CQuo, clLen CLen])) Θ) := by
  obtain ⟨f, fd, F, hf⟩ := hm
  refine ⟨f, fd, F, okD F sc_h rfl (fun cdv A outer s H E hr => ?_) pu_heard, hf⟩
  exact pds_cons (pds_ofX (XW := fun _ _ _ _ => False) (pdx_tryH (fun W pn xe tk2 po => pdsx_one (pdx_set (i := 1) sc_h.nd (pdx_call tk2 o hr (fun _ _ _ _ _ _ us hl => match us, hl with | [_], _ => rfl) (pda_cons (pd_var 0) pda_nil))))
    (pdh_cons (iT := 1) (iE := 2) sc_h.nd TText.gC TText.te nText (ptl_str (ptl_rep (ptl_is ptl_nil KText z_isinstance) TText hr z_repr (hfn := vne)))
    (pdh_cons (iT := 1) (iE := 2) sc_h.nd TBad.gC TBad.te nBad (ptl_str (ptl_rep (ptl_is ptl_nil KBad z_isinstance) TBad hr z_repr (hfn := pne)))
    (pdh_cons (iT := 1) (iE := 2) sc_h.nd TQuo.gC TQuo.te nQuo (ptl_str (ptl_is ptl_nil KQuo z_isinstance))
    (pdh_cons (iT := 1) (iE := 2) sc_h.nd TLen.gC TLen.te (fun _ z => by cases z) (ptl_str (ptl_is ptl_nil KLen z_isinstance))
    pdh_none)))))) (pds_one (pd_ret (pd_var 1)))
theorem ow_all {told : OutI → List PyData → Prop} (hm : ∃ f fd, Fun K "_law_all" "_law_all" s_all f fd ∧ mg "_law_all" = some (.ref f)) (o_law_heard : Own P w K mg base "_law_heard" s_h ["call"] k 1 (heardF told Θ)) : Own P w K mg base "_law_all" s_all ["calls", "due"] (k + 1) 2 (allF told Θ) := by
  obtain ⟨f, fd, F, hf⟩ := hm
  refine ⟨f, fd, F, okD F sc_all rfl (fun cdv A outer s H E hr => ?_) pu_allF, hf⟩
  exact pds_one (pd_ret (pd_cmp (op_eqV hr.u64) lr_eq (pd_lcQ fin_frz [("call", 2)] rfl sc_all.nd (pdi_refs (pd_var 0)) (blkOk_by (N := ["calls", "due", "call"]) (by show blkC _ (defScope s_all) _ _ = true; decide +kernel)) (ctg_name 2 (by decide) (fun _ _ _ _ _ => pg_name (i := 2) sc_all.nd rfl (Or.inl rfl))) (ctst_one (fun _ _ _ _ _ => (pdt_cmp (op_neV hr.u64) lr_ne (pd_call o_law_heard hr (fun _ _ _ _ _ _ us hl => match us, hl with | [_], _ => rfl) (pda_cons (pd_var 2) pda_nil)) (pd_var 1) (nomark _)))) (fun _ _ _ _ _ => (pd_var 2))) (pd_lst pda_nil) (nomark _)))
end
end K10
namespace K10
open PySem PySem.Spec PyProof.Rows L2 Evl DL LamX NdefX
variable [Cls] [Tabs]
def S_law_integers_right_0 (cl : List (Str × Addr)) : LamT := ⟨li l_law_integers_right_0 q_law_integers_right cl, ["odd"], ["odd"], [0], fun R => (dCallE 2 (phO f_made) (aCons (dVar 0) (aCons (dC .none) aNil)) R)⟩
def S_law_integers_right_1 (cl : List (Str × Addr)) : LamT := ⟨li l_law_integers_right_1 q_law_integers_right cl, ["odd"], ["odd"], [0], fun R => (dCallE 2 (phO f_made) (aCons (dVar 0) (aCons (dC (.int 0)) aNil)) R)⟩
def S_law_integers_right_2 (cl : List (Str × Addr)) : LamT := ⟨li l_law_integers_right_2 q_law_integers_right cl, ["odd"], ["odd"], [0], fun R => (dCallEK 0 [1, 0] 2 (phO f_made) aNil (aCons (dVar 0) (aCons (dC (.int 3)) aNil)) R)⟩
def S_law_integers_right_3 (cl : List (Str × Addr)) : LamT := ⟨li l_law_integers_right_3 q_law_integers_right cl, ["odd"], ["odd"], [0], fun R => (dCallEK 0 [1, 0] 2 (phO f_row_taken) aNil (aCons (dVar 0) (aCons (dTup (aCons (dC (.int 1)) (aCons (dC (.int 2)) aNil))) aNil)) R)⟩
def S_law_integers_right_4 (cl : List (Str × Addr)) : LamT := ⟨li l_law_integers_right_4 q_law_integers_right cl, ["odd"], ["odd"], [0], fun R => (dCallE 2 (phO f_ratios_of) (aCons (dTup (aCons (dC (.int 1)) (aCons (dC (.int 2)) aNil))) (aCons (dVar 0) aNil)) R)⟩
def S_law_integers_right_5 (cl : List (Str × Addr)) : LamT := ⟨li l_law_integers_right_5 q_law_integers_right cl, [], [], [], fun R => (dCallE 2 (phO f_made) (aCons (dC (.int 3)) (aCons (dC (.int 0)) aNil)) R)⟩
def S_law_integers_right_6 (cl : List (Str × Addr)) : LamT := ⟨li l_law_integers_right_6 q_law_integers_right cl, [], [], [], fun R => (dCallEK 0 [1, 0] 2 (phO f_ratios_of) aNil (aCons (dC (.int 0)) (aCons (dTup (aCons (dC (.int 1)) (aCons (dC (.int 2)) aNil))) aNil)) R)⟩
def S_law_integers_right_7 (cl : List (Str × Addr)) : LamT := ⟨li l_law_integers_right_7 q_law_integers_right cl, [], [], [], fun R => (dCallE 2 (phO f_over) (aCons (dTup (aCons (dC (.int 1)) (aCons (dC (.int 2)) aNil))) (aCons (dTup (aCons (dC (.int 0)) (aCons (dC (.int 1)) aNil))) aNil)) R)⟩
def Ss_law_integers_right_b0 (cl : List (Str × Addr)) : List LamT := [S_law_integers_right_0 cl, S_law_integers_right_1 cl, S_law_integers_right_2 cl, S_law_integers_right_3 cl, S_law_integers_right_4 cl]
def Ss_law_integers_right_b1 (cl : List (Str × Addr)) : List LamT := [S_law_integers_right_5 cl, S_law_integers_right_6 cl, S_law_integers_right_7 cl]
def S_law_ratios_right_0 (cl : List (Str × Addr)) : LamT := ⟨li l_law_ratios_right_0 q_law_ratios_right cl, ["odd"], ["odd"], [1], fun R => (dCallE 2 (phO f_plus) (aCons (dVar 0) (aCons (dC .none) aNil)) R)⟩
def S_law_ratios_right_1 (cl : List (Str × Addr)) : LamT := ⟨li l_law_ratios_right_1 q_law_ratios_right cl, ["odd"], ["odd"], [1], fun R => (dCallEK 0 [0, 1] 2 (phO f_minus) aNil (aCons (dVar 0) (aCons (dC .none) aNil)) R)⟩
def S_law_ratios_right_2 (cl : List (Str × Addr)) : LamT := ⟨li l_law_ratios_right_2 q_law_ratios_right cl, ["odd"], ["odd"], [1], fun R => (dCallE 2 (phO f_times) (aCons (dVar 0) (aCons (dC .none) aNil)) R)⟩
def S_law_ratios_right_3 (cl : List (Str × Addr)) : LamT := ⟨li l_law_ratios_right_3 q_law_ratios_right cl, ["odd"], ["odd"], [1], fun R => (dCallE 2 (phO f_over) (aCons (dVar 0) (aCons (dC .none) aNil)) R)⟩
def S_law_ratios_right_4 (cl : List (Str × Addr)) : LamT := ⟨li l_law_ratios_right_4 q_law_ratios_right cl, ["odd"], ["odd"], [1], fun R => (dCallE 2 (phO f_over) (aCons (dVar 0) (aCons (dTup (aCons (dC (.int 0)) (aCons (dC (.int 1)) aNil))) aNil)) R)⟩
def S_law_ratios_right_5 (cl : List (Str × Addr)) : LamT := ⟨li l_law_ratios_right_5 q_law_ratios_right cl, ["odd"], ["odd"], [1], fun R => (dCallE 2 (phO f_compared) (aCons (dVar 0) (aCons (dC .none) aNil)) R)⟩
def S_law_ratios_right_6 (cl : List (Str × Addr)) : LamT := ⟨li l_law_ratios_right_6 q_law_ratios_right cl, ["good", "odd"], ["good", "odd"], [0, 1], fun R => (dCallE 2 (phO f_plus) (aCons (dVar 0) (aCons (dVar 1) aNil)) R)⟩
def S_law_ratios_right_7 (cl : List (Str × Addr)) : LamT := ⟨li l_law_ratios_right_7 q_law_ratios_right cl, ["good", "odd"], ["good", "odd"], [0, 1], fun R => (dCallEK 0 [1, 0] 2 (phO f_minus) aNil (aCons (dVar 1) (aCons (dVar 0) aNil)) R)⟩
def S_law_ratios_right_8 (cl : List (Str × Addr)) : LamT := ⟨li l_law_ratios_right_8 q_law_ratios_right cl, ["good", "odd"], ["good", "odd"], [0, 1], fun R => (dCallE 2 (phO f_times) (aCons (dVar 0) (aCons (dVar 1) aNil)) R)⟩
def S_law_ratios_right_9 (cl : List (Str × Addr)) : LamT := ⟨li l_law_ratios_right_9 q_law_ratios_right cl, ["good", "odd"], ["good", "odd"], [0, 1], fun R => (dCallEK 0 [1, 0] 2 (phO f_over) aNil (aCons (dVar 1) (aCons (dVar 0) aNil)) R)⟩
def S_law_ratios_right_10 (cl : List (Str × Addr)) : LamT := ⟨li l_law_ratios_right_10 q_law_ratios_right cl, ["good", "odd"], ["good", "odd"], [0, 1], fun R => (dCallE 2 (phO f_compared) (aCons (dVar 0) (aCons (dVar 1) aNil)) R)⟩
def S_law_ratios_right_11 (cl : List (Str × Addr)) : LamT := ⟨li l_law_ratios_right_11 q_law_ratios_right cl, ["odd"], ["odd"], [1], fun R => (dCallE 1 (phO f_floor_of) (aCons (dVar 0) aNil) R)⟩
def S_law_ratios_right_12 (cl : List (Str × Addr)) : LamT := ⟨li l_law_ratios_right_12 q_law_ratios_right cl, ["odd"], ["odd"], [1], fun R => (dCallEK 0 [0] 1 (phO f_ceiling_of) aNil (aCons (dVar 0) aNil) R)⟩
def S_law_ratios_right_13 (cl : List (Str × Addr)) : LamT := ⟨li l_law_ratios_right_13 q_law_ratios_right cl, ["odd"], ["odd"], [1], fun R => (dCallE 1 (phO f_ratio_text) (aCons (dVar 0) aNil) R)⟩
def Ss_law_ratios_right_b0 (cl : List (Str × Addr)) : List LamT := [S_law_ratios_right_0 cl, S_law_ratios_right_1 cl, S_law_ratios_right_2 cl, S_law_ratios_right_3 cl, S_law_ratios_right_4 cl, S_law_ratios_right_5 cl, S_law_ratios_right_6 cl, S_law_ratios_right_7 cl, S_law_ratios_right_8 cl, S_law_ratios_right_9 cl, S_law_ratios_right_10 cl, S_law_ratios_right_11 cl, S_law_ratios_right_12 cl, S_law_ratios_right_13 cl]
def S_law_lists_right_0 (cl : List (Str × Addr)) : LamT := ⟨li l_law_lists_right_0 q_law_lists_right cl, ["odd"], ["odd"], [0], fun R => (dCallE 1 phE_common_under (aCons (dVar 0) aNil) R)⟩
def S_law_lists_right_1 (cl : List (Str × Addr)) : LamT := ⟨li l_law_lists_right_1 q_law_lists_right cl, ["odd"], ["odd"], [0], fun R => (dCallEK 0 [0] 1 phE_whole_row aNil (aCons (dVar 0) aNil) R)⟩
def S_law_lists_right_2 (cl : List (Str × Addr)) : LamT := ⟨li l_law_lists_right_2 q_law_lists_right cl, ["odd"], ["odd"], [0], fun R => (dCallE 2 (phO f_row_product) (aCons (dVar 0) (aCons (dC .none) aNil)) R)⟩
def S_law_lists_right_3 (cl : List (Str × Addr)) : LamT := ⟨li l_law_lists_right_3 q_law_lists_right cl, ["odd"], ["odd"], [0], fun R => (dCallEK 0 [0, 1] 2 (phO f_row_sum) aNil (aCons (dVar 0) (aCons (dC .none) aNil)) R)⟩
def S_law_lists_right_4 (cl : List (Str × Addr)) : LamT := ⟨li l_law_lists_right_4 q_law_lists_right cl, ["odd"], ["odd"], [0], fun R => (dCallE 2 (phO f_row_product) (aCons (dTup (aCons (dC (.int 1)) (aCons (dC (.int 2)) aNil))) (aCons (dVar 0) aNil)) R)⟩
def S_law_lists_right_5 (cl : List (Str × Addr)) : LamT := ⟨li l_law_lists_right_5 q_law_lists_right cl, ["odd"], ["odd"], [0], fun R => (dCallEK 0 [1, 0] 2 (phO f_row_sum) aNil (aCons (dVar 0) (aCons (dTup (aCons (dC (.int 1)) (aCons (dC (.int 2)) aNil))) aNil)) R)⟩
def S_law_lists_right_6 (cl : List (Str × Addr)) : LamT := ⟨li l_law_lists_right_6 q_law_lists_right cl, ["odd"], ["odd"], [0], fun R => (dCallE 2 (phO f_row_taken) (aCons (dVar 0) (aCons (dC .none) aNil)) R)⟩
def S_law_lists_right_7 (cl : List (Str × Addr)) : LamT := ⟨li l_law_lists_right_7 q_law_lists_right cl, ["odd"], ["odd"], [0], fun R => (dCallE 1 (phO f_row_divisor) (aCons (dVar 0) aNil) R)⟩
def S_law_lists_right_8 (cl : List (Str × Addr)) : LamT := ⟨li l_law_lists_right_8 q_law_lists_right cl, ["odd"], ["odd"], [0], fun R => (dCallEK 0 [0] 1 (phO f_row_reduced) aNil (aCons (dVar 0) aNil) R)⟩
def S_law_lists_right_9 (cl : List (Str × Addr)) : LamT := ⟨li l_law_lists_right_9 q_law_lists_right cl, ["odd"], ["odd"], [0], fun R => (dCallE 2 (phO f_ratios_of) (aCons (dVar 0) (aCons (dC .none) aNil)) R)⟩
def S_law_lists_right_10 (cl : List (Str × Addr)) : LamT := ⟨li l_law_lists_right_10 q_law_lists_right cl, ["odd"], ["odd"], [0], fun R => (dCallE 2 (phO f_ratios_of) (aCons (dVar 0) (aCons (dC (.int 0)) aNil)) R)⟩
def S_law_lists_right_11 (cl : List (Str × Addr)) : LamT := ⟨li l_law_lists_right_11 q_law_lists_right cl, ["odd"], ["odd"], [0], fun R => (dCallE 2 (phO f_row_product) (aCons (dVar 0) (aCons (dTup (aCons (dC (.int 1)) (aCons (dC (.int 2)) (aCons (dC (.int 3)) aNil)))) aNil)) R)⟩
def S_law_lists_right_12 (cl : List (Str × Addr)) : LamT := ⟨li l_law_lists_right_12 q_law_lists_right cl, [], [], [], fun R => (dCallE 2 (phO f_row_product) (aCons (dTup (aCons (dC (.int 1)) (aCons (dC (.int 2)) aNil))) (aCons (dTup (aCons (dC (.int 1)) aNil)) aNil)) R)⟩
def S_law_lists_right_13 (cl : List (Str × Addr)) : LamT := ⟨li l_law_lists_right_13 q_law_lists_right cl, [], [], [], fun R => (dCallE 2 (phO f_row_sum) (aCons (dTup (aCons (dC (.int 1)) aNil)) (aCons (dTup (aCons (dC (.int 1)) (aCons (dC (.int 2)) aNil))) aNil)) R)⟩
def S_law_lists_right_14 (cl : List (Str × Addr)) : LamT := ⟨li l_law_lists_right_14 q_law_lists_right cl, ["good"], ["good"], [0], fun R => (dCallE 1 phE_whole_row (aCons (dOp rMulA (dTup (aCons (dVar 0) aNil)) (dC (.int 40))) aNil) R)⟩
def S_law_lists_right_15 (cl : List (Str × Addr)) : LamT := ⟨li l_law_lists_right_15 q_law_lists_right cl, [], [], [], fun R => (dCallE 1 (phO f_row_divisor) (aCons (dOp rMulA (dTup (aCons (dC (.int 0)) aNil)) (dC (.int 40))) aNil) R)⟩
def Ss_law_lists_right_b0 (cl : List (Str × Addr)) : List LamT := [S_law_lists_right_0 cl, S_law_lists_right_1 cl]
def Ss_law_lists_right_b1 (cl : List (Str × Addr)) : List LamT := [S_law_lists_right_2 cl, S_law_lists_right_3 cl, S_law_lists_right_4 cl, S_law_lists_right_5 cl, S_law_lists_right_6 cl, S_law_lists_right_7 cl, S_law_lists_right_8 cl, S_law_lists_right_9 cl, S_law_lists_right_10 cl, S_law_lists_right_11 cl]
def Ss_law_lists_right_b2 (cl : List (Str × Addr)) : List LamT := [S_law_lists_right_12 cl, S_law_lists_right_13 cl]
def Ss_law_lists_right_b3 (cl : List (Str × Addr)) : List LamT := [S_law_lists_right_14 cl, S_law_lists_right_15 cl]
def S_law_0 (cl : List (Str × Addr)) : LamT := ⟨li l_law_0 q_law cl, ["odd"], ["odd"], [0], fun R => (dCallEK 0 [0] 1 (phO f_parse_ratio) aNil (aCons (dVar 0) aNil) R)⟩
def S_law_1 (cl : List (Str × Addr)) : LamT := ⟨li l_law_1 q_law cl, [], [], [], fun R => (dCallE 1 (phO f_parse_ratio) (aCons (dC (.str (PySem.Str.ofString ""))) aNil) R)⟩
def Ss_law_b0 (cl : List (Str × Addr)) : List LamT := [S_law_0 cl]
def Ss_law_b1 (cl : List (Str × Addr)) : List LamT := [S_law_1 cl]
def told : OutI → List PyData → Prop := Told ([clInt Cls.InvalidInteger, clRat Cls.InvalidRatio, clRats Cls.InvalidRatios, clRow Cls.InvalidRow] ++ [clText Cls.InvalidText, clBad Cls.BadText, clQuo Cls.NoQuotient, clLen Cls.UnlikeLengths])
def Mem (k : Nat) (q : Str) (μ : Mu) : Prop := μ[k]? = some (.tab (Tabs.T k) (.nm q)) ∧ ∀ c ∈ μ, noFn c = true
def GoodR (n u : Int) : Prop := K11.IsR n u ∧ 1 ≤ u ∧ u ≤ 4 ∧ n.natAbs ≤ 4
def ph_law_ratio : DF := K13.ph_reduced
def ph_law_integers_right : DF := fun ss μ Q => ss = [] ∧ Mem 0 q_law_integers_right μ ∧ Q (.dat (.bool true)) μ
def ph_law_ratios_right : DF := fun ss μ Q => ∃ n u, ss = [.dat (K11.rat n u)] ∧ GoodR n u ∧ Mem 1 q_law_ratios_right μ ∧ Q (.dat (.bool true)) μ
def ph_law_lists_right : DF := fun ss μ Q => ∃ n u, ss = [.dat (K11.rat n u)] ∧ GoodR n u ∧ Mem 2 q_law_lists_right μ ∧ Q (.dat (.bool true)) μ
def tabs : List (Addr × Str) := [(Tabs.T 0, q_law_integers_right), (Tabs.T 1, q_law_ratios_right), (Tabs.T 2, q_law_lists_right), (Tabs.T 3, q_law)]
def ph_law : DF := lawTs tabs
def ds_law_integers_right (cl : List (Str × Addr)) : DS := (dSeq (dFor (iSeq (dLst (aCons (dC .none) (aCons (dC (.bool true)) (aCons (dC (.bool false)) (aCons (dC (.str (PySem.Str.ofString "1"))) (aCons (dTup (aCons (dC (.int 1)) (aCons (dC (.int 1)) aNil))) (aCons (dLst (aCons (dC (.int 1)) aNil)) (aCons dDctD (aCons (dTup aNil) aNil)))))))))) (gN 0) (dCut (dBlk 1 0 (Tabs.T 0) q_law_integers_right (dIfS (dNot (dTru (dJudge 1 [0] (Ss_law_integers_right_b0 cl) told (dLst (aCons (dC (.str (PySem.Str.ofString "integer"))) (aCons (dCB fRepr (aCons (dVar 0) aNil)) (aCons (dC (.bool true)) aNil))))))) (dRet (dC (.bool false))) dNext) (li l_law_integers_right_0 q_law_integers_right cl) [li l_law_integers_right_1 q_law_integers_right cl, li l_law_integers_right_2 q_law_integers_right cl, li l_law_integers_right_3 q_law_integers_right cl, li l_law_integers_right_4 q_law_integers_right cl])))
    (dBlk 1 0 (Tabs.T 0) q_law_integers_right (dRet (dJudge 1 [] (Ss_law_integers_right_b1 cl) told (dLst (aCons (dC (.str (PySem.Str.ofString "quotient"))) (aCons (dC (.bool true)) aNil))))) (li l_law_integers_right_5 q_law_integers_right cl) [li l_law_integers_right_6 q_law_integers_right cl, li l_law_integers_right_7 q_law_integers_right cl]))
def ds_law_ratios_right (cl : List (Str × Addr)) : DS := (dSeq (dAsg (dLst (aCons (dC .none) (aCons (dC (.int 1)) (aCons (dC (.bool true)) (aCons (dC (.str (PySem.Str.ofString "1/2"))) (aCons (dLst (aCons (dC (.int 1)) (aCons (dC (.int 2)) aNil))) (aCons (dTup (aCons (dC (.int 1)) aNil)) (aCons (dTup (aCons (dC (.int 1)) (aCons (dC (.int 2)) (aCons (dC (.int 3)) aNil)))) (aCons (dTup (aCons (dC (.int 2)) (aCons (dC (.int 4)) aNil))) (aCons (dTup (aCons (dC (.int 1)) (aCons (dC (.int 0)) aNil))) (aCons (dTup (aCons (dC (.int 1)) (aCons (dUn rNeg (dC (.int 2))) aNil))) (aCons (dTup (aCons (dC (.int 0)) (aCons (dC (.int 2)) aNil))) (aCons (dTup (aCons (dC (.bool true)) (aCons (dC (.int 1)) aNil))) (aCons (dTup (aCons (dC (.int 1)) (aCons (dC (.bool true)) aNil))) (aCons (dTup (aCons (dC (.str (PySem.Str.ofString "1"))) (aCons (dC (.int 2)) aNil))) aNil))))))))))))))) 1)
    (dSeq (dFor (iSeq (dOp rAdd (dVar 1) (dLst (aCons (dTup aNil) (aCons dDctD (aCons (dTup (aCons (dUn rNeg (dC (.int 2))) (aCons (dC (.int 4)) aNil))) (aCons (dTup (aCons (dTup (aCons (dC (.int 1)) (aCons (dC (.int 2)) aNil))) aNil)) aNil))))))) (gN 2) (dCut (dBlk 3 1 (Tabs.T 1) q_law_ratios_right (dIfS (dNot (dTru (dJudge 3 [0, 2] (Ss_law_ratios_right_b0 cl) told (dLst (aCons (dC (.str (PySem.Str.ofString "ratio"))) (aCons (dCB fRepr (aCons (dVar 2) aNil)) (aCons (dC (.bool true)) aNil))))))) (dRet (dC (.bool false))) dNext) (li l_law_ratios_right_0 q_law_ratios_right cl) [li l_law_ratios_right_1 q_law_ratios_right cl, li l_law_ratios_right_2 q_law_ratios_right cl, li l_law_ratios_right_3 q_law_ratios_right cl, li l_law_ratios_right_4 q_law_ratios_right cl, li l_law_ratios_right_5 q_law_ratios_right cl, li l_law_ratios_right_6 q_law_ratios_right cl, li l_law_ratios_right_7 q_law_ratios_right cl, li l_law_ratios_right_8 q_law_ratios_right cl, li l_law_ratios_right_9 q_law_ratios_right cl, li l_law_ratios_right_10 q_law_ratios_right cl, li l_law_ratios_right_11 q_law_ratios_right cl, li l_law_ratios_right_12 q_law_ratios_right cl, li l_law_ratios_right_13 q_law_ratios_right cl])))
    (dRet (dC (.bool true)))))
def ds_law_lists_right (cl : List (Str × Addr)) : DS := (dSeq (dFor (iSeq (dLst (aCons (dC .none) (aCons (dC (.int 1)) (aCons (dC (.bool true)) (aCons (dC (.str (PySem.Str.ofString ""))) (aCons (dTup aNil) (aCons (dLst aNil) (aCons dDctD (aCons (dOp rMulC (dLstC (aCons (dVar 0) aNil)) (dC (.int 41))) (aCons (dLst (aCons (dC (.int 1)) aNil)) (aCons (dLst (aCons (dC .none) aNil)) (aCons (dLst (aCons (dVar 0) (aCons (dTup (aCons (dC (.int 2)) (aCons (dC (.int 4)) aNil))) aNil))) (aCons (dVar 0) (aCons (dLst (aCons (dCB fList (aCons (dVar 0) aNil)) aNil)) aNil))))))))))))))) (gN 1) (dCut (dBlk 2 2 (Tabs.T 2) q_law_lists_right (dIfS (dNot (dTru (dJudge 2 [1] (Ss_law_lists_right_b0 cl) told (dLst (aCons (dC (.str (PySem.Str.ofString "ratios"))) (aCons (dCB fRepr (aCons (dVar 1) aNil)) (aCons (dC (.bool true)) aNil))))))) (dRet (dC (.bool false))) dNext) (li l_law_lists_right_0 q_law_lists_right cl) [li l_law_lists_right_1 q_law_lists_right cl])))
    (dSeq (dFor (iSeq (dLst (aCons (dC .none) (aCons (dC (.int 1)) (aCons (dC (.bool true)) (aCons (dC (.str (PySem.Str.ofString "1"))) (aCons (dLst (aCons (dC (.int 1)) (aCons (dC (.int 2)) aNil))) (aCons (dTup aNil) (aCons (dTup (aCons (dC (.int 1)) (aCons (dC (.bool true)) aNil))) (aCons (dTup (aCons (dC (.int 1)) (aCons (dC .none) aNil))) (aCons (dOp rMulA (dTup (aCons (dC (.int 1)) aNil)) (dC (.int 41))) (aCons (dTup (aCons (dTup (aCons (dC (.int 1)) aNil)) aNil)) (aCons dDctD (aCons (dTup (aCons (dC (.str (PySem.Str.ofString "1"))) aNil)) aNil)))))))))))))) (gN 1) (dCut (dBlk 2 2 (Tabs.T 2) q_law_lists_right (dIfS (dNot (dTru (dJudge 2 [1] (Ss_law_lists_right_b1 cl) told (dLst (aCons (dC (.str (PySem.Str.ofString "row"))) (aCons (dCB fRepr (aCons (dVar 1) aNil)) (aCons (dC (.bool true)) aNil))))))) (dRet (dC (.bool false))) dNext) (li l_law_lists_right_2 q_law_lists_right cl) [li l_law_lists_right_3 q_law_lists_right cl, li l_law_lists_right_4 q_law_lists_right cl, li l_law_lists_right_5 q_law_lists_right cl, li l_law_lists_right_6 q_law_lists_right cl, li l_law_lists_right_7 q_law_lists_right cl, li l_law_lists_right_8 q_law_lists_right cl, li l_law_lists_right_9 q_law_lists_right cl, li l_law_lists_right_10 q_law_lists_right cl, li l_law_lists_right_11 q_law_lists_right cl])))
    (dSeq (dCut (dBlk 2 2 (Tabs.T 2) q_law_lists_right (dIfS (dNot (dTru (dJudge 2 [] (Ss_law_lists_right_b2 cl) told (dLst (aCons (dC (.str (PySem.Str.ofString "lengths"))) (aCons (dC (.bool true)) aNil)))))) (dRet (dC (.bool false))) dNext) (li l_law_lists_right_12 q_law_lists_right cl) [li l_law_lists_right_13 q_law_lists_right cl]))
    (dBlk 2 2 (Tabs.T 2) q_law_lists_right (dRet (dJudge 2 [0] (Ss_law_lists_right_b3 cl) told (dLst (aCons (dC (.str (PySem.Str.ofString "let"))) aNil)))) (li l_law_lists_right_14 q_law_lists_right cl) [li l_law_lists_right_15 q_law_lists_right cl]))))
def ds_law (cl : List (Str × Addr)) : DS := (dSeq (dAsg (dCall 2 WL.ph_law_pot (aCons (dVar 0) (aCons (dC (.int 0)) aNil))) 1)
    (dSeq (dAsg (dCall 2 ph_law_ratio (aCons (dOp rSub (dCall 2 WL.ph_law_draw (aCons (dVar 1) (aCons (dC (.int 9)) aNil))) (dC (.int 4))) (aCons (dOp rAdd (dC (.int 1)) (dCall 2 WL.ph_law_draw (aCons (dVar 1) (aCons (dC (.int 4)) aNil)))) aNil))) 2)
    (dSeq (dIfS (dOr (dNot (dTru (dCall 0 ph_law_integers_right aNil))) (dOr (dNot (dTru (dCall 1 ph_law_ratios_right (aCons (dVar 2) aNil)))) (dNot (dTru (dCall 1 ph_law_lists_right (aCons (dVar 2) aNil)))))) (dRet (dC (.bool false))) dNext)
    (dSeq (dFor (iSeq (dLst (aCons (dC .none) (aCons (dC (.int 1)) (aCons (dC (.bool true)) (aCons (dLst aNil) (aCons (dTup (aCons (dC (.str (PySem.Str.ofString "1"))) aNil)) (aCons dDctD (aCons (dTup (aCons (dC (.int 1)) (aCons (dC (.int 2)) aNil))) aNil))))))))) (gN 3) (dCut (dIfS (dNot (dTru (dJudge1 3 (Tabs.T 3) q_law (li l_law_0 q_law cl) [3] (Ss_law_b0 cl) told (dLst (aCons (dC (.str (PySem.Str.ofString "text"))) (aCons (dCB fRepr (aCons (dVar 3) aNil)) (aCons (dC (.bool true)) aNil))))))) (dRet (dC (.bool false))) dNext)))
    (dRet (dJudge1 3 (Tabs.T 3) q_law (li l_law_1 q_law cl) [] (Ss_law_b1 cl) told (dLst (aCons (dC (.str (PySem.Str.ofString "bad"))) (aCons (dC (.str (PySem.Str.ofString "0"))) (aCons (dC (.bool true)) aNil))))))))))
end K10
namespace K10
open PySem PySem.Spec PyProof.Rows L2 Evl DL
open WL
open K11 (rat ratB rowB IsR gcdI)
variable [Cls]
section
variable {μ : Mu} {Q : DQ} {d : PyData}
theorem fd (Q : DQ) (d : PyData) : finQ μ.length Q (.dat d) μ = Q (.dat d) μ := by rw [e_finD, List.take_length]
@[simp ↓] theorem c_is_row : ph_is_row [.dat d] μ Q = Q (.dat (.bool (rowB d))) μ := propext ⟨fun ⟨_, e, h⟩ => by cases e; exact h, fun h => ⟨_, rfl, h⟩⟩
theorem pu_is_row : Pure ["value"] 1 ph_is_row ds_is_row := by
  intro ss μ Q' hl h
  obtain ⟨d, rfl, h⟩ := h
  cases d with
  | tuple ds =>
    by_cases c : 1 ≤ (ds.length : Int)
    · by_cases c2 : (ds.length : Int) ≤ 40
      · have : ds.length ≤ 1000 := by omega
        simp [ds_is_row, startD, isTy, c, c2, K52.c_are_integersT, this]
        simpa [rowB, c, c2] using h
      · simp [ds_is_row, startD, isTy, c, c2]
        simpa [rowB, c, c2] using h
    · simp [ds_is_row, startD, isTy, c]
      simpa [rowB, c] using h
  | _ => simpa [ds_is_row, startD, isTy, rowB] using h
theorem puE_check_text : PureE ["text"] 1 (phO f_check_text) dsE_check_text := puO fun es μ Q' R' hl hm => by
  obtain ⟨d, rfl⟩ := len1 hl
  cases d <;> simpa [dsE_check_text, startD, isTy, f_check_text, oChk, isS] using hm
theorem puE_check_integer : PureE ["value"] 1 (phO f_check_integer) dsE_check_integer := puE_chk (φ := WL.ph_is_integer) (B := isW) fun d μ Q h => ⟨_, rfl, h⟩
theorem puE_check_ratio : PureE ["value"] 1 (phO f_check_ratio) dsE_check_ratio := puE_chk (φ := K11.ph_is_ratio) (B := ratB) fun d μ Q h => ⟨_, rfl, h⟩
theorem puE_check_ratios : PureE ["near", "far"] 2 (phO f_check_ratios) dsE_check_ratios := puE_both
theorem puE_plus : PureE ["near", "far"] 2 (phO f_plus) dsE_plus := puE_stop2
theorem puE_minus : PureE ["near", "far"] 2 (phO f_minus) dsE_minus := puE_stop2
theorem puE_times : PureE ["near", "far"] 2 (phO f_times) dsE_times := puE_stop2
theorem puE_compared : PureE ["near", "far", "left", "right"] 2 (phO f_compared) dsE_compared := puE_stop2
theorem puE_floor_of : PureE ["ratio"] 1 (phO f_floor_of) dsE_floor_of := puE_stop1
theorem puE_ceiling_of : PureE ["ratio"] 1 (phO f_ceiling_of) dsE_ceiling_of := puE_stop1
theorem puE_ratio_text : PureE ["ratio", "number", "under", "sign", "text"] 1 (phO f_ratio_text) dsE_ratio_text := puE_stop1
theorem puE_check_row : PureE ["value"] 1 (phO f_check_row) dsE_check_row := puE_chk (φ := ph_is_row) (B := rowB) fun d μ Q h => ⟨_, rfl, h⟩
theorem puE_row_product : PureE ["row", "other"] 2 (phO f_row_product) dsE_row_product := puE_stop2
theorem puE_row_sum : PureE ["row", "other", "number", "more"] 2 (phO f_row_sum) dsE_row_sum := puE_stop2
theorem m_sq {o k : Oc} {R' R2 : RQF} {Q2 Q' : DQ} (h : (o.sq k).m μ Q' R') (hR : ∀ C n d, R' C n (.dat d) μ → R2 C n (.dat d) μ) (hk : ∀ d, o = .ret d → k.m μ Q' R' → Q2 (.dat d) μ) : o.m μ Q2 R2 := by
  cases o with
  | exc C n d => exact hR _ _ _ h
  | ret d => exact hk d rfl h
  | no => exact h
theorem isW_int (h : isW d = true) : ∃ i, d = .int i := by cases d <;> first | exact ⟨_, rfl⟩ | cases h
theorem chk_ret {B : PyData → Bool} {C : Addr} {d e : PyData} (h : oChk B C [d] = .ret e) : B d = true := by
  unfold oChk at h
  dsimp only at h
  split at h
  · assumption
  · cases h
theorem puE_made : PureE ["number", "under"] 2 (phO f_made) dsE_made := puO fun es μ Q' R' hl hm => by
  obtain ⟨a, b, rfl⟩ := len2 hl
  refine ⟨rfl, [a], rfl, m_sq hm (fun C n d h => by show finQ _ _ _ _; rw [fd]; exact h) fun d1 e1 h1 => ?_⟩
  refine ⟨rfl, [b], rfl, m_sq h1 (fun C n d h => by show finQ _ _ _ _; rw [fd]; exact h) fun d2 e2 h2 => ?_⟩
  obtain ⟨i, rfl⟩ := isW_int (chk_ret e2)
  split at h2
  · rename_i e
    cases e
    simp [startD]
    simpa [noQ] using h2
  · exact h2.elim
theorem puE_over : PureE ["near", "far"] 2 (phO f_over) dsE_over := puO fun es μ Q' R' hl hm => by
  obtain ⟨a, b, rfl⟩ := len2 hl
  refine ⟨rfl, [a, b], rfl, m_sq hm (fun C n d h => by show finQ _ _ _ _; rw [fd]; exact h) fun d1 e1 h1 => ?_⟩
  split at h1
  · simp [startD]
    simpa [noQ] using h1
  · exact h1.elim
theorem puE_ratios_of : PureE ["row", "under", "number"] 2 (phO f_ratios_of) dsE_ratios_of := puO fun es μ Q' R' hl hm => by
  obtain ⟨a, b, rfl⟩ := len2 hl
  refine ⟨rfl, [a], rfl, m_sq hm (fun C n d h => by show finQ _ _ _ _; rw [fd]; exact h) fun d1 e1 h1 => ?_⟩
  refine ⟨rfl, [b], rfl, m_sq h1 (fun C n d h => by show finQ _ _ _ _; rw [fd]; exact h) fun d2 e2 h2 => ?_⟩
  split at h2
  · simp [startD]
    simpa [noQ] using h2
  · exact h2.elim
theorem puE_row_taken : PureE ["row", "number", "part"] 2 (phO f_row_taken) dsE_row_taken := puO fun es μ Q' R' hl hm => by
  obtain ⟨a, b, rfl⟩ := len2 hl
  refine ⟨rfl, [a], rfl, m_sq hm (fun C n d h => by show finQ _ _ _ _; rw [fd]; exact h) fun d1 e1 h1 => ?_⟩
  exact ⟨rfl, [b], rfl, m_sq h1 (fun C n d h => by show finQ _ _ _ _; rw [fd]; exact h) fun d2 e2 h2 => h2.elim⟩
theorem row_of (h : rowB d = true) : ∃ ds, d = .tuple ds ∧ 1 ≤ ds.length ∧ ds.length ≤ 40 ∧ ds.all isW = true := by
  unfold rowB at h
  split at h
  · simp only [Bool.and_eq_true, decide_eq_true_eq] at h
    exact ⟨_, rfl, by omega, by omega, h.2.2⟩
  · cases h
theorem puE_check_rows : PureE ["row", "other"] 2 (phO f_check_rows) dsE_check_rows := puO fun es μ Q' R' hl hm => by
  obtain ⟨a, b, rfl⟩ := len2 hl
  refine ⟨rfl, [a], rfl, m_sq hm (fun C n d h => by show finQ _ _ _ _; rw [fd]; exact h) fun d1 e1 h1 => ?_⟩
  refine ⟨rfl, [b], rfl, m_sq h1 (fun C n d h => by show finQ _ _ _ _; rw [fd]; exact h) fun d2 e2 h2 => ?_⟩
  obtain ⟨xs, rfl, _, hx, _⟩ := row_of (chk_ret e1)
  obtain ⟨ys, rfl, _, hy, _⟩ := row_of (chk_ret e2)
  by_cases c : xs.length = ys.length
  · rw [show lenD (.tuple xs) = xs.length from rfl, show lenD (.tuple ys) = ys.length from rfl, if_pos c] at h2
    simp [startD, c]
    simpa using h2
  · rw [show lenD (.tuple xs) = xs.length from rfl, show lenD (.tuple ys) = ys.length from rfl, if_neg c] at h2
    have c' : ¬ (xs.length : Int) = (ys.length : Int) := by omega
    simp [startD, c, c']
    simpa using h2
end
end K10
namespace K10
open PySem PySem.Spec PyProof.Rows L2 Evl DL
open WL
open K11 (rat ratB rowB IsR gcdI T)
variable [Cls]
section
variable {μ : Mu} {Q : DQ} {d : PyData}
theorem for_st {C : Mu → Prop} {g : DG} {b : DS} {D : DEnds} (hC : C μ) (I : Rho → Prop) (ds : List PyData) (ρ : Rho) (h0 : I ρ) (hs : ∀ d ∈ ds, ∀ ρ, I ρ → ∀ N : Rho → Mu → Prop, (∀ ρ', I ρ' → N ρ' μ) → g (.dat d) ρ μ fun ρ1 μ1 => b { D with nx := N, ct := N, bk := D.nx } ρ1 μ1) (k : ∀ ρ', I ρ' → D.nx ρ' μ) : forD C g b D (ds.map Sl.dat) ρ μ :=
  for_inv hC I _ ρ h0 (fun s hm => by
    obtain ⟨d, hd, rfl⟩ := List.mem_map.mp hm
    exact hs d hd) k
theorem puE_row_divisor : PureE ["row", "divisor", "number"] 1 (phO f_row_divisor) dsE_row_divisor := puO fun es μ Q' R' hl hm => by
  obtain ⟨d, rfl⟩ := len1 hl
  have key : ((f_check_row [d]).sq (match d with
    | .tuple ds => if ds.all isZ = true then .ret (.int 0) else .no
    | _ => .no)).m μ Q' R' := by
    cases d with
    | tuple ds => exact hm
    | _ =>
      have : f_check_row = oChk rowB Cls.InvalidRow := rfl
      simp only [f_row_divisor, this, oChk, rowB] at hm ⊢
      exact hm
  refine ⟨rfl, [d], rfl, m_sq key (fun C n d h => by show finQ _ _ _ _; rw [fd]; exact h) fun d1 e1 hm => ?_⟩
  obtain ⟨ds, rfl, h1, h2, hw⟩ := row_of (chk_ret e1)
  replace hm : (if ds.all isZ = true then Oc.ret (.int 0) else .no).m μ Q' R' := hm
  by_cases c : ds.all isZ = true
  · rw [if_pos c] at hm
    have allz := List.all_eq_true.mp c
    obtain ⟨C, c0, c1, ci⟩ := iSeq_ok (i := 0) (ρ := [some (.dat (.tuple ds)), some (.dat (.int 0)), none]) (μ := μ) (ds := ds) rfl .dt
    simp [startD, dFor, ci, -List.map_replicate]
    refine for_st (c0) (fun ρ => ∃ v, ρ = [some (.dat (.tuple ds)), some (.dat (.int 0)), v]) ds _ ⟨none, rfl⟩ (fun x hx ρ ⟨v, e⟩ N hN => ?_) (fun ρ ⟨v, e⟩ => ?_)
    · subst e
      have hz := allz x hx
      cases x <;> first | cases hz | skip
      rename_i i
      have : i = 0 := by simpa [isZ] using hz
      subst this
      have := hN _ ⟨some (.dat (.int 0)), rfl⟩
      simp
      exact ⟨trivial, this⟩
    · subst e
      simpa using hm
  · rw [if_neg c] at hm
    exact hm.elim
theorem puE_row_reduced : PureE ["row", "divisor", "number"] 1 (phO f_row_reduced) dsE_row_reduced := puO fun es μ Q' R' hl hm => by
  obtain ⟨d, rfl⟩ := len1 hl
  refine ⟨rfl, [d], rfl, m_sq (k := .no) (R' := R') (Q' := Q') ?_ (fun C n d h => by show finQ _ _ _ _; rw [fd]; exact h) fun d1 e1 hm => hm.elim⟩
  exact hm
theorem puE_check_ratio_list : PureE ["ratios", "ratio"] 1 (phO f_check_ratio_list) dsE_check_ratio_list := puO fun es μ Q' R' hl hm => by
  obtain ⟨d, rfl⟩ := len1 hl
  have key : ∀ (ds : List PyData), (d = .list ds ∨ d = .tuple ds) → ratsB d = ratsL ds → K28.listedB d = true → (∀ (ν : Mu) (Q : DQ), fLen [.dat d] ν Q = Q (.dat (.int (ds.length : Int))) ν) → dsE_check_ratio_list (fun C f s _ μ' => finQ μ.length (R' C f) s μ') ⟨fun _ μ' => finQ μ.length Q' (.dat .none) μ', finQ μ.length Q', fun _ _ => False, fun _ _ => False⟩ (startD ["ratios", "ratio"] [.dat d]) μ := fun ds hd hb hL ln => by
    unfold f_check_ratio_list oChk at hm
    dsimp only at hm
    rw [hb] at hm
    by_cases c1 : 1 ≤ (ds.length : Int)
    · by_cases c2 : (ds.length : Int) ≤ 40
      · have hsq : Sq μ (.dat d) ds := by rcases hd with rfl | rfl; exact .dl; exact .dt
        obtain ⟨C, c0, cc1, ci⟩ := iSeq_ok (i := 0) (ρ := [some (.dat d), none]) (μ := μ) rfl hsq
        have L := fun Q => lc_map (g := gN 1) (e := dCall 1 K11.ph_is_ratio (aCons (dVar 1) aNil)) (vs := [1]) (Q := Q) (fun d => PyData.bool (ratB d)) ci (fun _ => cc1 _) (sz (by omega)) (fun x hx acc R => by simp [wipeD])
        have e : (ds.map fun d => PyData.bool (ratB d)) = (ds.map ratB).map PyData.bool := by rw [List.map_map]; rfl
        rw [e] at L
        have e2 : (ds.map ratB).all id = ds.all ratB := by rw [List.all_map]; rfl
        have e3 : ratsL ds = ds.all ratB := by simp [ratsL, c1, c2]
        rw [e3] at hm
        cases c3 : ds.all ratB with
        | true =>
          rw [c3] at hm
          simp [dsE_check_ratio_list, startD, K28.ph_is_listed, hL, ↓ln, c1, c2, L, e2, c3, -List.map_map, -List.all_map]
          simpa using hm
        | false =>
          rw [c3] at hm
          simp [dsE_check_ratio_list, startD, K28.ph_is_listed, hL, ↓ln, c1, c2, L, e2, c3, -List.map_map, -List.all_map]
          simpa using hm
      · have e3 : ratsL ds = false := by simp [ratsL, c2]
        rw [e3] at hm
        simp [dsE_check_ratio_list, startD, K28.ph_is_listed, hL, ↓ln, c1, c2]
        simpa using hm
    · have e3 : ratsL ds = false := by simp [ratsL, c1]
      rw [e3] at hm
      simp [dsE_check_ratio_list, startD, K28.ph_is_listed, hL, ↓ln, c1]
      simpa using hm
  cases d with
  | list ds => exact key ds (.inl rfl) rfl rfl (fun ν Q => by simp)
  | tuple ds => exact key ds (.inr rfl) rfl rfl (fun ν Q => by simp)
  | _ =>
    simp [dsE_check_ratio_list, startD, K28.ph_is_listed, K28.listedB]
    simpa [f_check_ratio_list, oChk, ratsB] using hm
theorem same_ok {n u : Int} {k : Nat} (h : SameOk n u k) : ratsB (same n u k) = true := by
  obtain ⟨hr, h1, h2, h3, h4, h5⟩ := h
  have e : (List.replicate k (rat n u)).all ratB = true := by
    rw [List.all_eq_true]
    intro x hx
    rw [(List.mem_replicate.mp hx).2]
    exact decide_eq_true hr
  show ratsL _ = true
  unfold ratsL
  rw [List.length_replicate, e, decide_eq_true (show (1 : Int) ≤ (k : Int) by omega), decide_eq_true (show (k : Int) ≤ 40 by omega)]
  rfl
theorem puE_common_under : PureE ["ratios", "under", "ratio"] 1 phE_common_under dsE_common_under := by
  intro ss μ Q' R' hl hm
  obtain ⟨d, rfl, hm⟩ := hm
  rcases hm with ⟨hb, h⟩ | ⟨n, u, k, rfl, hk, h⟩
  · refine ⟨rfl, [d], rfl, ?_⟩
    rw [show f_check_ratio_list [d] = .exc Cls.InvalidRatios ("value" : Str) d by simp [f_check_ratio_list, oChk, hb], m_exc]
    show finQ _ _ _ _
    rw [fd]
    exact h
  · refine ⟨rfl, [same n u k], rfl, ?_⟩
    rw [show f_check_ratio_list [same n u k] = .ret .none by simp [f_check_ratio_list, oChk, same_ok hk], m_ret]
    obtain ⟨hr, h1, h2, h3, h4, h5⟩ := hk
    obtain ⟨C, c0, c1, ci⟩ := iSeq_ok (i := 0) (ρ := [some (.dat (same n u k)), some (.dat (.int 1)), none]) (μ := μ) (ds := List.replicate k (rat n u)) rfl .dt
    simp [startD, dFor, ci, -List.map_replicate]
    have hk0 : ∃ m, k = m + 1 := ⟨k - 1, by omega⟩
    obtain ⟨m, rfl⟩ := hk0
    have lu : u.natAbs.log2 < 9000 := Nat.lt_of_le_of_lt (Nat.log2_le_self _) (by omega)
    have lc : ∀ a : Int, (a = 1 ∨ a = u) → ∀ Q : DQ, Q (.dat (.int u)) μ → fLcm [.dat (.int a), .dat (.int u)] μ Q := fun a ha Q q => by
      have e : ((Nat.lcm a.natAbs u.natAbs : Nat) : Int) = u := by
        rcases ha with rfl | rfl
        · rw [show (1 : Int).natAbs = 1 from rfl, Nat.lcm_one_left]; omega
        · rw [Nat.lcm_self]; omega
      have la : a.natAbs.log2 < 9000 := by
        rcases ha with rfl | rfl
        · decide
        · exact lu
      show CLcm a u ∧ Q (.dat (.int ((Nat.lcm a.natAbs u.natAbs : Nat) : Int))) μ
      rw [e]
      exact ⟨⟨la, lu⟩, q⟩
    have step : ∀ (a : Int) (v : Option Sl), (a = 1 ∨ a = u) → ∀ D : DEnds, D.nx [some (.dat (same n u (m + 1))), some (.dat (.int u)), some (.dat (rat n u))] μ →
        gN 2 (.dat (rat n u)) [some (.dat (same n u (m + 1))), some (.dat (.int a)), v] μ fun ρ1 μ1 => dAsg (dCB fLcm (aCons (dVar 1) (aCons (dOp DL.rIx (dVar 2) (dC (.int 1))) aNil))) 1 D ρ1 μ1 := fun a v ha D h => by
      have e1 : ∀ Q : DQ, DL.rIx (.dat (rat n u)) (.dat (.int 1)) μ Q = Q (.dat (.int u)) μ := fun Q => by simp [rat]
      simp
      rw [e1]
      exact lc a ha _ h
    rw [List.replicate_succ]
    refine ⟨c0, ?_⟩
    refine step 1 none (.inl rfl) _ ?_
    refine for_st c0 (fun ρ => ρ = [some (.dat (same n u (m + 1))), some (.dat (.int u)), some (.dat (rat n u))]) _ _ rfl (fun x hx ρ e N hN => ?_) (fun ρ e => ?_)
    · subst e
      rw [(List.mem_replicate.mp hx).2]
      exact step u _ (.inr rfl) { nx := N, rt := _, bk := _, ct := N } (hN _ rfl)
    · subst e
      simpa using h
theorem puE_whole_row : PureE ["ratios", "under", "ratio"] 1 phE_whole_row dsE_whole_row := by
  intro ss μ Q' R' hl hm
  obtain ⟨d, rfl, hm⟩ := hm
  rcases hm with ⟨hb, h⟩ | ⟨n, u, k, rfl, hk, h⟩
  · refine ⟨rfl, d, rfl, .inl ⟨hb, ?_⟩⟩
    show finQ _ _ _ _
    rw [fd]
    exact h
  · refine ⟨rfl, same n u k, rfl, .inr ⟨n, u, k, rfl, hk, ?_⟩⟩
    obtain ⟨hr, h1, h2, h3, h4, h5⟩ := hk
    obtain ⟨C, c0, cc1, ci⟩ := iSeq_ok (i := 0) (ρ := [some (.dat (same n u k)), some (.dat (.int u)), none]) (μ := μ) (ds := List.replicate k (rat n u)) rfl .dt
    have e : u.fdiv u = 1 := Int.fdiv_self (by omega)
    have cd : CDv u u := ⟨by omega, Nat.lt_of_le_of_lt (Nat.log2_le_self _) (by omega)⟩
    have cm : CMulW n 1 := Sm.cmul (j := 40) (k := 40) (show n.natAbs < 2 ^ 40 by omega) (show (1 : Int).natAbs < 2 ^ 40 by decide) (by decide) (by decide)
    have L := fun Q => lc_map (g := gN 2) (e := dOp DL.rMul (dOp DL.rIx (dVar 2) (dC (.int 0))) (dOp DL.rDv (dVar 1) (dOp DL.rIx (dVar 2) (dC (.int 1))))) (vs := [2]) (Q := Q) (fun d => PyData.int n) ci (fun _ => cc1 _) (sz (by rw [List.length_replicate]; omega)) (fun x hx acc R => by
      rw [(List.mem_replicate.mp hx).2]
      simp [wipeD, rat, cd, e, cm])
    have er : (List.replicate k (rat n u)).map (fun _ => PyData.int n) = List.replicate k (.int n) := List.map_replicate
    rw [er] at L
    have ew : wholeV n u k = .tuple [.tuple (List.replicate k (.int n)), .int u] := by unfold wholeV; rw [e, Int.mul_one]
    rw [ew] at h
    simp [startD, L]
    simpa using h
theorem puE_parse_ratio : PureE ["text", "begin", "end", "last"] 1 (phO f_parse_ratio) dsE_parse_ratio := puO fun es μ Q' R' hl hm => by
  obtain ⟨d, rfl⟩ := len1 hl
  refine ⟨rfl, [d], rfl, m_sq hm (fun C n d h => by show finQ _ _ _ _; rw [fd]; exact h) fun d1 e1 hm => ?_⟩
  split at hm
  · have sw : ∀ Q : DQ, mSw (.dat (.str (T []))) [.dat (.str (PySem.Str.ofString "-"))] μ Q = Q (.dat (.bool false)) μ := fun Q => K11.o_sw (l := [])
    simp [startD, K11.e_dMtS]
    rw [show (⟨⟨[]⟩⟩ : Str) = T [] from rfl, sw]
    simp
    refine ⟨[], 0, rfl, by decide, fun z => absurd rfl z, fun _ => ?_⟩
    simpa using hm
  · exact hm.elim
end
end K10
namespace K28
open PySem PySem.Spec PyProof.Rows L2 Evl DL
def ds_is_listed : DS := (dRet (dUn (fIsi2 .lst .tup) (dVar 0)))
end K28
namespace K10
open PySem PySem.Spec PyProof.Rows L2 Evl DL LamX NdefX
section
variable [Cls] [Tabs] {P : Program} {w : World} {K : PySem.W.Frag} {mg : Str → Option Value} {base : Heap} {f_InvalidInteger f_InvalidRatio f_InvalidText f_BadText f_InvalidRatios f_InvalidRow : Addr}
theorem init_InvalidInteger {fd : FuncData} (T : ErrT K mg "InvalidInteger" "value" i_InvalidInteger "InvalidInteger.__init__" Cls.InvalidInteger f_InvalidInteger) (F : Fun K "__init__" "InvalidInteger.__init__" i_InvalidInteger f_InvalidInteger fd) : FnOk P w K mg base CX0 1 f_InvalidInteger fd ["self", "value"] (spInit K "value" Cls.InvalidInteger) :=
  ok_init2 ⟨_, _, rfl⟩ T F sc_InvalidInteger fun cdv A outer s H E => pss_one (ps_ost (pv 0) (pv 1))
theorem init_InvalidRatio {fd : FuncData} (T : ErrT K mg "InvalidRatio" "value" i_InvalidRatio "InvalidRatio.__init__" Cls.InvalidRatio f_InvalidRatio) (F : Fun K "__init__" "InvalidRatio.__init__" i_InvalidRatio f_InvalidRatio fd) : FnOk P w K mg base CX0 1 f_InvalidRatio fd ["self", "value"] (spInit K "value" Cls.InvalidRatio) :=
  ok_init2 ⟨_, _, rfl⟩ T F sc_InvalidRatio fun cdv A outer s H E => pss_one (ps_ost (pv 0) (pv 1))
theorem init_InvalidText {fd : FuncData} (T : ErrT K mg "InvalidText" "value" i_InvalidText "InvalidText.__init__" Cls.InvalidText f_InvalidText) (F : Fun K "__init__" "InvalidText.__init__" i_InvalidText f_InvalidText fd) : FnOk P w K mg base CX0 1 f_InvalidText fd ["self", "value"] (spInit K "value" Cls.InvalidText) :=
  ok_init2 ⟨_, _, rfl⟩ T F sc_InvalidText fun cdv A outer s H E => pss_one (ps_ost (pv 0) (pv 1))
theorem init_BadText {fd : FuncData} (T : ErrT K mg "BadText" "position" i_BadText "BadText.__init__" Cls.BadText f_BadText) (F : Fun K "__init__" "BadText.__init__" i_BadText f_BadText fd) : FnOk P w K mg base CX0 1 f_BadText fd ["self", "position"] (spInit K "position" Cls.BadText) :=
  ok_init2 ⟨_, _, rfl⟩ T F sc_BadText fun cdv A outer s H E => pss_one (ps_ost (pv 0) (pv 1))
theorem init_InvalidRatios {fd : FuncData} (T : ErrT K mg "InvalidRatios" "value" i_InvalidRatios "InvalidRatios.__init__" Cls.InvalidRatios f_InvalidRatios) (F : Fun K "__init__" "InvalidRatios.__init__" i_InvalidRatios f_InvalidRatios fd) : FnOk P w K mg base CX0 1 f_InvalidRatios fd ["self", "value"] (spInit K "value" Cls.InvalidRatios) :=
  ok_init2 ⟨_, _, rfl⟩ T F sc_InvalidRatios fun cdv A outer s H E => pss_one (ps_ost (pv 0) (pv 1))
theorem init_InvalidRow {fd : FuncData} (T : ErrT K mg "InvalidRow" "value" i_InvalidRow "InvalidRow.__init__" Cls.InvalidRow f_InvalidRow) (F : Fun K "__init__" "InvalidRow.__init__" i_InvalidRow f_InvalidRow fd) : FnOk P w K mg base CX0 1 f_InvalidRow fd ["self", "value"] (spInit K "value" Cls.InvalidRow) :=
  ok_init2 ⟨_, _, rfl⟩ T F sc_InvalidRow fun cdv A outer s H E => pss_one (ps_ost (pv 0) (pv 1))
theorem ow_is_integer (hm : ∃ f fd, Fun K "is_integer" "is_integer" s_is_integer f fd ∧ mg "is_integer" = some (.ref f)) (z_bool : mg "bool" = none) (z_int : mg "int" = none) (z_isinstance : mg "isinstance" = none)   (hp : Pure ["value"] 1 WL.ph_is_integer WL.ds_is_integer) : Own P w K mg base "is_integer" s_is_integer ["value"] 1 1 WL.ph_is_integer := by
  obtain ⟨f, fd, F, hf⟩ := hm
  exact ⟨f, fd, F, okD F sc_is_integer rfl (fun cdv A outer s H E hr => (pds_one (pd_ret (pd_and (pd_isi .int (pd_var 0) z_isinstance z_int (by decide +kernel)) (pd_one (pd_not (pd_isi .bool (pd_var 0) z_isinstance z_bool (by decide +kernel)))))))) hp, hf⟩
theorem ow_is_listed (hm : ∃ f fd, Fun K "is_listed" "is_listed" s_is_listed f fd ∧ mg "is_listed" = some (.ref f)) (z_isinstance : mg "isinstance" = none) (z_list : mg "list" = none) (z_tuple : mg "tuple" = none)   (hp : Pure ["value"] 1 K28.ph_is_listed K28.ds_is_listed) : Own P w K mg base "is_listed" s_is_listed ["value"] 1 1 K28.ph_is_listed := by
  obtain ⟨f, fd, F, hf⟩ := hm
  exact ⟨f, fd, F, okD F sc_is_listed rfl (fun cdv A outer s H E hr => (pds_one (pd_ret (pd_isi2 .lst .tup (pd_var 0) z_isinstance z_list z_tuple (by decide +kernel) (by decide +kernel))))) hp, hf⟩
theorem ow_is_tuple_of (hm : ∃ f fd, Fun K "is_tuple_of" "is_tuple_of" s_is_tuple_of f fd ∧ mg "is_tuple_of" = some (.ref f)) (z_isinstance : mg "isinstance" = none) (z_len : mg "len" = none) (z_tuple : mg "tuple" = none)   (hp : Pure ["value", "many"] 2 WL.ph_is_tuple_of WL.ds_is_tuple_of) : Own P w K mg base "is_tuple_of" s_is_tuple_of ["value", "many"] 1 2 WL.ph_is_tuple_of := by
  obtain ⟨f, fd, F, hf⟩ := hm
  exact ⟨f, fd, F, okD F sc_is_tuple_of rfl (fun cdv A outer s H E hr => (pds_one (pd_ret (pd_and (pd_isi .tup (pd_var 0) z_isinstance z_tuple (by decide +kernel)) (pd_one (pd_cmp (op_eqV hr.u64) lr_eq (pd_len  (pda_cons (pd_var 0) pda_nil) z_len) (pd_var 1) (nomark _))))))) hp, hf⟩
theorem ow_are_integers (hm : ∃ f fd, Fun K "are_integers" "are_integers" s_are_integers f fd ∧ mg "are_integers" = some (.ref f)) (z_all : mg "all" = none)  (o_is_integer : Own P w K mg base "is_integer" s_is_integer ["value"] 1 1 WL.ph_is_integer) (hp : Pure ["value", "number"] 1 K52.ph_are_integers K52.ds_are_integers) : Own P w K mg base "are_integers" s_are_integers ["value"] 2 1 K52.ph_are_integers := by
  obtain ⟨f, fd, F, hf⟩ := hm
  exact ⟨f, fd, F, okD F sc_are_integers rfl (fun cdv A outer s H E hr => (pds_one (pd_ret (pd_all rfl (pda_cons (pd_lcQ fin_frz [("number", 1)] rfl sc_are_integers.nd (pdi_seq (pd_var 0)) (blkOk_by (N := ["value", "number"]) (by show blkC _ (defScope s_are_integers) _ _ = true; decide +kernel)) (ctg_name 1 (by decide) (fun _ _ _ _ _ => pg_name (i := 1) sc_are_integers.nd rfl (Or.inl rfl))) ctst_nil (fun _ _ _ _ _ => (pd_call o_is_integer (hr.mono (by decide)) (fun _ _ _ _ _ _ us hl => match us, hl with | [_], _ => rfl) (pda_cons (pd_var 1) pda_nil)))) pda_nil) z_all)))) hp, hf⟩
theorem owE_check_text (hm : ∃ f fd, Fun K "check_text" "check_text" s_check_text f fd ∧ mg "check_text" = some (.ref f)) (z_isinstance : mg "isinstance" = none) (z_str : mg "str" = none) (T_InvalidText : ErrT K mg "InvalidText" "value" i_InvalidText "InvalidText.__init__" Cls.InvalidText f_InvalidText)  : OwnE P w K mg base "check_text" s_check_text ["text"] 3 1 (phO f_check_text) := by
  obtain ⟨f, fd, F, hf⟩ := hm
  obtain ⟨fd_InvalidText, F_InvalidText⟩ := T_InvalidText.fn
  have G_InvalidText : FnOk P w K mg base CX0 1 f_InvalidText fd_InvalidText ["self", "value"] (spInit K "value" Cls.InvalidText) := init_InvalidText T_InvalidText F_InvalidText
  have b_InvalidText : Binds K fd_InvalidText ["self", "value"] [] := F_InvalidText.binds (ps := ["self", "value"]) fun _ _ _ _ _ _ us hl => match us, hl with | [_, _], _ => rfl
  refine ⟨f, fd, F, okE (k := 2) F sc_check_text rfl (fun cdv A outer s H E hr => ?_) puE_check_text, hf⟩
  have tk : Takes (cxOf (L2.CX P w) P w K mg base ["text"] "check_text" (defScope s_check_text) f cdv A outer s H E) (fun cls d _ H => E cls d H) := takes_of rfl rfl rfl rfl
  exact (pdsx_one (pdx_if (pdt_not (pdt_tru (pd_isi .str (pd_var 0) z_isinstance z_str (by decide +kernel)))) (pdsx_one (pdx_raise (j := 0) tk T_InvalidText G_InvalidText (hr.r.mono (by decide)) b_InvalidText (pda_cons (pd_var 0) pda_nil))) pdsx_nil))
theorem ow_is_ratio (hm : ∃ f fd, Fun K "is_ratio" "is_ratio" s_is_ratio f fd ∧ mg "is_ratio" = some (.ref f)) (z_gcd : mg "gcd" = some (.builtin "math.gcd"))  (o_is_integer : Own P w K mg base "is_integer" s_is_integer ["value"] 1 1 WL.ph_is_integer) (o_is_tuple_of : Own P w K mg base "is_tuple_of" s_is_tuple_of ["value", "many"] 1 2 WL.ph_is_tuple_of) (hp : Pure ["value", "number", "under"] 1 K11.ph_is_ratio K11.ds_is_ratio) : Own P w K mg base "is_ratio" s_is_ratio ["value"] 2 1 K11.ph_is_ratio := by
  obtain ⟨f, fd, F, hf⟩ := hm
  exact ⟨f, fd, F, okD F sc_is_ratio rfl (fun cdv A outer s H E hr => (pds_cons (pd_if (PDW.pdt (pdw_or (pdt_not (pdt_tru (pd_call o_is_tuple_of (hr.mono (by decide)) (fun _ _ _ _ _ _ us hl => match us, hl with | [_, _], _ => rfl) (pda_cons (pd_var 0) (pda_cons pd_int pda_nil))))) (pdw_or (pdt_not (pdt_tru (pd_call o_is_integer (hr.mono (by decide)) (fun _ _ _ _ _ _ us hl => match us, hl with | [_], _ => rfl) (pda_cons (pd_ix (pd_var 0) pd_int) pda_nil)))) (pdw_or1 (pdt_not (pdt_tru (pd_call o_is_integer (hr.mono (by decide)) (fun _ _ _ _ _ _ us hl => match us, hl with | [_], _ => rfl) (pda_cons (pd_ix (pd_var 0) pd_int) pda_nil)))))))) (pds_one (pd_ret pd_bl)) pds_nil)
    (pds_cons (pd_asgG (pd_var 0) (pdg_tup rfl (pdgs_cons (pdg_name (i := 1) sc_is_ratio.nd) (pdgs_cons (pdg_name (i := 2) sc_is_ratio.nd) pdgs_nil))))
    (pds_one (pd_ret (pd_and (pd_cmp (op_geW hr.u128) lr_ordW (pd_var 2) pd_int (nomark _)) (pd_one (pd_cmp (op_eqV hr.u64) lr_eq (pd_gcd (pda_cons (pd_var 1) (pda_cons (pd_var 2) pda_nil)) z_gcd) pd_int (nomark _))))))))) hp, hf⟩
theorem owE_check_integer (hm : ∃ f fd, Fun K "check_integer" "check_integer" s_check_integer f fd ∧ mg "check_integer" = some (.ref f))  (T_InvalidInteger : ErrT K mg "InvalidInteger" "value" i_InvalidInteger "InvalidInteger.__init__" Cls.InvalidInteger f_InvalidInteger) (o_is_integer : Own P w K mg base "is_integer" s_is_integer ["value"] 1 1 WL.ph_is_integer) : OwnE P w K mg base "check_integer" s_check_integer ["value"] 3 1 (phO f_check_integer) := by
  obtain ⟨f, fd, F, hf⟩ := hm
  obtain ⟨fd_InvalidInteger, F_InvalidInteger⟩ := T_InvalidInteger.fn
  have G_InvalidInteger : FnOk P w K mg base CX0 1 f_InvalidInteger fd_InvalidInteger ["self", "value"] (spInit K "value" Cls.InvalidInteger) := init_InvalidInteger T_InvalidInteger F_InvalidInteger
  have b_InvalidInteger : Binds K fd_InvalidInteger ["self", "value"] [] := F_InvalidInteger.binds (ps := ["self", "value"]) fun _ _ _ _ _ _ us hl => match us, hl with | [_, _], _ => rfl
  refine ⟨f, fd, F, okE (k := 2) F sc_check_integer rfl (fun cdv A outer s H E hr => ?_) puE_check_integer, hf⟩
  have tk : Takes (cxOf (L2.CX P w) P w K mg base ["value"] "check_integer" (defScope s_check_integer) f cdv A outer s H E) (fun cls d _ H => E cls d H) := takes_of rfl rfl rfl rfl
  exact (pdsx_one (pdx_if (pdt_not (pdt_tru (pd_call o_is_integer (hr.mono (by decide)) (fun _ _ _ _ _ _ us hl => match us, hl with | [_], _ => rfl) (pda_cons (pd_var 0) pda_nil)))) (pdsx_one (pdx_raise (j := 0) tk T_InvalidInteger G_InvalidInteger (hr.r.mono (by decide)) b_InvalidInteger (pda_cons (pd_var 0) pda_nil))) pdsx_nil))
theorem owE_check_ratio (hm : ∃ f fd, Fun K "check_ratio" "check_ratio" s_check_ratio f fd ∧ mg "check_ratio" = some (.ref f))  (T_InvalidRatio : ErrT K mg "InvalidRatio" "value" i_InvalidRatio "InvalidRatio.__init__" Cls.InvalidRatio f_InvalidRatio) (o_is_ratio : Own P w K mg base "is_ratio" s_is_ratio ["value"] 2 1 K11.ph_is_ratio) : OwnE P w K mg base "check_ratio" s_check_ratio ["value"] 3 1 (phO f_check_ratio) := by
  obtain ⟨f, fd, F, hf⟩ := hm
  obtain ⟨fd_InvalidRatio, F_InvalidRatio⟩ := T_InvalidRatio.fn
  have G_InvalidRatio : FnOk P w K mg base CX0 1 f_InvalidRatio fd_InvalidRatio ["self", "value"] (spInit K "value" Cls.InvalidRatio) := init_InvalidRatio T_InvalidRatio F_InvalidRatio
  have b_InvalidRatio : Binds K fd_InvalidRatio ["self", "value"] [] := F_InvalidRatio.binds (ps := ["self", "value"]) fun _ _ _ _ _ _ us hl => match us, hl with | [_, _], _ => rfl
  refine ⟨f, fd, F, okE (k := 2) F sc_check_ratio rfl (fun cdv A outer s H E hr => ?_) puE_check_ratio, hf⟩
  have tk : Takes (cxOf (L2.CX P w) P w K mg base ["value"] "check_ratio" (defScope s_check_ratio) f cdv A outer s H E) (fun cls d _ H => E cls d H) := takes_of rfl rfl rfl rfl
  exact (pdsx_one (pdx_if (pdt_not (pdt_tru (pd_call o_is_ratio (hr.mono (by decide)) (fun _ _ _ _ _ _ us hl => match us, hl with | [_], _ => rfl) (pda_cons (pd_var 0) pda_nil)))) (pdsx_one (pdx_raise (j := 0) tk T_InvalidRatio G_InvalidRatio (hr.r.mono (by decide)) b_InvalidRatio (pda_cons (pd_var 0) pda_nil))) pdsx_nil))
theorem owE_check_ratios (hm : ∃ f fd, Fun K "check_ratios" "check_ratios" s_check_ratios f fd ∧ mg "check_ratios" = some (.ref f))   (oE_check_ratio : OwnE P w K mg base "check_ratio" s_check_ratio ["value"] 3 1 (phO f_check_ratio)) : OwnE P w K mg base "check_ratios" s_check_ratios ["near", "far"] 4 2 (phO f_check_ratios) := by
  obtain ⟨f, fd, F, hf⟩ := hm
  refine ⟨f, fd, F, okE (k := 3) F sc_check_ratios rfl (fun cdv A outer s H E hr => ?_) puE_check_ratios, hf⟩
  have tk : Takes (cxOf (L2.CX P w) P w K mg base ["near", "far"] "check_ratios" (defScope s_check_ratios) f cdv A outer s H E) (fun cls d _ H => E cls d H) := takes_of rfl rfl rfl rfl
  exact (pdsx_cons (pdx_expr (pdx_call tk oE_check_ratio (hr.mono (by decide)) (fun _ _ _ _ _ _ us hl => match us, hl with | [_], _ => rfl) (pda_cons (pd_var 0) pda_nil)))
    (pdsx_one (pdx_expr (pdx_call tk oE_check_ratio (hr.mono (by decide)) (fun _ _ _ _ _ _ us hl => match us, hl with | [_], _ => rfl) (pda_cons (pd_var 1) pda_nil)))))
theorem owE_made (hm : ∃ f fd, Fun K "made" "made" s_made f fd ∧ mg "made" = some (.ref f))  (N_NoQuotient : ErrN K mg "NoQuotient" Cls.NoQuotient) (oE_check_integer : OwnE P w K mg base "check_integer" s_check_integer ["value"] 3 1 (phO f_check_integer)) : OwnE P w K mg base "made" s_made ["number", "under"] 4 2 (phO f_made) := by
  obtain ⟨f, fd, F, hf⟩ := hm
  refine ⟨f, fd, F, okE (k := 3) F sc_made rfl (fun cdv A outer s H E hr => ?_) puE_made, hf⟩
  have tk : Takes (cxOf (L2.CX P w) P w K mg base ["number", "under"] "made" (defScope s_made) f cdv A outer s H E) (fun cls d _ H => E cls d H) := takes_of rfl rfl rfl rfl
  exact (pdsx_cons (pdx_expr (pdx_call tk oE_check_integer (hr.mono (by decide)) (fun _ _ _ _ _ _ us hl => match us, hl with | [_], _ => rfl) (pda_cons (pd_var 0) pda_nil)))
    (pdsx_cons (pdx_expr (pdx_call tk oE_check_integer (hr.mono (by decide)) (fun _ _ _ _ _ _ us hl => match us, hl with | [_], _ => rfl) (pda_cons (pd_var 1) pda_nil)))
    (pdsx_cons (pdx_if (pdt_cmp (op_eqV hr.u64) lr_eq (pd_var 1) pd_int (nomark _)) (pdsx_one (pdx_raise0 tk N_NoQuotient)) pdsx_nil)
    pdsx_nev)))
theorem owE_plus (hm : ∃ f fd, Fun K "plus" "plus" s_plus f fd ∧ mg "plus" = some (.ref f))   (oE_check_ratios : OwnE P w K mg base "check_ratios" s_check_ratios ["near", "far"] 4 2 (phO f_check_ratios)) : OwnE P w K mg base "plus" s_plus ["near", "far"] 5 2 (phO f_plus) := by
  obtain ⟨f, fd, F, hf⟩ := hm
  refine ⟨f, fd, F, okE (k := 4) F sc_plus rfl (fun cdv A outer s H E hr => ?_) puE_plus, hf⟩
  have tk : Takes (cxOf (L2.CX P w) P w K mg base ["near", "far"] "plus" (defScope s_plus) f cdv A outer s H E) (fun cls d _ H => E cls d H) := takes_of rfl rfl rfl rfl
  exact (pdsx_cons (pdx_expr (pdx_call tk oE_check_ratios (hr.mono (by decide)) (fun _ _ _ _ _ _ us hl => match us, hl with | [_, _], _ => rfl) (pda_cons (pd_var 0) (pda_cons (pd_var 1) pda_nil))))
    pdsx_nev)
theorem owE_minus (hm : ∃ f fd, Fun K "minus" "minus" s_minus f fd ∧ mg "minus" = some (.ref f))   (oE_check_ratios : OwnE P w K mg base "check_ratios" s_check_ratios ["near", "far"] 4 2 (phO f_check_ratios)) : OwnE P w K mg base "minus" s_minus ["near", "far"] 5 2 (phO f_minus) := by
  obtain ⟨f, fd, F, hf⟩ := hm
  refine ⟨f, fd, F, okE (k := 4) F sc_minus rfl (fun cdv A outer s H E hr => ?_) puE_minus, hf⟩
  have tk : Takes (cxOf (L2.CX P w) P w K mg base ["near", "far"] "minus" (defScope s_minus) f cdv A outer s H E) (fun cls d _ H => E cls d H) := takes_of rfl rfl rfl rfl
  exact (pdsx_cons (pdx_expr (pdx_call tk oE_check_ratios (hr.mono (by decide)) (fun _ _ _ _ _ _ us hl => match us, hl with | [_, _], _ => rfl) (pda_cons (pd_var 0) (pda_cons (pd_var 1) pda_nil))))
    pdsx_nev)
theorem owE_times (hm : ∃ f fd, Fun K "times" "times" s_times f fd ∧ mg "times" = some (.ref f))   (oE_check_ratios : OwnE P w K mg base "check_ratios" s_check_ratios ["near", "far"] 4 2 (phO f_check_ratios)) : OwnE P w K mg base "times" s_times ["near", "far"] 5 2 (phO f_times) := by
  obtain ⟨f, fd, F, hf⟩ := hm
  refine ⟨f, fd, F, okE (k := 4) F sc_times rfl (fun cdv A outer s H E hr => ?_) puE_times, hf⟩
  have tk : Takes (cxOf (L2.CX P w) P w K mg base ["near", "far"] "times" (defScope s_times) f cdv A outer s H E) (fun cls d _ H => E cls d H) := takes_of rfl rfl rfl rfl
  exact (pdsx_cons (pdx_expr (pdx_call tk oE_check_ratios (hr.mono (by decide)) (fun _ _ _ _ _ _ us hl => match us, hl with | [_, _], _ => rfl) (pda_cons (pd_var 0) (pda_cons (pd_var 1) pda_nil))))
    pdsx_nev)
theorem owE_over (hm : ∃ f fd, Fun K "over" "over" s_over f fd ∧ mg "over" = some (.ref f))  (N_NoQuotient : ErrN K mg "NoQuotient" Cls.NoQuotient) (oE_check_ratios : OwnE P w K mg base "check_ratios" s_check_ratios ["near", "far"] 4 2 (phO f_check_ratios)) : OwnE P w K mg base "over" s_over ["near", "far"] 5 2 (phO f_over) := by
  obtain ⟨f, fd, F, hf⟩ := hm
  refine ⟨f, fd, F, okE (k := 4) F sc_over rfl (fun cdv A outer s H E hr => ?_) puE_over, hf⟩
  have tk : Takes (cxOf (L2.CX P w) P w K mg base ["near", "far"] "over" (defScope s_over) f cdv A outer s H E) (fun cls d _ H => E cls d H) := takes_of rfl rfl rfl rfl
  exact (pdsx_cons (pdx_expr (pdx_call tk oE_check_ratios (hr.mono (by decide)) (fun _ _ _ _ _ _ us hl => match us, hl with | [_, _], _ => rfl) (pda_cons (pd_var 0) (pda_cons (pd_var 1) pda_nil))))
    (pdsx_cons (pdx_if (pdt_cmp (op_eqV hr.u64) lr_eq (pd_ix (pd_var 1) pd_int) pd_int (nomark _)) (pdsx_one (pdx_raise0 tk N_NoQuotient)) pdsx_nil)
    pdsx_nev))
theorem owE_compared (hm : ∃ f fd, Fun K "compared" "compared" s_compared f fd ∧ mg "compared" = some (.ref f))   (oE_check_ratios : OwnE P w K mg base "check_ratios" s_check_ratios ["near", "far"] 4 2 (phO f_check_ratios)) : OwnE P w K mg base "compared" s_compared ["near", "far"] 5 2 (phO f_compared) := by
  obtain ⟨f, fd, F, hf⟩ := hm
  refine ⟨f, fd, F, okE (k := 4) F sc_compared rfl (fun cdv A outer s H E hr => ?_) puE_compared, hf⟩
  have tk : Takes (cxOf (L2.CX P w) P w K mg base ["near", "far", "left", "right"] "compared" (defScope s_compared) f cdv A outer s H E) (fun cls d _ H => E cls d H) := takes_of rfl rfl rfl rfl
  exact (pdsx_cons (pdx_expr (pdx_call tk oE_check_ratios (hr.mono (by decide)) (fun _ _ _ _ _ _ us hl => match us, hl with | [_, _], _ => rfl) (pda_cons (pd_var 0) (pda_cons (pd_var 1) pda_nil))))
    pdsx_nev)
theorem owE_floor_of (hm : ∃ f fd, Fun K "floor_of" "floor_of" s_floor_of f fd ∧ mg "floor_of" = some (.ref f))   (oE_check_ratio : OwnE P w K mg base "check_ratio" s_check_ratio ["value"] 3 1 (phO f_check_ratio)) : OwnE P w K mg base "floor_of" s_floor_of ["ratio"] 4 1 (phO f_floor_of) := by
  obtain ⟨f, fd, F, hf⟩ := hm
  refine ⟨f, fd, F, okE (k := 3) F sc_floor_of rfl (fun cdv A outer s H E hr => ?_) puE_floor_of, hf⟩
  have tk : Takes (cxOf (L2.CX P w) P w K mg base ["ratio"] "floor_of" (defScope s_floor_of) f cdv A outer s H E) (fun cls d _ H => E cls d H) := takes_of rfl rfl rfl rfl
  exact (pdsx_cons (pdx_expr (pdx_call tk oE_check_ratio (hr.mono (by decide)) (fun _ _ _ _ _ _ us hl => match us, hl with | [_], _ => rfl) (pda_cons (pd_var 0) pda_nil)))
    pdsx_nev)
theorem owE_ceiling_of (hm : ∃ f fd, Fun K "ceiling_of" "ceiling_of" s_ceiling_of f fd ∧ mg "ceiling_of" = some (.ref f))   (oE_check_ratio : OwnE P w K mg base "check_ratio" s_check_ratio ["value"] 3 1 (phO f_check_ratio)) : OwnE P w K mg base "ceiling_of" s_ceiling_of ["ratio"] 4 1 (phO f_ceiling_of) := by
  obtain ⟨f, fd, F, hf⟩ := hm
  refine ⟨f, fd, F, okE (k := 3) F sc_ceiling_of rfl (fun cdv A outer s H E hr => ?_) puE_ceiling_of, hf⟩
  have tk : Takes (cxOf (L2.CX P w) P w K mg base ["ratio"] "ceiling_of" (defScope s_ceiling_of) f cdv A outer s H E) (fun cls d _ H => E cls d H) := takes_of rfl rfl rfl rfl
  exact (pdsx_cons (pdx_expr (pdx_call tk oE_check_ratio (hr.mono (by decide)) (fun _ _ _ _ _ _ us hl => match us, hl with | [_], _ => rfl) (pda_cons (pd_var 0) pda_nil)))
    pdsx_nev)
theorem owE_ratio_text (hm : ∃ f fd, Fun K "ratio_text" "ratio_text" s_ratio_text f fd ∧ mg "ratio_text" = some (.ref f))   (oE_check_ratio : OwnE P w K mg base "check_ratio" s_check_ratio ["value"] 3 1 (phO f_check_ratio)) : OwnE P w K mg base "ratio_text" s_ratio_text ["ratio"] 4 1 (phO f_ratio_text) := by
  obtain ⟨f, fd, F, hf⟩ := hm
  refine ⟨f, fd, F, okE (k := 3) F sc_ratio_text rfl (fun cdv A outer s H E hr => ?_) puE_ratio_text, hf⟩
  have tk : Takes (cxOf (L2.CX P w) P w K mg base ["ratio", "number", "under", "sign", "text"] "ratio_text" (defScope s_ratio_text) f cdv A outer s H E) (fun cls d _ H => E cls d H) := takes_of rfl rfl rfl rfl
  exact (pdsx_cons (pdx_expr (pdx_call tk oE_check_ratio (hr.mono (by decide)) (fun _ _ _ _ _ _ us hl => match us, hl with | [_], _ => rfl) (pda_cons (pd_var 0) pda_nil)))
    pdsx_nev)
theorem owE_parse_ratio (hm : ∃ f fd, Fun K "parse_ratio" "parse_ratio" s_parse_ratio f fd ∧ mg "parse_ratio" = some (.ref f))   (oE_check_text : OwnE P w K mg base "check_text" s_check_text ["text"] 3 1 (phO f_check_text)) (oE_digits_end : OwnE P w K mg base "digits_end" s_digits_end ["text", "begin"] 3 2 (K13.phE_digits_end Cls.BadText)) : OwnE P w K mg base "parse_ratio" s_parse_ratio ["text"] 4 1 (phO f_parse_ratio) := by
  obtain ⟨f, fd, F, hf⟩ := hm
  refine ⟨f, fd, F, okE (k := 3) F sc_parse_ratio rfl (fun cdv A outer s H E hr => ?_) puE_parse_ratio, hf⟩
  have tk : Takes (cxOf (L2.CX P w) P w K mg base ["text", "begin", "end", "last"] "parse_ratio" (defScope s_parse_ratio) f cdv A outer s H E) (fun cls d _ H => E cls d H) := takes_of rfl rfl rfl rfl
  exact (pdsx_cons (pdx_expr (pdx_call tk oE_check_text (hr.mono (by decide)) (fun _ _ _ _ _ _ us hl => match us, hl with | [_], _ => rfl) (pda_cons (pd_var 0) pda_nil)))
    (pdsx_cons (pdx_of (pd_set (i := 1) sc_parse_ratio.nd (pd_ifExp (pdt_tru (pd_startswith (pd_var 0) pd_str)) pd_int pd_int)))
    (pdsx_cons (pdx_set (i := 2) sc_parse_ratio.nd (pdx_call tk oE_digits_end (hr.mono (by decide)) (fun _ _ _ _ _ _ us hl => match us, hl with | [_, _], _ => rfl) (pda_cons (pd_var 0) (pda_cons (pd_var 1) pda_nil))))
    pdsx_nev)))
theorem owE_digits_end (hm : ∃ f fd, Fun K "digits_end" "digits_end" s_digits_end f fd ∧ mg "digits_end" = some (.ref f)) (z_len : mg "len" = none) (T_BadText : ErrT K mg "BadText" "position" i_BadText "BadText.__init__" Cls.BadText f_BadText)  : OwnE P w K mg base "digits_end" s_digits_end ["text", "begin"] 3 2 (K13.phE_digits_end Cls.BadText) := by
  obtain ⟨f, fd, F, hf⟩ := hm
  obtain ⟨fd_BadText, F_BadText⟩ := T_BadText.fn
  have G_BadText : FnOk P w K mg base CX0 1 f_BadText fd_BadText ["self", "position"] (spInit K "position" Cls.BadText) := init_BadText T_BadText F_BadText
  have b_BadText : Binds K fd_BadText ["self", "position"] [] := F_BadText.binds (ps := ["self", "position"]) fun _ _ _ _ _ _ us hl => match us, hl with | [_, _], _ => rfl
  refine ⟨f, fd, F, okE (k := 2) F sc_digits_end rfl (fun cdv A outer s H E hr => ?_) K13.puE_digits_end, hf⟩
  have tk : Takes (cxOf (L2.CX P w) P w K mg base ["text", "begin", "end"] "digits_end" (defScope s_digits_end) f cdv A outer s H E) (fun cls d _ H => E cls d H) := takes_of rfl rfl rfl rfl
  exact (pdsx_cons (pdx_of (pd_if (pdt_tru (pd_startswith3 (pd_var 0) pd_str (pd_var 1))) (pds_one (pd_ret (pd_add (pd_var 1) pd_int))) pds_nil))
    (pdsx_cons (pdx_of (pd_set (i := 2) sc_digits_end.nd (pd_var 1)))
    (pdsx_cons (pdx_of (pd_while (passes_of rfl) (PDW.pdt (pdw_and (pdt_cmp (op_ltW hr.u128) lr_ordW (pd_var 2) (pd_len  (pda_cons (pd_var 0) pda_nil) z_len) (nomark _)) (pdw_and1 (pdt_chain (op_leW hr.u128) (op_leW hr.u128) lr_ordW lr_ordW pd_str (pd_ix (pd_var 0) (pd_var 2)) pd_str)))) (pds_one (pd_augAdd (i := 2) sc_digits_end.nd pd_int))))
    (pdsx_cons (pdx_if (pdt_cmp (op_eqV hr.u64) lr_eq (pd_var 2) (pd_var 1) (nomark _)) (pdsx_one (pdx_raise (j := 0) tk T_BadText G_BadText (hr.r.mono (by decide)) b_BadText (pda_cons (pd_var 2) pda_nil))) pdsx_nil)
    (pdsx_one (pdx_of (pd_ret (pd_var 2))))))))
theorem ow_is_row (hm : ∃ f fd, Fun K "is_row" "is_row" s_is_row f fd ∧ mg "is_row" = some (.ref f)) (z_isinstance : mg "isinstance" = none) (z_len : mg "len" = none) (z_tuple : mg "tuple" = none)  (o_are_integers : Own P w K mg base "are_integers" s_are_integers ["value"] 2 1 K52.ph_are_integers) (hp : Pure ["value"] 1 ph_is_row ds_is_row) : Own P w K mg base "is_row" s_is_row ["value"] 3 1 ph_is_row := by
  obtain ⟨f, fd, F, hf⟩ := hm
  exact ⟨f, fd, F, okD F sc_is_row rfl (fun cdv A outer s H E hr => (pds_one (pd_ret (pd_and (pd_isi .tup (pd_var 0) z_isinstance z_tuple (by decide +kernel)) (pd_and (pd_chain (op_leW hr.u128) (op_leW hr.u128) lr_ordW lr_ordW pd_int (pd_len  (pda_cons (pd_var 0) pda_nil) z_len) pd_int) (pd_one (pd_call o_are_integers (hr.mono (by decide)) (fun _ _ _ _ _ _ us hl => match us, hl with | [_], _ => rfl) (pda_cons (pd_var 0) pda_nil)))))))) hp, hf⟩
theorem owE_check_row (hm : ∃ f fd, Fun K "check_row" "check_row" s_check_row f fd ∧ mg "check_row" = some (.ref f))  (T_InvalidRow : ErrT K mg "InvalidRow" "value" i_InvalidRow "InvalidRow.__init__" Cls.InvalidRow f_InvalidRow) (o_is_row : Own P w K mg base "is_row" s_is_row ["value"] 3 1 ph_is_row) : OwnE P w K mg base "check_row" s_check_row ["value"] 4 1 (phO f_check_row) := by
  obtain ⟨f, fd, F, hf⟩ := hm
  obtain ⟨fd_InvalidRow, F_InvalidRow⟩ := T_InvalidRow.fn
  have G_InvalidRow : FnOk P w K mg base CX0 1 f_InvalidRow fd_InvalidRow ["self", "value"] (spInit K "value" Cls.InvalidRow) := init_InvalidRow T_InvalidRow F_InvalidRow
  have b_InvalidRow : Binds K fd_InvalidRow ["self", "value"] [] := F_InvalidRow.binds (ps := ["self", "value"]) fun _ _ _ _ _ _ us hl => match us, hl with | [_, _], _ => rfl
  refine ⟨f, fd, F, okE (k := 3) F sc_check_row rfl (fun cdv A outer s H E hr => ?_) puE_check_row, hf⟩
  have tk : Takes (cxOf (L2.CX P w) P w K mg base ["value"] "check_row" (defScope s_check_row) f cdv A outer s H E) (fun cls d _ H => E cls d H) := takes_of rfl rfl rfl rfl
  exact (pdsx_one (pdx_if (pdt_not (pdt_tru (pd_call o_is_row (hr.mono (by decide)) (fun _ _ _ _ _ _ us hl => match us, hl with | [_], _ => rfl) (pda_cons (pd_var 0) pda_nil)))) (pdsx_one (pdx_raise (j := 0) tk T_InvalidRow G_InvalidRow (hr.r.mono (by decide)) b_InvalidRow (pda_cons (pd_var 0) pda_nil))) pdsx_nil))
theorem owE_check_rows (hm : ∃ f fd, Fun K "check_rows" "check_rows" s_check_rows f fd ∧ mg "check_rows" = some (.ref f)) (z_len : mg "len" = none) (N_UnlikeLengths : ErrN K mg "UnlikeLengths" Cls.UnlikeLengths) (oE_check_row : OwnE P w K mg base "check_row" s_check_row ["value"] 4 1 (phO f_check_row)) : OwnE P w K mg base "check_rows" s_check_rows ["row", "other"] 5 2 (phO f_check_rows) := by
  obtain ⟨f, fd, F, hf⟩ := hm
  refine ⟨f, fd, F, okE (k := 4) F sc_check_rows rfl (fun cdv A outer s H E hr => ?_) puE_check_rows, hf⟩
  have tk : Takes (cxOf (L2.CX P w) P w K mg base ["row", "other"] "check_rows" (defScope s_check_rows) f cdv A outer s H E) (fun cls d _ H => E cls d H) := takes_of rfl rfl rfl rfl
  exact (pdsx_cons (pdx_expr (pdx_call tk oE_check_row (hr.mono (by decide)) (fun _ _ _ _ _ _ us hl => match us, hl with | [_], _ => rfl) (pda_cons (pd_var 0) pda_nil)))
    (pdsx_cons (pdx_expr (pdx_call tk oE_check_row (hr.mono (by decide)) (fun _ _ _ _ _ _ us hl => match us, hl with | [_], _ => rfl) (pda_cons (pd_var 1) pda_nil)))
    (pdsx_one (pdx_if (pdt_cmp (op_neV hr.u64) lr_ne (pd_len  (pda_cons (pd_var 0) pda_nil) z_len) (pd_len  (pda_cons (pd_var 1) pda_nil) z_len) (nomark _)) (pdsx_one (pdx_raise0 tk N_UnlikeLengths)) pdsx_nil))))
theorem owE_check_ratio_list (hm : ∃ f fd, Fun K "check_ratio_list" "check_ratio_list" s_check_ratio_list f fd ∧ mg "check_ratio_list" = some (.ref f)) (z_all : mg "all" = none) (z_len : mg "len" = none) (T_InvalidRatios : ErrT K mg "InvalidRatios" "value" i_InvalidRatios "InvalidRatios.__init__" Cls.InvalidRatios f_InvalidRatios) (o_is_listed : Own P w K mg base "is_listed" s_is_listed ["value"] 1 1 K28.ph_is_listed) (o_is_ratio : Own P w K mg base "is_ratio" s_is_ratio ["value"] 2 1 K11.ph_is_ratio) : OwnE P w K mg base "check_ratio_list" s_check_ratio_list ["ratios"] 3 1 (phO f_check_ratio_list) := by
  obtain ⟨f, fd, F, hf⟩ := hm
  obtain ⟨fd_InvalidRatios, F_InvalidRatios⟩ := T_InvalidRatios.fn
  have G_InvalidRatios : FnOk P w K mg base CX0 1 f_InvalidRatios fd_InvalidRatios ["self", "value"] (spInit K "value" Cls.InvalidRatios) := init_InvalidRatios T_InvalidRatios F_InvalidRatios
  have b_InvalidRatios : Binds K fd_InvalidRatios ["self", "value"] [] := F_InvalidRatios.binds (ps := ["self", "value"]) fun _ _ _ _ _ _ us hl => match us, hl with | [_, _], _ => rfl
  refine ⟨f, fd, F, okE (k := 2) F sc_check_ratio_list rfl (fun cdv A outer s H E hr => ?_) puE_check_ratio_list, hf⟩
  have tk : Takes (cxOf (L2.CX P w) P w K mg base ["ratios", "ratio"] "check_ratio_list" (defScope s_check_ratio_list) f cdv A outer s H E) (fun cls d _ H => E cls d H) := takes_of rfl rfl rfl rfl
  exact (pdsx_cons (pdx_if (PDW.pdt (pdw_or (pdt_not (pdt_tru (pd_call o_is_listed (hr.mono (by decide)) (fun _ _ _ _ _ _ us hl => match us, hl with | [_], _ => rfl) (pda_cons (pd_var 0) pda_nil)))) (pdw_or1 (pdt_not (pdt_chain (op_leW hr.u128) (op_leW hr.u128) lr_ordW lr_ordW pd_int (pd_len  (pda_cons (pd_var 0) pda_nil) z_len) pd_int))))) (pdsx_one (pdx_raise (j := 0) tk T_InvalidRatios G_InvalidRatios (hr.r.mono (by decide)) b_InvalidRatios (pda_cons (pd_var 0) pda_nil))) pdsx_nil)
    (pdsx_one (pdx_if (pdt_not (pdt_tru (pd_all rfl (pda_cons (pd_lcQ fin_frz [("ratio", 1)] rfl sc_check_ratio_list.nd (pdi_seq (pd_var 0)) (blkOk_by (N := ["ratios", "ratio"]) (by show blkC _ (defScope s_check_ratio_list) _ _ = true; decide +kernel)) (ctg_name 1 (by decide) (fun _ _ _ _ _ => pg_name (i := 1) sc_check_ratio_list.nd rfl (Or.inl rfl))) ctst_nil (fun _ _ _ _ _ => (pd_call o_is_ratio (hr.mono (by decide)) (fun _ _ _ _ _ _ us hl => match us, hl with | [_], _ => rfl) (pda_cons (pd_var 1) pda_nil)))) pda_nil) z_all))) (pdsx_one (pdx_raise (j := 0) tk T_InvalidRatios G_InvalidRatios (hr.r.mono (by decide)) b_InvalidRatios (pda_cons (pd_var 0) pda_nil))) pdsx_nil)))
theorem owE_row_product (hm : ∃ f fd, Fun K "row_product" "row_product" s_row_product f fd ∧ mg "row_product" = some (.ref f))   (oE_check_rows : OwnE P w K mg base "check_rows" s_check_rows ["row", "other"] 5 2 (phO f_check_rows)) : OwnE P w K mg base "row_product" s_row_product ["row", "other"] 6 2 (phO f_row_product) := by
  obtain ⟨f, fd, F, hf⟩ := hm
  refine ⟨f, fd, F, okE (k := 5) F sc_row_product rfl (fun cdv A outer s H E hr => ?_) puE_row_product, hf⟩
  have tk : Takes (cxOf (L2.CX P w) P w K mg base ["row", "other"] "row_product" (defScope s_row_product) f cdv A outer s H E) (fun cls d _ H => E cls d H) := takes_of rfl rfl rfl rfl
  exact (pdsx_cons (pdx_expr (pdx_call tk oE_check_rows (hr.mono (by decide)) (fun _ _ _ _ _ _ us hl => match us, hl with | [_, _], _ => rfl) (pda_cons (pd_var 0) (pda_cons (pd_var 1) pda_nil))))
    pdsx_nev)
theorem owE_row_sum (hm : ∃ f fd, Fun K "row_sum" "row_sum" s_row_sum f fd ∧ mg "row_sum" = some (.ref f))   (oE_check_rows : OwnE P w K mg base "check_rows" s_check_rows ["row", "other"] 5 2 (phO f_check_rows)) : OwnE P w K mg base "row_sum" s_row_sum ["row", "other"] 6 2 (phO f_row_sum) := by
  obtain ⟨f, fd, F, hf⟩ := hm
  refine ⟨f, fd, F, okE (k := 5) F sc_row_sum rfl (fun cdv A outer s H E hr => ?_) puE_row_sum, hf⟩
  have tk : Takes (cxOf (L2.CX P w) P w K mg base ["row", "other", "number", "more"] "row_sum" (defScope s_row_sum) f cdv A outer s H E) (fun cls d _ H => E cls d H) := takes_of rfl rfl rfl rfl
  exact (pdsx_cons (pdx_expr (pdx_call tk oE_check_rows (hr.mono (by decide)) (fun _ _ _ _ _ _ us hl => match us, hl with | [_, _], _ => rfl) (pda_cons (pd_var 0) (pda_cons (pd_var 1) pda_nil))))
    pdsx_nev)
theorem owE_row_taken (hm : ∃ f fd, Fun K "row_taken" "row_taken" s_row_taken f fd ∧ mg "row_taken" = some (.ref f))   (oE_check_integer : OwnE P w K mg base "check_integer" s_check_integer ["value"] 3 1 (phO f_check_integer)) (oE_check_row : OwnE P w K mg base "check_row" s_check_row ["value"] 4 1 (phO f_check_row)) : OwnE P w K mg base "row_taken" s_row_taken ["row", "number"] 5 2 (phO f_row_taken) := by
  obtain ⟨f, fd, F, hf⟩ := hm
  refine ⟨f, fd, F, okE (k := 4) F sc_row_taken rfl (fun cdv A outer s H E hr => ?_) puE_row_taken, hf⟩
  have tk : Takes (cxOf (L2.CX P w) P w K mg base ["row", "number", "part"] "row_taken" (defScope s_row_taken) f cdv A outer s H E) (fun cls d _ H => E cls d H) := takes_of rfl rfl rfl rfl
  exact (pdsx_cons (pdx_expr (pdx_call tk oE_check_row (hr.mono (by decide)) (fun _ _ _ _ _ _ us hl => match us, hl with | [_], _ => rfl) (pda_cons (pd_var 0) pda_nil)))
    (pdsx_cons (pdx_expr (pdx_call tk oE_check_integer (hr.mono (by decide)) (fun _ _ _ _ _ _ us hl => match us, hl with | [_], _ => rfl) (pda_cons (pd_var 1) pda_nil)))
    pdsx_nev))
theorem owE_row_divisor (hm : ∃ f fd, Fun K "row_divisor" "row_divisor" s_row_divisor f fd ∧ mg "row_divisor" = some (.ref f)) (z_gcd : mg "gcd" = some (.builtin "math.gcd"))  (oE_check_row : OwnE P w K mg base "check_row" s_check_row ["value"] 4 1 (phO f_check_row)) : OwnE P w K mg base "row_divisor" s_row_divisor ["row"] 5 1 (phO f_row_divisor) := by
  obtain ⟨f, fd, F, hf⟩ := hm
  refine ⟨f, fd, F, okE (k := 4) F sc_row_divisor rfl (fun cdv A outer s H E hr => ?_) puE_row_divisor, hf⟩
  have tk : Takes (cxOf (L2.CX P w) P w K mg base ["row", "divisor", "number"] "row_divisor" (defScope s_row_divisor) f cdv A outer s H E) (fun cls d _ H => E cls d H) := takes_of rfl rfl rfl rfl
  exact (pdsx_cons (pdx_expr (pdx_call tk oE_check_row (hr.mono (by decide)) (fun _ _ _ _ _ _ us hl => match us, hl with | [_], _ => rfl) (pda_cons (pd_var 0) pda_nil)))
    (pdsx_cons (pdx_of (pd_set (i := 1) sc_row_divisor.nd pd_int))
    (pdsx_cons (pdx_of (pd_for (passes_of rfl) rfl (pdi_seq (pd_var 0)) (pdg_name (i := 2) sc_row_divisor.nd) (pds_one (pd_set (i := 1) sc_row_divisor.nd (pd_gcd (pda_cons (pd_var 1) (pda_cons (pd_var 2) pda_nil)) z_gcd)))))
    (pdsx_one (pdx_of (pd_ret (pd_var 1)))))))
theorem owE_row_reduced (hm : ∃ f fd, Fun K "row_reduced" "row_reduced" s_row_reduced f fd ∧ mg "row_reduced" = some (.ref f))   (oE_row_divisor : OwnE P w K mg base "row_divisor" s_row_divisor ["row"] 5 1 (phO f_row_divisor)) : OwnE P w K mg base "row_reduced" s_row_reduced ["row"] 6 1 (phO f_row_reduced) := by
  obtain ⟨f, fd, F, hf⟩ := hm
  refine ⟨f, fd, F, okE (k := 5) F sc_row_reduced rfl (fun cdv A outer s H E hr => ?_) puE_row_reduced, hf⟩
  have tk : Takes (cxOf (L2.CX P w) P w K mg base ["row", "divisor", "number"] "row_reduced" (defScope s_row_reduced) f cdv A outer s H E) (fun cls d _ H => E cls d H) := takes_of rfl rfl rfl rfl
  exact (pdsx_cons (pdx_set (i := 1) sc_row_reduced.nd (pdx_call tk oE_row_divisor (hr.mono (by decide)) (fun _ _ _ _ _ _ us hl => match us, hl with | [_], _ => rfl) (pda_cons (pd_var 0) pda_nil)) (hx := Or.inr rfl))
    pdsx_nev)
theorem owE_common_under (hm : ∃ f fd, Fun K "common_under" "common_under" s_common_under f fd ∧ mg "common_under" = some (.ref f)) (z_lcm : mg "lcm" = some (.builtin "math.lcm"))  (oE_check_ratio_list : OwnE P w K mg base "check_ratio_list" s_check_ratio_list ["ratios"] 3 1 (phO f_check_ratio_list)) : OwnE P w K mg base "common_under" s_common_under ["ratios"] 4 1 phE_common_under := by
  obtain ⟨f, fd, F, hf⟩ := hm
  refine ⟨f, fd, F, okE (k := 3) F sc_common_under rfl (fun cdv A outer s H E hr => ?_) puE_common_under, hf⟩
  have tk : Takes (cxOf (L2.CX P w) P w K mg base ["ratios", "under", "ratio"] "common_under" (defScope s_common_under) f cdv A outer s H E) (fun cls d _ H => E cls d H) := takes_of rfl rfl rfl rfl
  exact (pdsx_cons (pdx_expr (pdx_call tk oE_check_ratio_list (hr.mono (by decide)) (fun _ _ _ _ _ _ us hl => match us, hl with | [_], _ => rfl) (pda_cons (pd_var 0) pda_nil)))
    (pdsx_cons (pdx_of (pd_set (i := 1) sc_common_under.nd pd_int))
    (pdsx_cons (pdx_of (pd_for (passes_of rfl) rfl (pdi_seq (pd_var 0)) (pdg_name (i := 2) sc_common_under.nd) (pds_one (pd_set (i := 1) sc_common_under.nd (pd_lcm (pda_cons (pd_var 1) (pda_cons (pd_ix (pd_var 2) pd_int) pda_nil)) z_lcm)))))
    (pdsx_one (pdx_of (pd_ret (pd_var 1)))))))
theorem owE_whole_row (hm : ∃ f fd, Fun K "whole_row" "whole_row" s_whole_row f fd ∧ mg "whole_row" = some (.ref f)) (z_tuple : mg "tuple" = none)  (oE_common_under : OwnE P w K mg base "common_under" s_common_under ["ratios"] 4 1 phE_common_under) : OwnE P w K mg base "whole_row" s_whole_row ["ratios"] 5 1 phE_whole_row := by
  obtain ⟨f, fd, F, hf⟩ := hm
  refine ⟨f, fd, F, okE (k := 4) F sc_whole_row rfl (fun cdv A outer s H E hr => ?_) puE_whole_row, hf⟩
  have tk : Takes (cxOf (L2.CX P w) P w K mg base ["ratios", "under", "ratio"] "whole_row" (defScope s_whole_row) f cdv A outer s H E) (fun cls d _ H => E cls d H) := takes_of rfl rfl rfl rfl
  exact (pdsx_cons (pdx_set (i := 1) sc_whole_row.nd (pdx_call tk oE_common_under (hr.mono (by decide)) (fun _ _ _ _ _ _ us hl => match us, hl with | [_], _ => rfl) (pda_cons (pd_var 0) pda_nil)) (hx := Or.inr rfl))
    (pdsx_one (pdx_of (pd_ret (pd_tup (pda_cons (pd_tuple  (pda_cons (pd_lcQ fin_frz [("ratio", 2)] rfl sc_whole_row.nd (pdi_seq (pd_var 0)) (blkOk_by (N := ["ratios", "under", "ratio"]) (by show blkC _ (defScope s_whole_row) _ _ = true; decide +kernel)) (ctg_name 2 (by decide) (fun _ _ _ _ _ => pg_name (i := 2) sc_whole_row.nd rfl (Or.inl rfl))) ctst_nil (fun _ _ _ _ _ => (pd_mul (pd_ix (pd_var 2) pd_int) (pd_dv (pd_var 1) (pd_ix (pd_var 2) pd_int))))) pda_nil) z_tuple) (pda_cons (pd_var 1) pda_nil)))))))
theorem owE_ratios_of (hm : ∃ f fd, Fun K "ratios_of" "ratios_of" s_ratios_of f fd ∧ mg "ratios_of" = some (.ref f))  (N_NoQuotient : ErrN K mg "NoQuotient" Cls.NoQuotient) (oE_check_integer : OwnE P w K mg base "check_integer" s_check_integer ["value"] 3 1 (phO f_check_integer)) (oE_check_row : OwnE P w K mg base "check_row" s_check_row ["value"] 4 1 (phO f_check_row)) : OwnE P w K mg base "ratios_of" s_ratios_of ["row", "under"] 5 2 (phO f_ratios_of) := by
  obtain ⟨f, fd, F, hf⟩ := hm
  refine ⟨f, fd, F, okE (k := 4) F sc_ratios_of rfl (fun cdv A outer s H E hr => ?_) puE_ratios_of, hf⟩
  have tk : Takes (cxOf (L2.CX P w) P w K mg base ["row", "under", "number"] "ratios_of" (defScope s_ratios_of) f cdv A outer s H E) (fun cls d _ H => E cls d H) := takes_of rfl rfl rfl rfl
  exact (pdsx_cons (pdx_expr (pdx_call tk oE_check_row (hr.mono (by decide)) (fun _ _ _ _ _ _ us hl => match us, hl with | [_], _ => rfl) (pda_cons (pd_var 0) pda_nil)))
    (pdsx_cons (pdx_expr (pdx_call tk oE_check_integer (hr.mono (by decide)) (fun _ _ _ _ _ _ us hl => match us, hl with | [_], _ => rfl) (pda_cons (pd_var 1) pda_nil)))
    (pdsx_cons (pdx_if (pdt_cmp (op_eqV hr.u64) lr_eq (pd_var 1) pd_int (nomark _)) (pdsx_one (pdx_raise0 tk N_NoQuotient)) pdsx_nil)
    pdsx_nev)))
theorem ow_law_pot (hm : ∃ f fd, Fun K "_law_pot" "_law_pot" s_law_pot f fd ∧ mg "_law_pot" = some (.ref f)) (z_abs : mg "abs" = none) (z_int : mg "int" = none) (z_len : mg "len" = none) (z_max : mg "max" = none)   (hp : Pure ["script", "k", "cell"] 2 WL.ph_law_pot ds_law_pot) : Own P w K mg base "_law_pot" s_law_pot ["script", "k"] 1 2 WL.ph_law_pot := by
  obtain ⟨f, fd, F, hf⟩ := hm
  exact ⟨f, fd, F, okD F sc_law_pot rfl (fun cdv A outer s H E hr => (pds_cons (pd_set (i := 2) sc_law_pot.nd (pd_ifExp (pdt_cmp (op_ltW hr.u128) lr_ordW (pd_var 1) (pd_len  (pda_cons (pd_var 0) pda_nil) z_len) (nomark _)) (pd_abs  (pda_cons (pd_ix (pd_var 0) (pd_var 1)) pda_nil) z_abs) (pd_add (pd_mul pd_int (pd_var 1)) pd_int)))
    (pds_one (pd_ret (pd_lstC (pda_cons (pd_max2 rfl (pda_cons pd_int (pda_cons (pd_sub (pd_var 2) (pd_pw pd_int pd_int)) pda_nil)) z_max) (pda_cons (pd_add (pd_md (pd_intc  (pda_cons (pd_add (pd_add (pd_mul (pd_md (pd_intc  (pda_cons (pd_var 2) pda_nil) z_int) pd_int) pd_int) (pd_mul pd_int (pd_var 1))) pd_int) pda_nil) z_int) pd_int) pd_int) pda_nil))))))) hp, hf⟩
theorem ow_law_draw (hm : ∃ f fd, Fun K "_law_draw" "_law_draw" s_law_draw f fd ∧ mg "_law_draw" = some (.ref f)) (z_divmod : mg "divmod" = none) (z_int : mg "int" = none)   (hp : Pure ["pot", "size", "digit"] 2 WL.ph_law_draw ds_law_draw) : Own P w K mg base "_law_draw" s_law_draw ["pot", "size"] 1 2 WL.ph_law_draw := by
  obtain ⟨f, fd, F, hf⟩ := hm
  exact ⟨f, fd, F, okD F sc_law_draw rfl (fun cdv A outer s H E hr => (pds_cons (pd_if (pdt_cmp (op_gtW hr.u128) lr_ordW (pd_ix (pd_var 0) pd_int) pd_int (nomark _)) (pds_cons (pd_asgG (pd_dm  (pda_cons (pd_ix (pd_var 0) pd_int) (pda_cons (pd_var 1) pda_nil)) z_divmod) (pdg_tup rfl (pdgs_cons (pdg_sub (pd_var 0) pd_int) (pdgs_cons (pdg_name (i := 2) sc_law_draw.nd) pdgs_nil))))
    (pds_one (pd_ret (pd_var 2)))) pds_nil)
    (pds_cons (pd_asgG (pd_md (pd_intc  (pda_cons (pd_add (pd_mul (pd_ix (pd_var 0) pd_int) pd_int) pd_int) pda_nil) z_int) pd_int) (pdg_sub (pd_var 0) pd_int))
    (pds_one (pd_ret (pd_md (pd_intc  (pda_cons (pd_dv (pd_md (pd_intc  (pda_cons (pd_mul (pd_ix (pd_var 0) pd_int) (pd_ix (pd_var 0) pd_int)) pda_nil) z_int) pd_int) pd_int) pda_nil) z_int) (pd_var 1))))))) hp, hf⟩
theorem ow_law_common (hm : ∃ f fd, Fun K "_law_common" "_law_common" s_law_common f fd ∧ mg "_law_common" = some (.ref f)) (z_abs : mg "abs" = none)   (hp : Pure ["one", "other"] 2 K11.ph_law_common K11.ds_law_common) : Own P w K mg base "_law_common" s_law_common ["one", "other"] 1 2 K11.ph_law_common := by
  obtain ⟨f, fd, F, hf⟩ := hm
  exact ⟨f, fd, F, okD F sc_law_common rfl (fun cdv A outer s H E hr => (pds_cons (pd_while PassesOwn.never (pdt_cmp (op_neV hr.u64) lr_ne (pd_var 1) pd_int (nomark _)) (pds_one (pd_par (i := 0) (j := 1) rfl sc_law_common.nd (pda_cons (pd_var 1) (pda_cons (pd_sub (pd_var 0) (pd_mul (pd_dv (pd_var 0) (pd_var 1)) (pd_var 1))) pda_nil)))))
    (pds_one (pd_ret (pd_abs  (pda_cons (pd_var 0) pda_nil) z_abs))))) hp, hf⟩
theorem ow_law_ratio (hm : ∃ f fd, Fun K "_law_ratio" "_law_ratio" s_law_ratio f fd ∧ mg "_law_ratio" = some (.ref f))   (o_law_common : Own P w K mg base "_law_common" s_law_common ["one", "other"] 1 2 K11.ph_law_common) (hp : Pure ["number", "under", "common"] 2 ph_law_ratio ds_law_ratio) : Own P w K mg base "_law_ratio" s_law_ratio ["number", "under"] 2 2 ph_law_ratio := by
  obtain ⟨f, fd, F, hf⟩ := hm
  exact ⟨f, fd, F, okD F sc_law_ratio rfl (fun cdv A outer s H E hr => (pds_cons (pd_set (i := 2) sc_law_ratio.nd (pd_call o_law_common (hr.mono (by decide)) (fun _ _ _ _ _ _ us hl => match us, hl with | [_, _], _ => rfl) (pda_cons (pd_var 0) (pda_cons (pd_var 1) pda_nil))))
    (pds_cons (pd_if (pdt_cmp (op_ltW hr.u128) lr_ordW (pd_var 1) pd_int (nomark _)) (pds_one (pd_set (i := 2) sc_law_ratio.nd (pd_neg (pd_var 2)))) pds_nil)
    (pds_one (pd_ret (pd_tup (pda_cons (pd_dv (pd_var 0) (pd_var 2)) (pda_cons (pd_dv (pd_var 1) (pd_var 2)) pda_nil)))))))) hp, hf⟩
end
end K10
namespace K10
open PySem PySem.Spec PyProof.Rows L2 Evl DL LamX NdefX
section
variable [Cls] [Tabs] {P : Program} {w : World} {K : PySem.W.Frag} {mg : Str → Option Value} {base : Heap}
theorem ok_law_integers_right_0 {f c0 : Addr} {A : Around} {outer : List Env} {s : Shared} {H : Hp} {E : XK} (oE_made : ∀ base, OwnE P w K mg base "made" s_made ["number", "under"] 4 2 (phO f_made)) : LamTOk (cxOf CX0 P w K mg base ["odd", "calls"] "_law_integers_right" (defScope s_law_integers_right) f (.ref c0) A outer s H E).nox 6 [0] (S_law_integers_right_0 (cellsFrom (s.heap.objs.size + 1) (defScope s_law_integers_right).names [])) := by
  refine ⟨fun c => nscope_by ns_law_integers_right_0, fun c pm ctv => rfl, fun ok c => Caps.made ok (ndef_free nd_law_integers_right_0) (ndef_fr nd_law_integers_right_0) rfl, (by show ∀ k ∈ ([0] : List Nat), k < ([0] : List Nat).length; decide), fun base c f2 A2 outer2 s2 H2 E2 hr => ?_⟩
  have tk : Takes (ncx (L2.CX P w) P w K mg base ["odd"] (li l_law_integers_right_0 q_law_integers_right (cellsFrom (s.heap.objs.size + 1) (defScope s_law_integers_right).names []) c).nf f2 A2 outer2 s2 H2 E2) (fun cls d _ H => E2 cls d H) := takes_of rfl rfl rfl rfl
  exact (pdx_call tk (oE_made base) (hr.mono (by decide)) (fun _ _ _ _ _ _ us hl => match us, hl with | [_, _], _ => rfl) (pda_cons (pd_var 0) (pda_cons pd_non pda_nil)))
theorem ok_law_integers_right_1 {f c0 : Addr} {A : Around} {outer : List Env} {s : Shared} {H : Hp} {E : XK} (oE_made : ∀ base, OwnE P w K mg base "made" s_made ["number", "under"] 4 2 (phO f_made)) : LamTOk (cxOf CX0 P w K mg base ["odd", "calls"] "_law_integers_right" (defScope s_law_integers_right) f (.ref c0) A outer s H E).nox 6 [0] (S_law_integers_right_1 (cellsFrom (s.heap.objs.size + 1) (defScope s_law_integers_right).names [])) := by
  refine ⟨fun c => nscope_by ns_law_integers_right_1, fun c pm ctv => rfl, fun ok c => Caps.made ok (ndef_free nd_law_integers_right_1) (ndef_fr nd_law_integers_right_1) rfl, (by show ∀ k ∈ ([0] : List Nat), k < ([0] : List Nat).length; decide), fun base c f2 A2 outer2 s2 H2 E2 hr => ?_⟩
  have tk : Takes (ncx (L2.CX P w) P w K mg base ["odd"] (li l_law_integers_right_1 q_law_integers_right (cellsFrom (s.heap.objs.size + 1) (defScope s_law_integers_right).names []) c).nf f2 A2 outer2 s2 H2 E2) (fun cls d _ H => E2 cls d H) := takes_of rfl rfl rfl rfl
  exact (pdx_call tk (oE_made base) (hr.mono (by decide)) (fun _ _ _ _ _ _ us hl => match us, hl with | [_, _], _ => rfl) (pda_cons (pd_var 0) (pda_cons pd_int pda_nil)))
theorem ok_law_integers_right_2 {f c0 : Addr} {A : Around} {outer : List Env} {s : Shared} {H : Hp} {E : XK} (oE_made : ∀ base, OwnE P w K mg base "made" s_made ["number", "under"] 4 2 (phO f_made)) : LamTOk (cxOf CX0 P w K mg base ["odd", "calls"] "_law_integers_right" (defScope s_law_integers_right) f (.ref c0) A outer s H E).nox 6 [0] (S_law_integers_right_2 (cellsFrom (s.heap.objs.size + 1) (defScope s_law_integers_right).names [])) := by
  refine ⟨fun c => nscope_by ns_law_integers_right_2, fun c pm ctv => rfl, fun ok c => Caps.made ok (ndef_free nd_law_integers_right_2) (ndef_fr nd_law_integers_right_2) rfl, (by show ∀ k ∈ ([0] : List Nat), k < ([0] : List Nat).length; decide), fun base c f2 A2 outer2 s2 H2 E2 hr => ?_⟩
  have tk : Takes (ncx (L2.CX P w) P w K mg base ["odd"] (li l_law_integers_right_2 q_law_integers_right (cellsFrom (s.heap.objs.size + 1) (defScope s_law_integers_right).names []) c).nf f2 A2 outer2 s2 H2 E2) (fun cls d _ H => E2 cls d H) := takes_of rfl rfl rfl rfl
  exact (pdx_callK0 (ks := ["under", "number"]) [1, 0] tk (oE_made base) (hr.mono (by decide)) (by decide) (fun _ _ _ _ _ _ us ws h1 h2 => match us, ws, h1, h2 with | [], [_, _], _, _ => rfl) (pdk_cons (pd_var 0) (pdk_cons pd_int pdk_nil)))
theorem ok_law_integers_right_3 {f c0 : Addr} {A : Around} {outer : List Env} {s : Shared} {H : Hp} {E : XK} (oE_row_taken : ∀ base, OwnE P w K mg base "row_taken" s_row_taken ["row", "number"] 5 2 (phO f_row_taken)) : LamTOk (cxOf CX0 P w K mg base ["odd", "calls"] "_law_integers_right" (defScope s_law_integers_right) f (.ref c0) A outer s H E).nox 6 [0] (S_law_integers_right_3 (cellsFrom (s.heap.objs.size + 1) (defScope s_law_integers_right).names [])) := by
  refine ⟨fun c => nscope_by ns_law_integers_right_3, fun c pm ctv => rfl, fun ok c => Caps.made ok (ndef_free nd_law_integers_right_3) (ndef_fr nd_law_integers_right_3) rfl, (by show ∀ k ∈ ([0] : List Nat), k < ([0] : List Nat).length; decide), fun base c f2 A2 outer2 s2 H2 E2 hr => ?_⟩
  have tk : Takes (ncx (L2.CX P w) P w K mg base ["odd"] (li l_law_integers_right_3 q_law_integers_right (cellsFrom (s.heap.objs.size + 1) (defScope s_law_integers_right).names []) c).nf f2 A2 outer2 s2 H2 E2) (fun cls d _ H => E2 cls d H) := takes_of rfl rfl rfl rfl
  exact (pdx_callK0 (ks := ["number", "row"]) [1, 0] tk (oE_row_taken base) (hr.mono (by decide)) (by decide) (fun _ _ _ _ _ _ us ws h1 h2 => match us, ws, h1, h2 with | [], [_, _], _, _ => rfl) (pdk_cons (pd_var 0) (pdk_cons (pd_tup (pda_cons pd_int (pda_cons pd_int pda_nil))) pdk_nil)))
theorem ok_law_integers_right_4 {f c0 : Addr} {A : Around} {outer : List Env} {s : Shared} {H : Hp} {E : XK} (oE_ratios_of : ∀ base, OwnE P w K mg base "ratios_of" s_ratios_of ["row", "under"] 5 2 (phO f_ratios_of)) : LamTOk (cxOf CX0 P w K mg base ["odd", "calls"] "_law_integers_right" (defScope s_law_integers_right) f (.ref c0) A outer s H E).nox 6 [0] (S_law_integers_right_4 (cellsFrom (s.heap.objs.size + 1) (defScope s_law_integers_right).names [])) := by
  refine ⟨fun c => nscope_by ns_law_integers_right_4, fun c pm ctv => rfl, fun ok c => Caps.made ok (ndef_free nd_law_integers_right_4) (ndef_fr nd_law_integers_right_4) rfl, (by show ∀ k ∈ ([0] : List Nat), k < ([0] : List Nat).length; decide), fun base c f2 A2 outer2 s2 H2 E2 hr => ?_⟩
  have tk : Takes (ncx (L2.CX P w) P w K mg base ["odd"] (li l_law_integers_right_4 q_law_integers_right (cellsFrom (s.heap.objs.size + 1) (defScope s_law_integers_right).names []) c).nf f2 A2 outer2 s2 H2 E2) (fun cls d _ H => E2 cls d H) := takes_of rfl rfl rfl rfl
  exact (pdx_call tk (oE_ratios_of base) (hr.mono (by decide)) (fun _ _ _ _ _ _ us hl => match us, hl with | [_, _], _ => rfl) (pda_cons (pd_tup (pda_cons pd_int (pda_cons pd_int pda_nil))) (pda_cons (pd_var 0) pda_nil)))
theorem okB_law_integers_right_b0 {f c0 : Addr} {A : Around} {outer : List Env} {s : Shared} {H : Hp} {E : XK} (oE_made : ∀ base, OwnE P w K mg base "made" s_made ["number", "under"] 4 2 (phO f_made)) (oE_row_taken : ∀ base, OwnE P w K mg base "row_taken" s_row_taken ["row", "number"] 5 2 (phO f_row_taken)) (oE_ratios_of : ∀ base, OwnE P w K mg base "ratios_of" s_ratios_of ["row", "under"] 5 2 (phO f_ratios_of)) : ∀ S ∈ Ss_law_integers_right_b0 (cellsFrom (s.heap.objs.size + 1) (defScope s_law_integers_right).names []), LamTOk (cxOf CX0 P w K mg base ["odd", "calls"] "_law_integers_right" (defScope s_law_integers_right) f (.ref c0) A outer s H E).nox 6 [0] S := List.forall_mem_cons.mpr ⟨ok_law_integers_right_0 oE_made, List.forall_mem_cons.mpr ⟨ok_law_integers_right_1 oE_made, List.forall_mem_cons.mpr ⟨ok_law_integers_right_2 oE_made, List.forall_mem_cons.mpr ⟨ok_law_integers_right_3 oE_row_taken, List.forall_mem_cons.mpr ⟨ok_law_integers_right_4 oE_ratios_of, fun _ z => nomatch z⟩⟩⟩⟩⟩
theorem ok_law_integers_right_5 {f c0 : Addr} {A : Around} {outer : List Env} {s : Shared} {H : Hp} {E : XK} (oE_made : ∀ base, OwnE P w K mg base "made" s_made ["number", "under"] 4 2 (phO f_made)) : LamTOk (cxOf CX0 P w K mg base ["odd", "calls"] "_law_integers_right" (defScope s_law_integers_right) f (.ref c0) A outer s H E).nox 6 [] (S_law_integers_right_5 (cellsFrom (s.heap.objs.size + 1) (defScope s_law_integers_right).names [])) := by
  refine ⟨fun c => nscope_by ns_law_integers_right_5, fun c pm ctv => rfl, fun ok c => Caps.made ok (ndef_free nd_law_integers_right_5) (ndef_fr nd_law_integers_right_5) rfl, (by show ∀ k ∈ ([] : List Nat), k < ([] : List Nat).length; decide), fun base c f2 A2 outer2 s2 H2 E2 hr => ?_⟩
  have tk : Takes (ncx (L2.CX P w) P w K mg base [] (li l_law_integers_right_5 q_law_integers_right (cellsFrom (s.heap.objs.size + 1) (defScope s_law_integers_right).names []) c).nf f2 A2 outer2 s2 H2 E2) (fun cls d _ H => E2 cls d H) := takes_of rfl rfl rfl rfl
  exact (pdx_call tk (oE_made base) (hr.mono (by decide)) (fun _ _ _ _ _ _ us hl => match us, hl with | [_, _], _ => rfl) (pda_cons pd_int (pda_cons pd_int pda_nil)))
theorem ok_law_integers_right_6 {f c0 : Addr} {A : Around} {outer : List Env} {s : Shared} {H : Hp} {E : XK} (oE_ratios_of : ∀ base, OwnE P w K mg base "ratios_of" s_ratios_of ["row", "under"] 5 2 (phO f_ratios_of)) : LamTOk (cxOf CX0 P w K mg base ["odd", "calls"] "_law_integers_right" (defScope s_law_integers_right) f (.ref c0) A outer s H E).nox 6 [] (S_law_integers_right_6 (cellsFrom (s.heap.objs.size + 1) (defScope s_law_integers_right).names [])) := by
  refine ⟨fun c => nscope_by ns_law_integers_right_6, fun c pm ctv => rfl, fun ok c => Caps.made ok (ndef_free nd_law_integers_right_6) (ndef_fr nd_law_integers_right_6) rfl, (by show ∀ k ∈ ([] : List Nat), k < ([] : List Nat).length; decide), fun base c f2 A2 outer2 s2 H2 E2 hr => ?_⟩
  have tk : Takes (ncx (L2.CX P w) P w K mg base [] (li l_law_integers_right_6 q_law_integers_right (cellsFrom (s.heap.objs.size + 1) (defScope s_law_integers_right).names []) c).nf f2 A2 outer2 s2 H2 E2) (fun cls d _ H => E2 cls d H) := takes_of rfl rfl rfl rfl
  exact (pdx_callK0 (ks := ["under", "row"]) [1, 0] tk (oE_ratios_of base) (hr.mono (by decide)) (by decide) (fun _ _ _ _ _ _ us ws h1 h2 => match us, ws, h1, h2 with | [], [_, _], _, _ => rfl) (pdk_cons pd_int (pdk_cons (pd_tup (pda_cons pd_int (pda_cons pd_int pda_nil))) pdk_nil)))
theorem ok_law_integers_right_7 {f c0 : Addr} {A : Around} {outer : List Env} {s : Shared} {H : Hp} {E : XK} (oE_over : ∀ base, OwnE P w K mg base "over" s_over ["near", "far"] 5 2 (phO f_over)) : LamTOk (cxOf CX0 P w K mg base ["odd", "calls"] "_law_integers_right" (defScope s_law_integers_right) f (.ref c0) A outer s H E).nox 6 [] (S_law_integers_right_7 (cellsFrom (s.heap.objs.size + 1) (defScope s_law_integers_right).names [])) := by
  refine ⟨fun c => nscope_by ns_law_integers_right_7, fun c pm ctv => rfl, fun ok c => Caps.made ok (ndef_free nd_law_integers_right_7) (ndef_fr nd_law_integers_right_7) rfl, (by show ∀ k ∈ ([] : List Nat), k < ([] : List Nat).length; decide), fun base c f2 A2 outer2 s2 H2 E2 hr => ?_⟩
  have tk : Takes (ncx (L2.CX P w) P w K mg base [] (li l_law_integers_right_7 q_law_integers_right (cellsFrom (s.heap.objs.size + 1) (defScope s_law_integers_right).names []) c).nf f2 A2 outer2 s2 H2 E2) (fun cls d _ H => E2 cls d H) := takes_of rfl rfl rfl rfl
  exact (pdx_call tk (oE_over base) (hr.mono (by decide)) (fun _ _ _ _ _ _ us hl => match us, hl with | [_, _], _ => rfl) (pda_cons (pd_tup (pda_cons pd_int (pda_cons pd_int pda_nil))) (pda_cons (pd_tup (pda_cons pd_int (pda_cons pd_int pda_nil))) pda_nil)))
theorem okB_law_integers_right_b1 {f c0 : Addr} {A : Around} {outer : List Env} {s : Shared} {H : Hp} {E : XK} (oE_made : ∀ base, OwnE P w K mg base "made" s_made ["number", "under"] 4 2 (phO f_made)) (oE_over : ∀ base, OwnE P w K mg base "over" s_over ["near", "far"] 5 2 (phO f_over)) (oE_ratios_of : ∀ base, OwnE P w K mg base "ratios_of" s_ratios_of ["row", "under"] 5 2 (phO f_ratios_of)) : ∀ S ∈ Ss_law_integers_right_b1 (cellsFrom (s.heap.objs.size + 1) (defScope s_law_integers_right).names []), LamTOk (cxOf CX0 P w K mg base ["odd", "calls"] "_law_integers_right" (defScope s_law_integers_right) f (.ref c0) A outer s H E).nox 6 [] S := List.forall_mem_cons.mpr ⟨ok_law_integers_right_5 oE_made, List.forall_mem_cons.mpr ⟨ok_law_integers_right_6 oE_ratios_of, List.forall_mem_cons.mpr ⟨ok_law_integers_right_7 oE_over, fun _ z => nomatch z⟩⟩⟩
theorem ow_law_integers_right {c0 : Addr} (hm : ∃ f fd, Fun K "_law_integers_right" "_law_integers_right" s_law_integers_right f fd ∧ mg "_law_integers_right" = some (.ref f))
    (hcode : ∀ f fd, Fun K "_law_integers_right" "_law_integers_right" s_law_integers_right f fd → mg "_law_integers_right" = some (.ref f) → fd.code = .ref c0) (TB : LamX.TabB base mg c0 (Tabs.T 0))
    (z_repr : mg "repr" = none) (oT : OwnT P w K mg "_law_all" s_all ["calls", "due"] 7 10 2 (allF told)) (oE_made : ∀ base, OwnE P w K mg base "made" s_made ["number", "under"] 4 2 (phO f_made)) (oE_over : ∀ base, OwnE P w K mg base "over" s_over ["near", "far"] 5 2 (phO f_over)) (oE_row_taken : ∀ base, OwnE P w K mg base "row_taken" s_row_taken ["row", "number"] 5 2 (phO f_row_taken)) (oE_ratios_of : ∀ base, OwnE P w K mg base "ratios_of" s_ratios_of ["row", "under"] 5 2 (phO f_ratios_of))  (hp : ∀ cl, Pure ["odd", "calls"] 0 ph_law_integers_right (ds_law_integers_right cl)) : Own P w K mg base "_law_integers_right" s_law_integers_right [] 11 0 ph_law_integers_right := by
  obtain ⟨f, fd, F, hf⟩ := hm
  refine ⟨f, fd, F, okDC F sc_law_integers_right rfl (fun cdv hc A outer s H E hr => ?_) hp, hf⟩
  have e := hcode f fd F hf
  rw [hc] at e
  subst e
  exact (pds_cons (pd_for PassesOwn.never rfl (pdi_seq (pd_lst (pda_cons pd_non (pda_cons pd_bl (pda_cons pd_bl (pda_cons pd_str (pda_cons (pd_tup (pda_cons pd_int (pda_cons pd_int pda_nil))) (pda_cons (pd_lst (pda_cons pd_int pda_nil)) (pda_cons pd_dctD (pda_cons (pd_tup pda_nil) pda_nil)))))))))) (pdg_name (i := 0) sc_law_integers_right.nd (hx := Or.inr rfl)) (pds_cut (pds_ap (i := 1) sc_law_integers_right.nd (pda_cons (pd_lam TB rfl (fun c => rfl) rfl rfl (ndef_free nd_law_integers_right_0) : PD _ (.Lambda (lP l_law_integers_right_0) (lB l_law_integers_right_0) (lS l_law_integers_right_0) (lPos l_law_integers_right_0)) (dLam 0 (Tabs.T 0) q_law_integers_right (li l_law_integers_right_0 q_law_integers_right (cellsFrom (s.heap.objs.size + 1) (defScope s_law_integers_right).names [])))) pda_nil)
      (pap_one (pd_lam TB rfl (fun c => rfl) rfl rfl (ndef_free nd_law_integers_right_1) : PD _ (.Lambda (lP l_law_integers_right_1) (lB l_law_integers_right_1) (lS l_law_integers_right_1) (lPos l_law_integers_right_1)) (dLam 0 (Tabs.T 0) q_law_integers_right (li l_law_integers_right_1 q_law_integers_right (cellsFrom (s.heap.objs.size + 1) (defScope s_law_integers_right).names []))))
      (pap_one (pd_lam TB rfl (fun c => rfl) rfl rfl (ndef_free nd_law_integers_right_2) : PD _ (.Lambda (lP l_law_integers_right_2) (lB l_law_integers_right_2) (lS l_law_integers_right_2) (lPos l_law_integers_right_2)) (dLam 0 (Tabs.T 0) q_law_integers_right (li l_law_integers_right_2 q_law_integers_right (cellsFrom (s.heap.objs.size + 1) (defScope s_law_integers_right).names []))))
      (pap_one (pd_lam TB rfl (fun c => rfl) rfl rfl (ndef_free nd_law_integers_right_3) : PD _ (.Lambda (lP l_law_integers_right_3) (lB l_law_integers_right_3) (lS l_law_integers_right_3) (lPos l_law_integers_right_3)) (dLam 0 (Tabs.T 0) q_law_integers_right (li l_law_integers_right_3 q_law_integers_right (cellsFrom (s.heap.objs.size + 1) (defScope s_law_integers_right).names []))))
      (pap_one (pd_lam TB rfl (fun c => rfl) rfl rfl (ndef_free nd_law_integers_right_4) : PD _ (.Lambda (lP l_law_integers_right_4) (lB l_law_integers_right_4) (lS l_law_integers_right_4) (lPos l_law_integers_right_4)) (dLam 0 (Tabs.T 0) q_law_integers_right (li l_law_integers_right_4 q_law_integers_right (cellsFrom (s.heap.objs.size + 1) (defScope s_law_integers_right).names []))))
      (pap_end (pds_one (pd_if (pdt_not (pdt_tru (pd_callT oT (hr.mono (by decide)) (fun _ => rfl) (okB_law_integers_right_b0 oE_made oE_row_taken oE_ratios_of) (fun _ _ _ _ _ _ us hl => match us, hl with | [_, _], _ => rfl) (pda_cons (pd_var 1) (pda_cons (pd_lst (pda_cons pd_str (pda_cons (pd_repr hr (pda_cons (pd_var 0) pda_nil) z_repr) (pda_cons pd_bl pda_nil)))) pda_nil))))) (pds_one (pd_ret pd_bl)) pds_nil))))))))))
    (pds_ap (i := 1) sc_law_integers_right.nd (pda_cons (pd_lam TB rfl (fun c => rfl) rfl rfl (ndef_free nd_law_integers_right_5) : PD _ (.Lambda (lP l_law_integers_right_5) (lB l_law_integers_right_5) (lS l_law_integers_right_5) (lPos l_law_integers_right_5)) (dLam 0 (Tabs.T 0) q_law_integers_right (li l_law_integers_right_5 q_law_integers_right (cellsFrom (s.heap.objs.size + 1) (defScope s_law_integers_right).names [])))) pda_nil)
      (pap_one (pd_lam TB rfl (fun c => rfl) rfl rfl (ndef_free nd_law_integers_right_6) : PD _ (.Lambda (lP l_law_integers_right_6) (lB l_law_integers_right_6) (lS l_law_integers_right_6) (lPos l_law_integers_right_6)) (dLam 0 (Tabs.T 0) q_law_integers_right (li l_law_integers_right_6 q_law_integers_right (cellsFrom (s.heap.objs.size + 1) (defScope s_law_integers_right).names []))))
      (pap_one (pd_lam TB rfl (fun c => rfl) rfl rfl (ndef_free nd_law_integers_right_7) : PD _ (.Lambda (lP l_law_integers_right_7) (lB l_law_integers_right_7) (lS l_law_integers_right_7) (lPos l_law_integers_right_7)) (dLam 0 (Tabs.T 0) q_law_integers_right (li l_law_integers_right_7 q_law_integers_right (cellsFrom (s.heap.objs.size + 1) (defScope s_law_integers_right).names []))))
      (pap_end (pds_one (pd_ret (pd_callT oT (hr.mono (by decide)) (fun _ => rfl) (okB_law_integers_right_b1 oE_made oE_over oE_ratios_of) (fun _ _ _ _ _ _ us hl => match us, hl with | [_, _], _ => rfl) (pda_cons (pd_var 1) (pda_cons (pd_lst (pda_cons pd_str (pda_cons pd_bl pda_nil))) pda_nil))))))))))
theorem ok_law_ratios_right_0 {f c0 : Addr} {A : Around} {outer : List Env} {s : Shared} {H : Hp} {E : XK} (oE_plus : ∀ base, OwnE P w K mg base "plus" s_plus ["near", "far"] 5 2 (phO f_plus)) : LamTOk (cxOf CX0 P w K mg base ["good", "odds", "odd", "calls"] "_law_ratios_right" (defScope s_law_ratios_right) f (.ref c0) A outer s H E).nox 6 [0, 2] (S_law_ratios_right_0 (cellsFrom (s.heap.objs.size + 1) (defScope s_law_ratios_right).names [])) := by
  refine ⟨fun c => nscope_by ns_law_ratios_right_0, fun c pm ctv => rfl, fun ok c => Caps.made ok (ndef_free nd_law_ratios_right_0) (ndef_fr nd_law_ratios_right_0) rfl, (by show ∀ k ∈ ([1] : List Nat), k < ([0, 2] : List Nat).length; decide), fun base c f2 A2 outer2 s2 H2 E2 hr => ?_⟩
  have tk : Takes (ncx (L2.CX P w) P w K mg base ["odd"] (li l_law_ratios_right_0 q_law_ratios_right (cellsFrom (s.heap.objs.size + 1) (defScope s_law_ratios_right).names []) c).nf f2 A2 outer2 s2 H2 E2) (fun cls d _ H => E2 cls d H) := takes_of rfl rfl rfl rfl
  exact (pdx_call tk (oE_plus base) (hr.mono (by decide)) (fun _ _ _ _ _ _ us hl => match us, hl with | [_, _], _ => rfl) (pda_cons (pd_var 0) (pda_cons pd_non pda_nil)))
theorem ok_law_ratios_right_1 {f c0 : Addr} {A : Around} {outer : List Env} {s : Shared} {H : Hp} {E : XK} (oE_minus : ∀ base, OwnE P w K mg base "minus" s_minus ["near", "far"] 5 2 (phO f_minus)) : LamTOk (cxOf CX0 P w K mg base ["good", "odds", "odd", "calls"] "_law_ratios_right" (defScope s_law_ratios_right) f (.ref c0) A outer s H E).nox 6 [0, 2] (S_law_ratios_right_1 (cellsFrom (s.heap.objs.size + 1) (defScope s_law_ratios_right).names [])) := by
  refine ⟨fun c => nscope_by ns_law_ratios_right_1, fun c pm ctv => rfl, fun ok c => Caps.made ok (ndef_free nd_law_ratios_right_1) (ndef_fr nd_law_ratios_right_1) rfl, (by show ∀ k ∈ ([1] : List Nat), k < ([0, 2] : List Nat).length; decide), fun base c f2 A2 outer2 s2 H2 E2 hr => ?_⟩
  have tk : Takes (ncx (L2.CX P w) P w K mg base ["odd"] (li l_law_ratios_right_1 q_law_ratios_right (cellsFrom (s.heap.objs.size + 1) (defScope s_law_ratios_right).names []) c).nf f2 A2 outer2 s2 H2 E2) (fun cls d _ H => E2 cls d H) := takes_of rfl rfl rfl rfl
  exact (pdx_callK0 (ks := ["near", "far"]) [0, 1] tk (oE_minus base) (hr.mono (by decide)) (by decide) (fun _ _ _ _ _ _ us ws h1 h2 => match us, ws, h1, h2 with | [], [_, _], _, _ => rfl) (pdk_cons (pd_var 0) (pdk_cons pd_non pdk_nil)))
theorem ok_law_ratios_right_2 {f c0 : Addr} {A : Around} {outer : List Env} {s : Shared} {H : Hp} {E : XK} (oE_times : ∀ base, OwnE P w K mg base "times" s_times ["near", "far"] 5 2 (phO f_times)) : LamTOk (cxOf CX0 P w K mg base ["good", "odds", "odd", "calls"] "_law_ratios_right" (defScope s_law_ratios_right) f (.ref c0) A outer s H E).nox 6 [0, 2] (S_law_ratios_right_2 (cellsFrom (s.heap.objs.size + 1) (defScope s_law_ratios_right).names [])) := by
  refine ⟨fun c => nscope_by ns_law_ratios_right_2, fun c pm ctv => rfl, fun ok c => Caps.made ok (ndef_free nd_law_ratios_right_2) (ndef_fr nd_law_ratios_right_2) rfl, (by show ∀ k ∈ ([1] : List Nat), k < ([0, 2] : List Nat).length; decide), fun base c f2 A2 outer2 s2 H2 E2 hr => ?_⟩
  have tk : Takes (ncx (L2.CX P w) P w K mg base ["odd"] (li l_law_ratios_right_2 q_law_ratios_right (cellsFrom (s.heap.objs.size + 1) (defScope s_law_ratios_right).names []) c).nf f2 A2 outer2 s2 H2 E2) (fun cls d _ H => E2 cls d H) := takes_of rfl rfl rfl rfl
  exact (pdx_call tk (oE_times base) (hr.mono (by decide)) (fun _ _ _ _ _ _ us hl => match us, hl with | [_, _], _ => rfl) (pda_cons (pd_var 0) (pda_cons pd_non pda_nil)))
theorem ok_law_ratios_right_3 {f c0 : Addr} {A : Around} {outer : List Env} {s : Shared} {H : Hp} {E : XK} (oE_over : ∀ base, OwnE P w K mg base "over" s_over ["near", "far"] 5 2 (phO f_over)) : LamTOk (cxOf CX0 P w K mg base ["good", "odds", "odd", "calls"] "_law_ratios_right" (defScope s_law_ratios_right) f (.ref c0) A outer s H E).nox 6 [0, 2] (S_law_ratios_right_3 (cellsFrom (s.heap.objs.size + 1) (defScope s_law_ratios_right).names [])) := by
  refine ⟨fun c => nscope_by ns_law_ratios_right_3, fun c pm ctv => rfl, fun ok c => Caps.made ok (ndef_free nd_law_ratios_right_3) (ndef_fr nd_law_ratios_right_3) rfl, (by show ∀ k ∈ ([1] : List Nat), k < ([0, 2] : List Nat).length; decide), fun base c f2 A2 outer2 s2 H2 E2 hr => ?_⟩
  have tk : Takes (ncx (L2.CX P w) P w K mg base ["odd"] (li l_law_ratios_right_3 q_law_ratios_right (cellsFrom (s.heap.objs.size + 1) (defScope s_law_ratios_right).names []) c).nf f2 A2 outer2 s2 H2 E2) (fun cls d _ H => E2 cls d H) := takes_of rfl rfl rfl rfl
  exact (pdx_call tk (oE_over base) (hr.mono (by decide)) (fun _ _ _ _ _ _ us hl => match us, hl with | [_, _], _ => rfl) (pda_cons (pd_var 0) (pda_cons pd_non pda_nil)))
theorem ok_law_ratios_right_4 {f c0 : Addr} {A : Around} {outer : List Env} {s : Shared} {H : Hp} {E : XK} (oE_over : ∀ base, OwnE P w K mg base "over" s_over ["near", "far"] 5 2 (phO f_over)) : LamTOk (cxOf CX0 P w K mg base ["good", "odds", "odd", "calls"] "_law_ratios_right" (defScope s_law_ratios_right) f (.ref c0) A outer s H E).nox 6 [0, 2] (S_law_ratios_right_4 (cellsFrom (s.heap.objs.size + 1) (defScope s_law_ratios_right).names [])) := by
  refine ⟨fun c => nscope_by ns_law_ratios_right_4, fun c pm ctv => rfl, fun ok c => Caps.made ok (ndef_free nd_law_ratios_right_4) (ndef_fr nd_law_ratios_right_4) rfl, (by show ∀ k ∈ ([1] : List Nat), k < ([0, 2] : List Nat).length; decide), fun base c f2 A2 outer2 s2 H2 E2 hr => ?_⟩
  have tk : Takes (ncx (L2.CX P w) P w K mg base ["odd"] (li l_law_ratios_right_4 q_law_ratios_right (cellsFrom (s.heap.objs.size + 1) (defScope s_law_ratios_right).names []) c).nf f2 A2 outer2 s2 H2 E2) (fun cls d _ H => E2 cls d H) := takes_of rfl rfl rfl rfl
  exact (pdx_call tk (oE_over base) (hr.mono (by decide)) (fun _ _ _ _ _ _ us hl => match us, hl with | [_, _], _ => rfl) (pda_cons (pd_var 0) (pda_cons (pd_tup (pda_cons pd_int (pda_cons pd_int pda_nil))) pda_nil)))
theorem ok_law_ratios_right_5 {f c0 : Addr} {A : Around} {outer : List Env} {s : Shared} {H : Hp} {E : XK} (oE_compared : ∀ base, OwnE P w K mg base "compared" s_compared ["near", "far"] 5 2 (phO f_compared)) : LamTOk (cxOf CX0 P w K mg base ["good", "odds", "odd", "calls"] "_law_ratios_right" (defScope s_law_ratios_right) f (.ref c0) A outer s H E).nox 6 [0, 2] (S_law_ratios_right_5 (cellsFrom (s.heap.objs.size + 1) (defScope s_law_ratios_right).names [])) := by
  refine ⟨fun c => nscope_by ns_law_ratios_right_5, fun c pm ctv => rfl, fun ok c => Caps.made ok (ndef_free nd_law_ratios_right_5) (ndef_fr nd_law_ratios_right_5) rfl, (by show ∀ k ∈ ([1] : List Nat), k < ([0, 2] : List Nat).length; decide), fun base c f2 A2 outer2 s2 H2 E2 hr => ?_⟩
  have tk : Takes (ncx (L2.CX P w) P w K mg base ["odd"] (li l_law_ratios_right_5 q_law_ratios_right (cellsFrom (s.heap.objs.size + 1) (defScope s_law_ratios_right).names []) c).nf f2 A2 outer2 s2 H2 E2) (fun cls d _ H => E2 cls d H) := takes_of rfl rfl rfl rfl
  exact (pdx_call tk (oE_compared base) (hr.mono (by decide)) (fun _ _ _ _ _ _ us hl => match us, hl with | [_, _], _ => rfl) (pda_cons (pd_var 0) (pda_cons pd_non pda_nil)))
theorem ok_law_ratios_right_6 {f c0 : Addr} {A : Around} {outer : List Env} {s : Shared} {H : Hp} {E : XK} (oE_plus : ∀ base, OwnE P w K mg base "plus" s_plus ["near", "far"] 5 2 (phO f_plus)) : LamTOk (cxOf CX0 P w K mg base ["good", "odds", "odd", "calls"] "_law_ratios_right" (defScope s_law_ratios_right) f (.ref c0) A outer s H E).nox 6 [0, 2] (S_law_ratios_right_6 (cellsFrom (s.heap.objs.size + 1) (defScope s_law_ratios_right).names [])) := by
  refine ⟨fun c => nscope_by ns_law_ratios_right_6, fun c pm ctv => rfl, fun ok c => Caps.made ok (ndef_free nd_law_ratios_right_6) (ndef_fr nd_law_ratios_right_6) rfl, (by show ∀ k ∈ ([0, 1] : List Nat), k < ([0, 2] : List Nat).length; decide), fun base c f2 A2 outer2 s2 H2 E2 hr => ?_⟩
  have tk : Takes (ncx (L2.CX P w) P w K mg base ["good", "odd"] (li l_law_ratios_right_6 q_law_ratios_right (cellsFrom (s.heap.objs.size + 1) (defScope s_law_ratios_right).names []) c).nf f2 A2 outer2 s2 H2 E2) (fun cls d _ H => E2 cls d H) := takes_of rfl rfl rfl rfl
  exact (pdx_call tk (oE_plus base) (hr.mono (by decide)) (fun _ _ _ _ _ _ us hl => match us, hl with | [_, _], _ => rfl) (pda_cons (pd_var 0) (pda_cons (pd_var 1) pda_nil)))
theorem ok_law_ratios_right_7 {f c0 : Addr} {A : Around} {outer : List Env} {s : Shared} {H : Hp} {E : XK} (oE_minus : ∀ base, OwnE P w K mg base "minus" s_minus ["near", "far"] 5 2 (phO f_minus)) : LamTOk (cxOf CX0 P w K mg base ["good", "odds", "odd", "calls"] "_law_ratios_right" (defScope s_law_ratios_right) f (.ref c0) A outer s H E).nox 6 [0, 2] (S_law_ratios_right_7 (cellsFrom (s.heap.objs.size + 1) (defScope s_law_ratios_right).names [])) := by
  refine ⟨fun c => nscope_by ns_law_ratios_right_7, fun c pm ctv => rfl, fun ok c => Caps.made ok (ndef_free nd_law_ratios_right_7) (ndef_fr nd_law_ratios_right_7) rfl, (by show ∀ k ∈ ([0, 1] : List Nat), k < ([0, 2] : List Nat).length; decide), fun base c f2 A2 outer2 s2 H2 E2 hr => ?_⟩
  have tk : Takes (ncx (L2.CX P w) P w K mg base ["good", "odd"] (li l_law_ratios_right_7 q_law_ratios_right (cellsFrom (s.heap.objs.size + 1) (defScope s_law_ratios_right).names []) c).nf f2 A2 outer2 s2 H2 E2) (fun cls d _ H => E2 cls d H) := takes_of rfl rfl rfl rfl
  exact (pdx_callK0 (ks := ["far", "near"]) [1, 0] tk (oE_minus base) (hr.mono (by decide)) (by decide) (fun _ _ _ _ _ _ us ws h1 h2 => match us, ws, h1, h2 with | [], [_, _], _, _ => rfl) (pdk_cons (pd_var 1) (pdk_cons (pd_var 0) pdk_nil)))
theorem ok_law_ratios_right_8 {f c0 : Addr} {A : Around} {outer : List Env} {s : Shared} {H : Hp} {E : XK} (oE_times : ∀ base, OwnE P w K mg base "times" s_times ["near", "far"] 5 2 (phO f_times)) : LamTOk (cxOf CX0 P w K mg base ["good", "odds", "odd", "calls"] "_law_ratios_right" (defScope s_law_ratios_right) f (.ref c0) A outer s H E).nox 6 [0, 2] (S_law_ratios_right_8 (cellsFrom (s.heap.objs.size + 1) (defScope s_law_ratios_right).names [])) := by
  refine ⟨fun c => nscope_by ns_law_ratios_right_8, fun c pm ctv => rfl, fun ok c => Caps.made ok (ndef_free nd_law_ratios_right_8) (ndef_fr nd_law_ratios_right_8) rfl, (by show ∀ k ∈ ([0, 1] : List Nat), k < ([0, 2] : List Nat).length; decide), fun base c f2 A2 outer2 s2 H2 E2 hr => ?_⟩
  have tk : Takes (ncx (L2.CX P w) P w K mg base ["good", "odd"] (li l_law_ratios_right_8 q_law_ratios_right (cellsFrom (s.heap.objs.size + 1) (defScope s_law_ratios_right).names []) c).nf f2 A2 outer2 s2 H2 E2) (fun cls d _ H => E2 cls d H) := takes_of rfl rfl rfl rfl
  exact (pdx_call tk (oE_times base) (hr.mono (by decide)) (fun _ _ _ _ _ _ us hl => match us, hl with | [_, _], _ => rfl) (pda_cons (pd_var 0) (pda_cons (pd_var 1) pda_nil)))
theorem ok_law_ratios_right_9 {f c0 : Addr} {A : Around} {outer : List Env} {s : Shared} {H : Hp} {E : XK} (oE_over : ∀ base, OwnE P w K mg base "over" s_over ["near", "far"] 5 2 (phO f_over)) : LamTOk (cxOf CX0 P w K mg base ["good", "odds", "odd", "calls"] "_law_ratios_right" (defScope s_law_ratios_right) f (.ref c0) A outer s H E).nox 6 [0, 2] (S_law_ratios_right_9 (cellsFrom (s.heap.objs.size + 1) (defScope s_law_ratios_right).names [])) := by
  refine ⟨fun c => nscope_by ns_law_ratios_right_9, fun c pm ctv => rfl, fun ok c => Caps.made ok (ndef_free nd_law_ratios_right_9) (ndef_fr nd_law_ratios_right_9) rfl, (by show ∀ k ∈ ([0, 1] : List Nat), k < ([0, 2] : List Nat).length; decide), fun base c f2 A2 outer2 s2 H2 E2 hr => ?_⟩
  have tk : Takes (ncx (L2.CX P w) P w K mg base ["good", "odd"] (li l_law_ratios_right_9 q_law_ratios_right (cellsFrom (s.heap.objs.size + 1) (defScope s_law_ratios_right).names []) c).nf f2 A2 outer2 s2 H2 E2) (fun cls d _ H => E2 cls d H) := takes_of rfl rfl rfl rfl
  exact (pdx_callK0 (ks := ["far", "near"]) [1, 0] tk (oE_over base) (hr.mono (by decide)) (by decide) (fun _ _ _ _ _ _ us ws h1 h2 => match us, ws, h1, h2 with | [], [_, _], _, _ => rfl) (pdk_cons (pd_var 1) (pdk_cons (pd_var 0) pdk_nil)))
theorem ok_law_ratios_right_10 {f c0 : Addr} {A : Around} {outer : List Env} {s : Shared} {H : Hp} {E : XK} (oE_compared : ∀ base, OwnE P w K mg base "compared" s_compared ["near", "far"] 5 2 (phO f_compared)) : LamTOk (cxOf CX0 P w K mg base ["good", "odds", "odd", "calls"] "_law_ratios_right" (defScope s_law_ratios_right) f (.ref c0) A outer s H E).nox 6 [0, 2] (S_law_ratios_right_10 (cellsFrom (s.heap.objs.size + 1) (defScope s_law_ratios_right).names [])) := by
  refine ⟨fun c => nscope_by ns_law_ratios_right_10, fun c pm ctv => rfl, fun ok c => Caps.made ok (ndef_free nd_law_ratios_right_10) (ndef_fr nd_law_ratios_right_10) rfl, (by show ∀ k ∈ ([0, 1] : List Nat), k < ([0, 2] : List Nat).length; decide), fun base c f2 A2 outer2 s2 H2 E2 hr => ?_⟩
  have tk : Takes (ncx (L2.CX P w) P w K mg base ["good", "odd"] (li l_law_ratios_right_10 q_law_ratios_right (cellsFrom (s.heap.objs.size + 1) (defScope s_law_ratios_right).names []) c).nf f2 A2 outer2 s2 H2 E2) (fun cls d _ H => E2 cls d H) := takes_of rfl rfl rfl rfl
  exact (pdx_call tk (oE_compared base) (hr.mono (by decide)) (fun _ _ _ _ _ _ us hl => match us, hl with | [_, _], _ => rfl) (pda_cons (pd_var 0) (pda_cons (pd_var 1) pda_nil)))
theorem ok_law_ratios_right_11 {f c0 : Addr} {A : Around} {outer : List Env} {s : Shared} {H : Hp} {E : XK} (oE_floor_of : ∀ base, OwnE P w K mg base "floor_of" s_floor_of ["ratio"] 4 1 (phO f_floor_of)) : LamTOk (cxOf CX0 P w K mg base ["good", "odds", "odd", "calls"] "_law_ratios_right" (defScope s_law_ratios_right) f (.ref c0) A outer s H E).nox 6 [0, 2] (S_law_ratios_right_11 (cellsFrom (s.heap.objs.size + 1) (defScope s_law_ratios_right).names [])) := by
  refine ⟨fun c => nscope_by ns_law_ratios_right_11, fun c pm ctv => rfl, fun ok c => Caps.made ok (ndef_free nd_law_ratios_right_11) (ndef_fr nd_law_ratios_right_11) rfl, (by show ∀ k ∈ ([1] : List Nat), k < ([0, 2] : List Nat).length; decide), fun base c f2 A2 outer2 s2 H2 E2 hr => ?_⟩
  have tk : Takes (ncx (L2.CX P w) P w K mg base ["odd"] (li l_law_ratios_right_11 q_law_ratios_right (cellsFrom (s.heap.objs.size + 1) (defScope s_law_ratios_right).names []) c).nf f2 A2 outer2 s2 H2 E2) (fun cls d _ H => E2 cls d H) := takes_of rfl rfl rfl rfl
  exact (pdx_call tk (oE_floor_of base) (hr.mono (by decide)) (fun _ _ _ _ _ _ us hl => match us, hl with | [_], _ => rfl) (pda_cons (pd_var 0) pda_nil))
theorem ok_law_ratios_right_12 {f c0 : Addr} {A : Around} {outer : List Env} {s : Shared} {H : Hp} {E : XK} (oE_ceiling_of : ∀ base, OwnE P w K mg base "ceiling_of" s_ceiling_of ["ratio"] 4 1 (phO f_ceiling_of)) : LamTOk (cxOf CX0 P w K mg base ["good", "odds", "odd", "calls"] "_law_ratios_right" (defScope s_law_ratios_right) f (.ref c0) A outer s H E).nox 6 [0, 2] (S_law_ratios_right_12 (cellsFrom (s.heap.objs.size + 1) (defScope s_law_ratios_right).names [])) := by
  refine ⟨fun c => nscope_by ns_law_ratios_right_12, fun c pm ctv => rfl, fun ok c => Caps.made ok (ndef_free nd_law_ratios_right_12) (ndef_fr nd_law_ratios_right_12) rfl, (by show ∀ k ∈ ([1] : List Nat), k < ([0, 2] : List Nat).length; decide), fun base c f2 A2 outer2 s2 H2 E2 hr => ?_⟩
  have tk : Takes (ncx (L2.CX P w) P w K mg base ["odd"] (li l_law_ratios_right_12 q_law_ratios_right (cellsFrom (s.heap.objs.size + 1) (defScope s_law_ratios_right).names []) c).nf f2 A2 outer2 s2 H2 E2) (fun cls d _ H => E2 cls d H) := takes_of rfl rfl rfl rfl
  exact (pdx_callK0 (ks := ["ratio"]) [0] tk (oE_ceiling_of base) (hr.mono (by decide)) (by decide) (fun _ _ _ _ _ _ us ws h1 h2 => match us, ws, h1, h2 with | [], [_], _, _ => rfl) (pdk_cons (pd_var 0) pdk_nil))
theorem ok_law_ratios_right_13 {f c0 : Addr} {A : Around} {outer : List Env} {s : Shared} {H : Hp} {E : XK} (oE_ratio_text : ∀ base, OwnE P w K mg base "ratio_text" s_ratio_text ["ratio"] 4 1 (phO f_ratio_text)) : LamTOk (cxOf CX0 P w K mg base ["good", "odds", "odd", "calls"] "_law_ratios_right" (defScope s_law_ratios_right) f (.ref c0) A outer s H E).nox 6 [0, 2] (S_law_ratios_right_13 (cellsFrom (s.heap.objs.size + 1) (defScope s_law_ratios_right).names [])) := by
  refine ⟨fun c => nscope_by ns_law_ratios_right_13, fun c pm ctv => rfl, fun ok c => Caps.made ok (ndef_free nd_law_ratios_right_13) (ndef_fr nd_law_ratios_right_13) rfl, (by show ∀ k ∈ ([1] : List Nat), k < ([0, 2] : List Nat).length; decide), fun base c f2 A2 outer2 s2 H2 E2 hr => ?_⟩
  have tk : Takes (ncx (L2.CX P w) P w K mg base ["odd"] (li l_law_ratios_right_13 q_law_ratios_right (cellsFrom (s.heap.objs.size + 1) (defScope s_law_ratios_right).names []) c).nf f2 A2 outer2 s2 H2 E2) (fun cls d _ H => E2 cls d H) := takes_of rfl rfl rfl rfl
  exact (pdx_call tk (oE_ratio_text base) (hr.mono (by decide)) (fun _ _ _ _ _ _ us hl => match us, hl with | [_], _ => rfl) (pda_cons (pd_var 0) pda_nil))
theorem okB_law_ratios_right_b0 {f c0 : Addr} {A : Around} {outer : List Env} {s : Shared} {H : Hp} {E : XK} (oE_plus : ∀ base, OwnE P w K mg base "plus" s_plus ["near", "far"] 5 2 (phO f_plus)) (oE_minus : ∀ base, OwnE P w K mg base "minus" s_minus ["near", "far"] 5 2 (phO f_minus)) (oE_times : ∀ base, OwnE P w K mg base "times" s_times ["near", "far"] 5 2 (phO f_times)) (oE_over : ∀ base, OwnE P w K mg base "over" s_over ["near", "far"] 5 2 (phO f_over)) (oE_compared : ∀ base, OwnE P w K mg base "compared" s_compared ["near", "far"] 5 2 (phO f_compared)) (oE_floor_of : ∀ base, OwnE P w K mg base "floor_of" s_floor_of ["ratio"] 4 1 (phO f_floor_of)) (oE_ceiling_of : ∀ base, OwnE P w K mg base "ceiling_of" s_ceiling_of ["ratio"] 4 1 (phO f_ceiling_of)) (oE_ratio_text : ∀ base, OwnE P w K mg base "ratio_text" s_ratio_text ["ratio"] 4 1 (phO f_ratio_text)) : ∀ S ∈ Ss_law_ratios_right_b0 (cellsFrom (s.heap.objs.size + 1) (defScope s_law_ratios_right).names []), LamTOk (cxOf CX0 P w K mg base ["good", "odds", "odd", "calls"] "_law_ratios_right" (defScope s_law_ratios_right) f (.ref c0) A outer s H E).nox 6 [0, 2] S := List.forall_mem_cons.mpr ⟨ok_law_ratios_right_0 oE_plus, List.forall_mem_cons.mpr ⟨ok_law_ratios_right_1 oE_minus, List.forall_mem_cons.mpr ⟨ok_law_ratios_right_2 oE_times, List.forall_mem_cons.mpr ⟨ok_law_ratios_right_3 oE_over, List.forall_mem_cons.mpr ⟨ok_law_ratios_right_4 oE_over, List.forall_mem_cons.mpr ⟨ok_law_ratios_right_5 oE_compared, List.forall_mem_cons.mpr ⟨ok_law_ratios_right_6 oE_plus, List.forall_mem_cons.mpr ⟨ok_law_ratios_right_7 oE_minus, List.forall_mem_cons.mpr ⟨ok_law_ratios_right_8 oE_times, List.forall_mem_cons.mpr ⟨ok_law_ratios_right_9 oE_over, List.forall_mem_cons.mpr ⟨ok_law_ratios_right_10 oE_compared, List.forall_mem_cons.mpr ⟨ok_law_ratios_right_11 oE_floor_of, List.forall_mem_cons.mpr ⟨ok_law_ratios_right_12 oE_ceiling_of, List.forall_mem_cons.mpr ⟨ok_law_ratios_right_13 oE_ratio_text, fun _ z => nomatch z⟩⟩⟩⟩⟩⟩⟩⟩⟩⟩⟩⟩⟩⟩
theorem ow_law_ratios_right {c0 : Addr} (hm : ∃ f fd, Fun K "_law_ratios_right" "_law_ratios_right" s_law_ratios_right f fd ∧ mg "_law_ratios_right" = some (.ref f))
    (hcode : ∀ f fd, Fun K "_law_ratios_right" "_law_ratios_right" s_law_ratios_right f fd → mg "_law_ratios_right" = some (.ref f) → fd.code = .ref c0) (TB : LamX.TabB base mg c0 (Tabs.T 1))
    (z_repr : mg "repr" = none) (oT : OwnT P w K mg "_law_all" s_all ["calls", "due"] 7 10 2 (allF told)) (oE_plus : ∀ base, OwnE P w K mg base "plus" s_plus ["near", "far"] 5 2 (phO f_plus)) (oE_minus : ∀ base, OwnE P w K mg base "minus" s_minus ["near", "far"] 5 2 (phO f_minus)) (oE_times : ∀ base, OwnE P w K mg base "times" s_times ["near", "far"] 5 2 (phO f_times)) (oE_over : ∀ base, OwnE P w K mg base "over" s_over ["near", "far"] 5 2 (phO f_over)) (oE_compared : ∀ base, OwnE P w K mg base "compared" s_compared ["near", "far"] 5 2 (phO f_compared)) (oE_floor_of : ∀ base, OwnE P w K mg base "floor_of" s_floor_of ["ratio"] 4 1 (phO f_floor_of)) (oE_ceiling_of : ∀ base, OwnE P w K mg base "ceiling_of" s_ceiling_of ["ratio"] 4 1 (phO f_ceiling_of)) (oE_ratio_text : ∀ base, OwnE P w K mg base "ratio_text" s_ratio_text ["ratio"] 4 1 (phO f_ratio_text))  (hp : ∀ cl, Pure ["good", "odds", "odd", "calls"] 1 ph_law_ratios_right (ds_law_ratios_right cl)) : Own P w K mg base "_law_ratios_right" s_law_ratios_right ["good"] 11 1 ph_law_ratios_right := by
  obtain ⟨f, fd, F, hf⟩ := hm
  refine ⟨f, fd, F, okDC F sc_law_ratios_right rfl (fun cdv hc A outer s H E hr => ?_) hp, hf⟩
  have e := hcode f fd F hf
  rw [hc] at e
  subst e
  exact (pds_cons (pd_set (i := 1) sc_law_ratios_right.nd (pd_lst (pda_cons pd_non (pda_cons pd_int (pda_cons pd_bl (pda_cons pd_str (pda_cons (pd_lst (pda_cons pd_int (pda_cons pd_int pda_nil))) (pda_cons (pd_tup (pda_cons pd_int pda_nil)) (pda_cons (pd_tup (pda_cons pd_int (pda_cons pd_int (pda_cons pd_int pda_nil)))) (pda_cons (pd_tup (pda_cons pd_int (pda_cons pd_int pda_nil))) (pda_cons (pd_tup (pda_cons pd_int (pda_cons pd_int pda_nil))) (pda_cons (pd_tup (pda_cons pd_int (pda_cons (pd_neg pd_int) pda_nil))) (pda_cons (pd_tup (pda_cons pd_int (pda_cons pd_int pda_nil))) (pda_cons (pd_tup (pda_cons pd_bl (pda_cons pd_int pda_nil))) (pda_cons (pd_tup (pda_cons pd_int (pda_cons pd_bl pda_nil))) (pda_cons (pd_tup (pda_cons pd_str (pda_cons pd_int pda_nil))) pda_nil))))))))))))))))
    (pds_cons (pd_for PassesOwn.never rfl (pdi_seq (pd_add (pd_var 1) (pd_lst (pda_cons (pd_tup pda_nil) (pda_cons pd_dctD (pda_cons (pd_tup (pda_cons (pd_neg pd_int) (pda_cons pd_int pda_nil))) (pda_cons (pd_tup (pda_cons (pd_tup (pda_cons pd_int (pda_cons pd_int pda_nil))) pda_nil)) pda_nil))))))) (pdg_name (i := 2) sc_law_ratios_right.nd (hx := Or.inr rfl)) (pds_cut (pds_ap (i := 3) sc_law_ratios_right.nd (pda_cons (pd_lam TB rfl (fun c => rfl) rfl rfl (ndef_free nd_law_ratios_right_0) : PD _ (.Lambda (lP l_law_ratios_right_0) (lB l_law_ratios_right_0) (lS l_law_ratios_right_0) (lPos l_law_ratios_right_0)) (dLam 1 (Tabs.T 1) q_law_ratios_right (li l_law_ratios_right_0 q_law_ratios_right (cellsFrom (s.heap.objs.size + 1) (defScope s_law_ratios_right).names [])))) pda_nil)
      (pap_one (pd_lam TB rfl (fun c => rfl) rfl rfl (ndef_free nd_law_ratios_right_1) : PD _ (.Lambda (lP l_law_ratios_right_1) (lB l_law_ratios_right_1) (lS l_law_ratios_right_1) (lPos l_law_ratios_right_1)) (dLam 1 (Tabs.T 1) q_law_ratios_right (li l_law_ratios_right_1 q_law_ratios_right (cellsFrom (s.heap.objs.size + 1) (defScope s_law_ratios_right).names []))))
      (pap_one (pd_lam TB rfl (fun c => rfl) rfl rfl (ndef_free nd_law_ratios_right_2) : PD _ (.Lambda (lP l_law_ratios_right_2) (lB l_law_ratios_right_2) (lS l_law_ratios_right_2) (lPos l_law_ratios_right_2)) (dLam 1 (Tabs.T 1) q_law_ratios_right (li l_law_ratios_right_2 q_law_ratios_right (cellsFrom (s.heap.objs.size + 1) (defScope s_law_ratios_right).names []))))
      (pap_one (pd_lam TB rfl (fun c => rfl) rfl rfl (ndef_free nd_law_ratios_right_3) : PD _ (.Lambda (lP l_law_ratios_right_3) (lB l_law_ratios_right_3) (lS l_law_ratios_right_3) (lPos l_law_ratios_right_3)) (dLam 1 (Tabs.T 1) q_law_ratios_right (li l_law_ratios_right_3 q_law_ratios_right (cellsFrom (s.heap.objs.size + 1) (defScope s_law_ratios_right).names []))))
      (pap_one (pd_lam TB rfl (fun c => rfl) rfl rfl (ndef_free nd_law_ratios_right_4) : PD _ (.Lambda (lP l_law_ratios_right_4) (lB l_law_ratios_right_4) (lS l_law_ratios_right_4) (lPos l_law_ratios_right_4)) (dLam 1 (Tabs.T 1) q_law_ratios_right (li l_law_ratios_right_4 q_law_ratios_right (cellsFrom (s.heap.objs.size + 1) (defScope s_law_ratios_right).names []))))
      (pap_one (pd_lam TB rfl (fun c => rfl) rfl rfl (ndef_free nd_law_ratios_right_5) : PD _ (.Lambda (lP l_law_ratios_right_5) (lB l_law_ratios_right_5) (lS l_law_ratios_right_5) (lPos l_law_ratios_right_5)) (dLam 1 (Tabs.T 1) q_law_ratios_right (li l_law_ratios_right_5 q_law_ratios_right (cellsFrom (s.heap.objs.size + 1) (defScope s_law_ratios_right).names []))))
      (pap_one (pd_lam TB rfl (fun c => rfl) rfl rfl (ndef_free nd_law_ratios_right_6) : PD _ (.Lambda (lP l_law_ratios_right_6) (lB l_law_ratios_right_6) (lS l_law_ratios_right_6) (lPos l_law_ratios_right_6)) (dLam 1 (Tabs.T 1) q_law_ratios_right (li l_law_ratios_right_6 q_law_ratios_right (cellsFrom (s.heap.objs.size + 1) (defScope s_law_ratios_right).names []))))
      (pap_one (pd_lam TB rfl (fun c => rfl) rfl rfl (ndef_free nd_law_ratios_right_7) : PD _ (.Lambda (lP l_law_ratios_right_7) (lB l_law_ratios_right_7) (lS l_law_ratios_right_7) (lPos l_law_ratios_right_7)) (dLam 1 (Tabs.T 1) q_law_ratios_right (li l_law_ratios_right_7 q_law_ratios_right (cellsFrom (s.heap.objs.size + 1) (defScope s_law_ratios_right).names []))))
      (pap_one (pd_lam TB rfl (fun c => rfl) rfl rfl (ndef_free nd_law_ratios_right_8) : PD _ (.Lambda (lP l_law_ratios_right_8) (lB l_law_ratios_right_8) (lS l_law_ratios_right_8) (lPos l_law_ratios_right_8)) (dLam 1 (Tabs.T 1) q_law_ratios_right (li l_law_ratios_right_8 q_law_ratios_right (cellsFrom (s.heap.objs.size + 1) (defScope s_law_ratios_right).names []))))
      (pap_one (pd_lam TB rfl (fun c => rfl) rfl rfl (ndef_free nd_law_ratios_right_9) : PD _ (.Lambda (lP l_law_ratios_right_9) (lB l_law_ratios_right_9) (lS l_law_ratios_right_9) (lPos l_law_ratios_right_9)) (dLam 1 (Tabs.T 1) q_law_ratios_right (li l_law_ratios_right_9 q_law_ratios_right (cellsFrom (s.heap.objs.size + 1) (defScope s_law_ratios_right).names []))))
      (pap_one (pd_lam TB rfl (fun c => rfl) rfl rfl (ndef_free nd_law_ratios_right_10) : PD _ (.Lambda (lP l_law_ratios_right_10) (lB l_law_ratios_right_10) (lS l_law_ratios_right_10) (lPos l_law_ratios_right_10)) (dLam 1 (Tabs.T 1) q_law_ratios_right (li l_law_ratios_right_10 q_law_ratios_right (cellsFrom (s.heap.objs.size + 1) (defScope s_law_ratios_right).names []))))
      (pap_one (pd_lam TB rfl (fun c => rfl) rfl rfl (ndef_free nd_law_ratios_right_11) : PD _ (.Lambda (lP l_law_ratios_right_11) (lB l_law_ratios_right_11) (lS l_law_ratios_right_11) (lPos l_law_ratios_right_11)) (dLam 1 (Tabs.T 1) q_law_ratios_right (li l_law_ratios_right_11 q_law_ratios_right (cellsFrom (s.heap.objs.size + 1) (defScope s_law_ratios_right).names []))))
      (pap_one (pd_lam TB rfl (fun c => rfl) rfl rfl (ndef_free nd_law_ratios_right_12) : PD _ (.Lambda (lP l_law_ratios_right_12) (lB l_law_ratios_right_12) (lS l_law_ratios_right_12) (lPos l_law_ratios_right_12)) (dLam 1 (Tabs.T 1) q_law_ratios_right (li l_law_ratios_right_12 q_law_ratios_right (cellsFrom (s.heap.objs.size + 1) (defScope s_law_ratios_right).names []))))
      (pap_one (pd_lam TB rfl (fun c => rfl) rfl rfl (ndef_free nd_law_ratios_right_13) : PD _ (.Lambda (lP l_law_ratios_right_13) (lB l_law_ratios_right_13) (lS l_law_ratios_right_13) (lPos l_law_ratios_right_13)) (dLam 1 (Tabs.T 1) q_law_ratios_right (li l_law_ratios_right_13 q_law_ratios_right (cellsFrom (s.heap.objs.size + 1) (defScope s_law_ratios_right).names []))))
      (pap_end (pds_one (pd_if (pdt_not (pdt_tru (pd_callT oT (hr.mono (by decide)) (fun _ => rfl) (okB_law_ratios_right_b0 oE_plus oE_minus oE_times oE_over oE_compared oE_floor_of oE_ceiling_of oE_ratio_text) (fun _ _ _ _ _ _ us hl => match us, hl with | [_, _], _ => rfl) (pda_cons (pd_var 3) (pda_cons (pd_lst (pda_cons pd_str (pda_cons (pd_repr hr (pda_cons (pd_var 2) pda_nil) z_repr) (pda_cons pd_bl pda_nil)))) pda_nil))))) (pds_one (pd_ret pd_bl)) pds_nil)))))))))))))))))))
    (pds_one (pd_ret pd_bl))))
theorem ok_law_lists_right_0 {f c0 : Addr} {A : Around} {outer : List Env} {s : Shared} {H : Hp} {E : XK} (oE_common_under : ∀ base, OwnE P w K mg base "common_under" s_common_under ["ratios"] 4 1 phE_common_under) : LamTOk (cxOf CX0 P w K mg base ["good", "odd", "calls"] "_law_lists_right" (defScope s_law_lists_right) f (.ref c0) A outer s H E).nox 6 [1] (S_law_lists_right_0 (cellsFrom (s.heap.objs.size + 1) (defScope s_law_lists_right).names [])) := by
  refine ⟨fun c => nscope_by ns_law_lists_right_0, fun c pm ctv => rfl, fun ok c => Caps.made ok (ndef_free nd_law_lists_right_0) (ndef_fr nd_law_lists_right_0) rfl, (by show ∀ k ∈ ([0] : List Nat), k < ([1] : List Nat).length; decide), fun base c f2 A2 outer2 s2 H2 E2 hr => ?_⟩
  have tk : Takes (ncx (L2.CX P w) P w K mg base ["odd"] (li l_law_lists_right_0 q_law_lists_right (cellsFrom (s.heap.objs.size + 1) (defScope s_law_lists_right).names []) c).nf f2 A2 outer2 s2 H2 E2) (fun cls d _ H => E2 cls d H) := takes_of rfl rfl rfl rfl
  exact (pdx_call tk (oE_common_under base) (hr.mono (by decide)) (fun _ _ _ _ _ _ us hl => match us, hl with | [_], _ => rfl) (pda_cons (pd_var 0) pda_nil))
theorem ok_law_lists_right_1 {f c0 : Addr} {A : Around} {outer : List Env} {s : Shared} {H : Hp} {E : XK} (oE_whole_row : ∀ base, OwnE P w K mg base "whole_row" s_whole_row ["ratios"] 5 1 phE_whole_row) : LamTOk (cxOf CX0 P w K mg base ["good", "odd", "calls"] "_law_lists_right" (defScope s_law_lists_right) f (.ref c0) A outer s H E).nox 6 [1] (S_law_lists_right_1 (cellsFrom (s.heap.objs.size + 1) (defScope s_law_lists_right).names [])) := by
  refine ⟨fun c => nscope_by ns_law_lists_right_1, fun c pm ctv => rfl, fun ok c => Caps.made ok (ndef_free nd_law_lists_right_1) (ndef_fr nd_law_lists_right_1) rfl, (by show ∀ k ∈ ([0] : List Nat), k < ([1] : List Nat).length; decide), fun base c f2 A2 outer2 s2 H2 E2 hr => ?_⟩
  have tk : Takes (ncx (L2.CX P w) P w K mg base ["odd"] (li l_law_lists_right_1 q_law_lists_right (cellsFrom (s.heap.objs.size + 1) (defScope s_law_lists_right).names []) c).nf f2 A2 outer2 s2 H2 E2) (fun cls d _ H => E2 cls d H) := takes_of rfl rfl rfl rfl
  exact (pdx_callK0 (ks := ["ratios"]) [0] tk (oE_whole_row base) (hr.mono (by decide)) (by decide) (fun _ _ _ _ _ _ us ws h1 h2 => match us, ws, h1, h2 with | [], [_], _, _ => rfl) (pdk_cons (pd_var 0) pdk_nil))
theorem okB_law_lists_right_b0 {f c0 : Addr} {A : Around} {outer : List Env} {s : Shared} {H : Hp} {E : XK} (oE_common_under : ∀ base, OwnE P w K mg base "common_under" s_common_under ["ratios"] 4 1 phE_common_under) (oE_whole_row : ∀ base, OwnE P w K mg base "whole_row" s_whole_row ["ratios"] 5 1 phE_whole_row) : ∀ S ∈ Ss_law_lists_right_b0 (cellsFrom (s.heap.objs.size + 1) (defScope s_law_lists_right).names []), LamTOk (cxOf CX0 P w K mg base ["good", "odd", "calls"] "_law_lists_right" (defScope s_law_lists_right) f (.ref c0) A outer s H E).nox 6 [1] S := List.forall_mem_cons.mpr ⟨ok_law_lists_right_0 oE_common_under, List.forall_mem_cons.mpr ⟨ok_law_lists_right_1 oE_whole_row, fun _ z => nomatch z⟩⟩
theorem ok_law_lists_right_2 {f c0 : Addr} {A : Around} {outer : List Env} {s : Shared} {H : Hp} {E : XK} (oE_row_product : ∀ base, OwnE P w K mg base "row_product" s_row_product ["row", "other"] 6 2 (phO f_row_product)) : LamTOk (cxOf CX0 P w K mg base ["good", "odd", "calls"] "_law_lists_right" (defScope s_law_lists_right) f (.ref c0) A outer s H E).nox 6 [1] (S_law_lists_right_2 (cellsFrom (s.heap.objs.size + 1) (defScope s_law_lists_right).names [])) := by
  refine ⟨fun c => nscope_by ns_law_lists_right_2, fun c pm ctv => rfl, fun ok c => Caps.made ok (ndef_free nd_law_lists_right_2) (ndef_fr nd_law_lists_right_2) rfl, (by show ∀ k ∈ ([0] : List Nat), k < ([1] : List Nat).length; decide), fun base c f2 A2 outer2 s2 H2 E2 hr => ?_⟩
  have tk : Takes (ncx (L2.CX P w) P w K mg base ["odd"] (li l_law_lists_right_2 q_law_lists_right (cellsFrom (s.heap.objs.size + 1) (defScope s_law_lists_right).names []) c).nf f2 A2 outer2 s2 H2 E2) (fun cls d _ H => E2 cls d H) := takes_of rfl rfl rfl rfl
  exact (pdx_call tk (oE_row_product base) (hr.mono (by decide)) (fun _ _ _ _ _ _ us hl => match us, hl with | [_, _], _ => rfl) (pda_cons (pd_var 0) (pda_cons pd_non pda_nil)))
theorem ok_law_lists_right_3 {f c0 : Addr} {A : Around} {outer : List Env} {s : Shared} {H : Hp} {E : XK} (oE_row_sum : ∀ base, OwnE P w K mg base "row_sum" s_row_sum ["row", "other"] 6 2 (phO f_row_sum)) : LamTOk (cxOf CX0 P w K mg base ["good", "odd", "calls"] "_law_lists_right" (defScope s_law_lists_right) f (.ref c0) A outer s H E).nox 6 [1] (S_law_lists_right_3 (cellsFrom (s.heap.objs.size + 1) (defScope s_law_lists_right).names [])) := by
  refine ⟨fun c => nscope_by ns_law_lists_right_3, fun c pm ctv => rfl, fun ok c => Caps.made ok (ndef_free nd_law_lists_right_3) (ndef_fr nd_law_lists_right_3) rfl, (by show ∀ k ∈ ([0] : List Nat), k < ([1] : List Nat).length; decide), fun base c f2 A2 outer2 s2 H2 E2 hr => ?_⟩
  have tk : Takes (ncx (L2.CX P w) P w K mg base ["odd"] (li l_law_lists_right_3 q_law_lists_right (cellsFrom (s.heap.objs.size + 1) (defScope s_law_lists_right).names []) c).nf f2 A2 outer2 s2 H2 E2) (fun cls d _ H => E2 cls d H) := takes_of rfl rfl rfl rfl
  exact (pdx_callK0 (ks := ["row", "other"]) [0, 1] tk (oE_row_sum base) (hr.mono (by decide)) (by decide) (fun _ _ _ _ _ _ us ws h1 h2 => match us, ws, h1, h2 with | [], [_, _], _, _ => rfl) (pdk_cons (pd_var 0) (pdk_cons pd_non pdk_nil)))
theorem ok_law_lists_right_4 {f c0 : Addr} {A : Around} {outer : List Env} {s : Shared} {H : Hp} {E : XK} (oE_row_product : ∀ base, OwnE P w K mg base "row_product" s_row_product ["row", "other"] 6 2 (phO f_row_product)) : LamTOk (cxOf CX0 P w K mg base ["good", "odd", "calls"] "_law_lists_right" (defScope s_law_lists_right) f (.ref c0) A outer s H E).nox 6 [1] (S_law_lists_right_4 (cellsFrom (s.heap.objs.size + 1) (defScope s_law_lists_right).names [])) := by
  refine ⟨fun c => nscope_by ns_law_lists_right_4, fun c pm ctv => rfl, fun ok c => Caps.made ok (ndef_free nd_law_lists_right_4) (ndef_fr nd_law_lists_right_4) rfl, (by show ∀ k ∈ ([0] : List Nat), k < ([1] : List Nat).length; decide), fun base c f2 A2 outer2 s2 H2 E2 hr => ?_⟩
  have tk : Takes (ncx (L2.CX P w) P w K mg base ["odd"] (li l_law_lists_right_4 q_law_lists_right (cellsFrom (s.heap.objs.size + 1) (defScope s_law_lists_right).names []) c).nf f2 A2 outer2 s2 H2 E2) (fun cls d _ H => E2 cls d H) := takes_of rfl rfl rfl rfl
  exact (pdx_call tk (oE_row_product base) (hr.mono (by decide)) (fun _ _ _ _ _ _ us hl => match us, hl with | [_, _], _ => rfl) (pda_cons (pd_tup (pda_cons pd_int (pda_cons pd_int pda_nil))) (pda_cons (pd_var 0) pda_nil)))
theorem ok_law_lists_right_5 {f c0 : Addr} {A : Around} {outer : List Env} {s : Shared} {H : Hp} {E : XK} (oE_row_sum : ∀ base, OwnE P w K mg base "row_sum" s_row_sum ["row", "other"] 6 2 (phO f_row_sum)) : LamTOk (cxOf CX0 P w K mg base ["good", "odd", "calls"] "_law_lists_right" (defScope s_law_lists_right) f (.ref c0) A outer s H E).nox 6 [1] (S_law_lists_right_5 (cellsFrom (s.heap.objs.size + 1) (defScope s_law_lists_right).names [])) := by
  refine ⟨fun c => nscope_by ns_law_lists_right_5, fun c pm ctv => rfl, fun ok c => Caps.made ok (ndef_free nd_law_lists_right_5) (ndef_fr nd_law_lists_right_5) rfl, (by show ∀ k ∈ ([0] : List Nat), k < ([1] : List Nat).length; decide), fun base c f2 A2 outer2 s2 H2 E2 hr => ?_⟩
  have tk : Takes (ncx (L2.CX P w) P w K mg base ["odd"] (li l_law_lists_right_5 q_law_lists_right (cellsFrom (s.heap.objs.size + 1) (defScope s_law_lists_right).names []) c).nf f2 A2 outer2 s2 H2 E2) (fun cls d _ H => E2 cls d H) := takes_of rfl rfl rfl rfl
  exact (pdx_callK0 (ks := ["other", "row"]) [1, 0] tk (oE_row_sum base) (hr.mono (by decide)) (by decide) (fun _ _ _ _ _ _ us ws h1 h2 => match us, ws, h1, h2 with | [], [_, _], _, _ => rfl) (pdk_cons (pd_var 0) (pdk_cons (pd_tup (pda_cons pd_int (pda_cons pd_int pda_nil))) pdk_nil)))
theorem ok_law_lists_right_6 {f c0 : Addr} {A : Around} {outer : List Env} {s : Shared} {H : Hp} {E : XK} (oE_row_taken : ∀ base, OwnE P w K mg base "row_taken" s_row_taken ["row", "number"] 5 2 (phO f_row_taken)) : LamTOk (cxOf CX0 P w K mg base ["good", "odd", "calls"] "_law_lists_right" (defScope s_law_lists_right) f (.ref c0) A outer s H E).nox 6 [1] (S_law_lists_right_6 (cellsFrom (s.heap.objs.size + 1) (defScope s_law_lists_right).names [])) := by
  refine ⟨fun c => nscope_by ns_law_lists_right_6, fun c pm ctv => rfl, fun ok c => Caps.made ok (ndef_free nd_law_lists_right_6) (ndef_fr nd_law_lists_right_6) rfl, (by show ∀ k ∈ ([0] : List Nat), k < ([1] : List Nat).length; decide), fun base c f2 A2 outer2 s2 H2 E2 hr => ?_⟩
  have tk : Takes (ncx (L2.CX P w) P w K mg base ["odd"] (li l_law_lists_right_6 q_law_lists_right (cellsFrom (s.heap.objs.size + 1) (defScope s_law_lists_right).names []) c).nf f2 A2 outer2 s2 H2 E2) (fun cls d _ H => E2 cls d H) := takes_of rfl rfl rfl rfl
  exact (pdx_call tk (oE_row_taken base) (hr.mono (by decide)) (fun _ _ _ _ _ _ us hl => match us, hl with | [_, _], _ => rfl) (pda_cons (pd_var 0) (pda_cons pd_non pda_nil)))
theorem ok_law_lists_right_7 {f c0 : Addr} {A : Around} {outer : List Env} {s : Shared} {H : Hp} {E : XK} (oE_row_divisor : ∀ base, OwnE P w K mg base "row_divisor" s_row_divisor ["row"] 5 1 (phO f_row_divisor)) : LamTOk (cxOf CX0 P w K mg base ["good", "odd", "calls"] "_law_lists_right" (defScope s_law_lists_right) f (.ref c0) A outer s H E).nox 6 [1] (S_law_lists_right_7 (cellsFrom (s.heap.objs.size + 1) (defScope s_law_lists_right).names [])) := by
  refine ⟨fun c => nscope_by ns_law_lists_right_7, fun c pm ctv => rfl, fun ok c => Caps.made ok (ndef_free nd_law_lists_right_7) (ndef_fr nd_law_lists_right_7) rfl, (by show ∀ k ∈ ([0] : List Nat), k < ([1] : List Nat).length; decide), fun base c f2 A2 outer2 s2 H2 E2 hr => ?_⟩
  have tk : Takes (ncx (L2.CX P w) P w K mg base ["odd"] (li l_law_lists_right_7 q_law_lists_right (cellsFrom (s.heap.objs.size + 1) (defScope s_law_lists_right).names []) c).nf f2 A2 outer2 s2 H2 E2) (fun cls d _ H => E2 cls d H) := takes_of rfl rfl rfl rfl
  exact (pdx_call tk (oE_row_divisor base) (hr.mono (by decide)) (fun _ _ _ _ _ _ us hl => match us, hl with | [_], _ => rfl) (pda_cons (pd_var 0) pda_nil))
theorem ok_law_lists_right_8 {f c0 : Addr} {A : Around} {outer : List Env} {s : Shared} {H : Hp} {E : XK} (oE_row_reduced : ∀ base, OwnE P w K mg base "row_reduced" s_row_reduced ["row"] 6 1 (phO f_row_reduced)) : LamTOk (cxOf CX0 P w K mg base ["good", "odd", "calls"] "_law_lists_right" (defScope s_law_lists_right) f (.ref c0) A outer s H E).nox 6 [1] (S_law_lists_right_8 (cellsFrom (s.heap.objs.size + 1) (defScope s_law_lists_right).names [])) := by
  refine ⟨fun c => nscope_by ns_law_lists_right_8, fun c pm ctv => rfl, fun ok c => Caps.made ok (ndef_free nd_law_lists_right_8) (ndef_fr nd_law_lists_right_8) rfl, (by show ∀ k ∈ ([0] : List Nat), k < ([1] : List Nat).length; decide), fun base c f2 A2 outer2 s2 H2 E2 hr => ?_⟩
  have tk : Takes (ncx (L2.CX P w) P w K mg base ["odd"] (li l_law_lists_right_8 q_law_lists_right (cellsFrom (s.heap.objs.size + 1) (defScope s_law_lists_right).names []) c).nf f2 A2 outer2 s2 H2 E2) (fun cls d _ H => E2 cls d H) := takes_of rfl rfl rfl rfl
  exact (pdx_callK0 (ks := ["row"]) [0] tk (oE_row_reduced base) (hr.mono (by decide)) (by decide) (fun _ _ _ _ _ _ us ws h1 h2 => match us, ws, h1, h2 with | [], [_], _, _ => rfl) (pdk_cons (pd_var 0) pdk_nil))
theorem ok_law_lists_right_9 {f c0 : Addr} {A : Around} {outer : List Env} {s : Shared} {H : Hp} {E : XK} (oE_ratios_of : ∀ base, OwnE P w K mg base "ratios_of" s_ratios_of ["row", "under"] 5 2 (phO f_ratios_of)) : LamTOk (cxOf CX0 P w K mg base ["good", "odd", "calls"] "_law_lists_right" (defScope s_law_lists_right) f (.ref c0) A outer s H E).nox 6 [1] (S_law_lists_right_9 (cellsFrom (s.heap.objs.size + 1) (defScope s_law_lists_right).names [])) := by
  refine ⟨fun c => nscope_by ns_law_lists_right_9, fun c pm ctv => rfl, fun ok c => Caps.made ok (ndef_free nd_law_lists_right_9) (ndef_fr nd_law_lists_right_9) rfl, (by show ∀ k ∈ ([0] : List Nat), k < ([1] : List Nat).length; decide), fun base c f2 A2 outer2 s2 H2 E2 hr => ?_⟩
  have tk : Takes (ncx (L2.CX P w) P w K mg base ["odd"] (li l_law_lists_right_9 q_law_lists_right (cellsFrom (s.heap.objs.size + 1) (defScope s_law_lists_right).names []) c).nf f2 A2 outer2 s2 H2 E2) (fun cls d _ H => E2 cls d H) := takes_of rfl rfl rfl rfl
  exact (pdx_call tk (oE_ratios_of base) (hr.mono (by decide)) (fun _ _ _ _ _ _ us hl => match us, hl with | [_, _], _ => rfl) (pda_cons (pd_var 0) (pda_cons pd_non pda_nil)))
theorem ok_law_lists_right_10 {f c0 : Addr} {A : Around} {outer : List Env} {s : Shared} {H : Hp} {E : XK} (oE_ratios_of : ∀ base, OwnE P w K mg base "ratios_of" s_ratios_of ["row", "under"] 5 2 (phO f_ratios_of)) : LamTOk (cxOf CX0 P w K mg base ["good", "odd", "calls"] "_law_lists_right" (defScope s_law_lists_right) f (.ref c0) A outer s H E).nox 6 [1] (S_law_lists_right_10 (cellsFrom (s.heap.objs.size + 1) (defScope s_law_lists_right).names [])) := by
  refine ⟨fun c => nscope_by ns_law_lists_right_10, fun c pm ctv => rfl, fun ok c => Caps.made ok (ndef_free nd_law_lists_right_10) (ndef_fr nd_law_lists_right_10) rfl, (by show ∀ k ∈ ([0] : List Nat), k < ([1] : List Nat).length; decide), fun base c f2 A2 outer2 s2 H2 E2 hr => ?_⟩
  have tk : Takes (ncx (L2.CX P w) P w K mg base ["odd"] (li l_law_lists_right_10 q_law_lists_right (cellsFrom (s.heap.objs.size + 1) (defScope s_law_lists_right).names []) c).nf f2 A2 outer2 s2 H2 E2) (fun cls d _ H => E2 cls d H) := takes_of rfl rfl rfl rfl
  exact (pdx_call tk (oE_ratios_of base) (hr.mono (by decide)) (fun _ _ _ _ _ _ us hl => match us, hl with | [_, _], _ => rfl) (pda_cons (pd_var 0) (pda_cons pd_int pda_nil)))
theorem ok_law_lists_right_11 {f c0 : Addr} {A : Around} {outer : List Env} {s : Shared} {H : Hp} {E : XK} (oE_row_product : ∀ base, OwnE P w K mg base "row_product" s_row_product ["row", "other"] 6 2 (phO f_row_product)) : LamTOk (cxOf CX0 P w K mg base ["good", "odd", "calls"] "_law_lists_right" (defScope s_law_lists_right) f (.ref c0) A outer s H E).nox 6 [1] (S_law_lists_right_11 (cellsFrom (s.heap.objs.size + 1) (defScope s_law_lists_right).names [])) := by
  refine ⟨fun c => nscope_by ns_law_lists_right_11, fun c pm ctv => rfl, fun ok c => Caps.made ok (ndef_free nd_law_lists_right_11) (ndef_fr nd_law_lists_right_11) rfl, (by show ∀ k ∈ ([0] : List Nat), k < ([1] : List Nat).length; decide), fun base c f2 A2 outer2 s2 H2 E2 hr => ?_⟩
  have tk : Takes (ncx (L2.CX P w) P w K mg base ["odd"] (li l_law_lists_right_11 q_law_lists_right (cellsFrom (s.heap.objs.size + 1) (defScope s_law_lists_right).names []) c).nf f2 A2 outer2 s2 H2 E2) (fun cls d _ H => E2 cls d H) := takes_of rfl rfl rfl rfl
  exact (pdx_call tk (oE_row_product base) (hr.mono (by decide)) (fun _ _ _ _ _ _ us hl => match us, hl with | [_, _], _ => rfl) (pda_cons (pd_var 0) (pda_cons (pd_tup (pda_cons pd_int (pda_cons pd_int (pda_cons pd_int pda_nil)))) pda_nil)))
theorem okB_law_lists_right_b1 {f c0 : Addr} {A : Around} {outer : List Env} {s : Shared} {H : Hp} {E : XK} (oE_row_product : ∀ base, OwnE P w K mg base "row_product" s_row_product ["row", "other"] 6 2 (phO f_row_product)) (oE_row_sum : ∀ base, OwnE P w K mg base "row_sum" s_row_sum ["row", "other"] 6 2 (phO f_row_sum)) (oE_row_taken : ∀ base, OwnE P w K mg base "row_taken" s_row_taken ["row", "number"] 5 2 (phO f_row_taken)) (oE_row_divisor : ∀ base, OwnE P w K mg base "row_divisor" s_row_divisor ["row"] 5 1 (phO f_row_divisor)) (oE_row_reduced : ∀ base, OwnE P w K mg base "row_reduced" s_row_reduced ["row"] 6 1 (phO f_row_reduced)) (oE_ratios_of : ∀ base, OwnE P w K mg base "ratios_of" s_ratios_of ["row", "under"] 5 2 (phO f_ratios_of)) : ∀ S ∈ Ss_law_lists_right_b1 (cellsFrom (s.heap.objs.size + 1) (defScope s_law_lists_right).names []), LamTOk (cxOf CX0 P w K mg base ["good", "odd", "calls"] "_law_lists_right" (defScope s_law_lists_right) f (.ref c0) A outer s H E).nox 6 [1] S := List.forall_mem_cons.mpr ⟨ok_law_lists_right_2 oE_row_product, List.forall_mem_cons.mpr ⟨ok_law_lists_right_3 oE_row_sum, List.forall_mem_cons.mpr ⟨ok_law_lists_right_4 oE_row_product, List.forall_mem_cons.mpr ⟨ok_law_lists_right_5 oE_row_sum, List.forall_mem_cons.mpr ⟨ok_law_lists_right_6 oE_row_taken, List.forall_mem_cons.mpr ⟨ok_law_lists_right_7 oE_row_divisor, List.forall_mem_cons.mpr ⟨ok_law_lists_right_8 oE_row_reduced, List.forall_mem_cons.mpr ⟨ok_law_lists_right_9 oE_ratios_of, List.forall_mem_cons.mpr ⟨ok_law_lists_right_10 oE_ratios_of, List.forall_mem_cons.mpr ⟨ok_law_lists_right_11 oE_row_product, fun _ z => nomatch z⟩⟩⟩⟩⟩⟩⟩⟩⟩⟩
theorem ok_law_lists_right_12 {f c0 : Addr} {A : Around} {outer : List Env} {s : Shared} {H : Hp} {E : XK} (oE_row_product : ∀ base, OwnE P w K mg base "row_product" s_row_product ["row", "other"] 6 2 (phO f_row_product)) : LamTOk (cxOf CX0 P w K mg base ["good", "odd", "calls"] "_law_lists_right" (defScope s_law_lists_right) f (.ref c0) A outer s H E).nox 6 [] (S_law_lists_right_12 (cellsFrom (s.heap.objs.size + 1) (defScope s_law_lists_right).names [])) := by
  refine ⟨fun c => nscope_by ns_law_lists_right_12, fun c pm ctv => rfl, fun ok c => Caps.made ok (ndef_free nd_law_lists_right_12) (ndef_fr nd_law_lists_right_12) rfl, (by show ∀ k ∈ ([] : List Nat), k < ([] : List Nat).length; decide), fun base c f2 A2 outer2 s2 H2 E2 hr => ?_⟩
  have tk : Takes (ncx (L2.CX P w) P w K mg base [] (li l_law_lists_right_12 q_law_lists_right (cellsFrom (s.heap.objs.size + 1) (defScope s_law_lists_right).names []) c).nf f2 A2 outer2 s2 H2 E2) (fun cls d _ H => E2 cls d H) := takes_of rfl rfl rfl rfl
  exact (pdx_call tk (oE_row_product base) (hr.mono (by decide)) (fun _ _ _ _ _ _ us hl => match us, hl with | [_, _], _ => rfl) (pda_cons (pd_tup (pda_cons pd_int (pda_cons pd_int pda_nil))) (pda_cons (pd_tup (pda_cons pd_int pda_nil)) pda_nil)))
theorem ok_law_lists_right_13 {f c0 : Addr} {A : Around} {outer : List Env} {s : Shared} {H : Hp} {E : XK} (oE_row_sum : ∀ base, OwnE P w K mg base "row_sum" s_row_sum ["row", "other"] 6 2 (phO f_row_sum)) : LamTOk (cxOf CX0 P w K mg base ["good", "odd", "calls"] "_law_lists_right" (defScope s_law_lists_right) f (.ref c0) A outer s H E).nox 6 [] (S_law_lists_right_13 (cellsFrom (s.heap.objs.size + 1) (defScope s_law_lists_right).names [])) := by
  refine ⟨fun c => nscope_by ns_law_lists_right_13, fun c pm ctv => rfl, fun ok c => Caps.made ok (ndef_free nd_law_lists_right_13) (ndef_fr nd_law_lists_right_13) rfl, (by show ∀ k ∈ ([] : List Nat), k < ([] : List Nat).length; decide), fun base c f2 A2 outer2 s2 H2 E2 hr => ?_⟩
  have tk : Takes (ncx (L2.CX P w) P w K mg base [] (li l_law_lists_right_13 q_law_lists_right (cellsFrom (s.heap.objs.size + 1) (defScope s_law_lists_right).names []) c).nf f2 A2 outer2 s2 H2 E2) (fun cls d _ H => E2 cls d H) := takes_of rfl rfl rfl rfl
  exact (pdx_call tk (oE_row_sum base) (hr.mono (by decide)) (fun _ _ _ _ _ _ us hl => match us, hl with | [_, _], _ => rfl) (pda_cons (pd_tup (pda_cons pd_int pda_nil)) (pda_cons (pd_tup (pda_cons pd_int (pda_cons pd_int pda_nil))) pda_nil)))
theorem okB_law_lists_right_b2 {f c0 : Addr} {A : Around} {outer : List Env} {s : Shared} {H : Hp} {E : XK} (oE_row_product : ∀ base, OwnE P w K mg base "row_product" s_row_product ["row", "other"] 6 2 (phO f_row_product)) (oE_row_sum : ∀ base, OwnE P w K mg base "row_sum" s_row_sum ["row", "other"] 6 2 (phO f_row_sum)) : ∀ S ∈ Ss_law_lists_right_b2 (cellsFrom (s.heap.objs.size + 1) (defScope s_law_lists_right).names []), LamTOk (cxOf CX0 P w K mg base ["good", "odd", "calls"] "_law_lists_right" (defScope s_law_lists_right) f (.ref c0) A outer s H E).nox 6 [] S := List.forall_mem_cons.mpr ⟨ok_law_lists_right_12 oE_row_product, List.forall_mem_cons.mpr ⟨ok_law_lists_right_13 oE_row_sum, fun _ z => nomatch z⟩⟩
theorem ok_law_lists_right_14 {f c0 : Addr} {A : Around} {outer : List Env} {s : Shared} {H : Hp} {E : XK} (oE_whole_row : ∀ base, OwnE P w K mg base "whole_row" s_whole_row ["ratios"] 5 1 phE_whole_row) : LamTOk (cxOf CX0 P w K mg base ["good", "odd", "calls"] "_law_lists_right" (defScope s_law_lists_right) f (.ref c0) A outer s H E).nox 6 [0] (S_law_lists_right_14 (cellsFrom (s.heap.objs.size + 1) (defScope s_law_lists_right).names [])) := by
  refine ⟨fun c => nscope_by ns_law_lists_right_14, fun c pm ctv => rfl, fun ok c => Caps.made ok (ndef_free nd_law_lists_right_14) (ndef_fr nd_law_lists_right_14) rfl, (by show ∀ k ∈ ([0] : List Nat), k < ([0] : List Nat).length; decide), fun base c f2 A2 outer2 s2 H2 E2 hr => ?_⟩
  have tk : Takes (ncx (L2.CX P w) P w K mg base ["good"] (li l_law_lists_right_14 q_law_lists_right (cellsFrom (s.heap.objs.size + 1) (defScope s_law_lists_right).names []) c).nf f2 A2 outer2 s2 H2 E2) (fun cls d _ H => E2 cls d H) := takes_of rfl rfl rfl rfl
  exact (pdx_call tk (oE_whole_row base) (hr.mono (by decide)) (fun _ _ _ _ _ _ us hl => match us, hl with | [_], _ => rfl) (pda_cons (pd_mulA (pd_tup (pda_cons (pd_var 0) pda_nil)) pd_int) pda_nil))
theorem ok_law_lists_right_15 {f c0 : Addr} {A : Around} {outer : List Env} {s : Shared} {H : Hp} {E : XK} (oE_row_divisor : ∀ base, OwnE P w K mg base "row_divisor" s_row_divisor ["row"] 5 1 (phO f_row_divisor)) : LamTOk (cxOf CX0 P w K mg base ["good", "odd", "calls"] "_law_lists_right" (defScope s_law_lists_right) f (.ref c0) A outer s H E).nox 6 [0] (S_law_lists_right_15 (cellsFrom (s.heap.objs.size + 1) (defScope s_law_lists_right).names [])) := by
  refine ⟨fun c => nscope_by ns_law_lists_right_15, fun c pm ctv => rfl, fun ok c => Caps.made ok (ndef_free nd_law_lists_right_15) (ndef_fr nd_law_lists_right_15) rfl, (by show ∀ k ∈ ([] : List Nat), k < ([0] : List Nat).length; decide), fun base c f2 A2 outer2 s2 H2 E2 hr => ?_⟩
  have tk : Takes (ncx (L2.CX P w) P w K mg base [] (li l_law_lists_right_15 q_law_lists_right (cellsFrom (s.heap.objs.size + 1) (defScope s_law_lists_right).names []) c).nf f2 A2 outer2 s2 H2 E2) (fun cls d _ H => E2 cls d H) := takes_of rfl rfl rfl rfl
  exact (pdx_call tk (oE_row_divisor base) (hr.mono (by decide)) (fun _ _ _ _ _ _ us hl => match us, hl with | [_], _ => rfl) (pda_cons (pd_mulA (pd_tup (pda_cons pd_int pda_nil)) pd_int) pda_nil))
theorem okB_law_lists_right_b3 {f c0 : Addr} {A : Around} {outer : List Env} {s : Shared} {H : Hp} {E : XK} (oE_row_divisor : ∀ base, OwnE P w K mg base "row_divisor" s_row_divisor ["row"] 5 1 (phO f_row_divisor)) (oE_whole_row : ∀ base, OwnE P w K mg base "whole_row" s_whole_row ["ratios"] 5 1 phE_whole_row) : ∀ S ∈ Ss_law_lists_right_b3 (cellsFrom (s.heap.objs.size + 1) (defScope s_law_lists_right).names []), LamTOk (cxOf CX0 P w K mg base ["good", "odd", "calls"] "_law_lists_right" (defScope s_law_lists_right) f (.ref c0) A outer s H E).nox 6 [0] S := List.forall_mem_cons.mpr ⟨ok_law_lists_right_14 oE_whole_row, List.forall_mem_cons.mpr ⟨ok_law_lists_right_15 oE_row_divisor, fun _ z => nomatch z⟩⟩
theorem ow_law_lists_right {c0 : Addr} (hm : ∃ f fd, Fun K "_law_lists_right" "_law_lists_right" s_law_lists_right f fd ∧ mg "_law_lists_right" = some (.ref f))
    (hcode : ∀ f fd, Fun K "_law_lists_right" "_law_lists_right" s_law_lists_right f fd → mg "_law_lists_right" = some (.ref f) → fd.code = .ref c0) (TB : LamX.TabB base mg c0 (Tabs.T 2))
    (z_list : mg "list" = none) (z_repr : mg "repr" = none) (oT : OwnT P w K mg "_law_all" s_all ["calls", "due"] 7 10 2 (allF told)) (oE_row_product : ∀ base, OwnE P w K mg base "row_product" s_row_product ["row", "other"] 6 2 (phO f_row_product)) (oE_row_sum : ∀ base, OwnE P w K mg base "row_sum" s_row_sum ["row", "other"] 6 2 (phO f_row_sum)) (oE_row_taken : ∀ base, OwnE P w K mg base "row_taken" s_row_taken ["row", "number"] 5 2 (phO f_row_taken)) (oE_row_divisor : ∀ base, OwnE P w K mg base "row_divisor" s_row_divisor ["row"] 5 1 (phO f_row_divisor)) (oE_row_reduced : ∀ base, OwnE P w K mg base "row_reduced" s_row_reduced ["row"] 6 1 (phO f_row_reduced)) (oE_common_under : ∀ base, OwnE P w K mg base "common_under" s_common_under ["ratios"] 4 1 phE_common_under) (oE_whole_row : ∀ base, OwnE P w K mg base "whole_row" s_whole_row ["ratios"] 5 1 phE_whole_row) (oE_ratios_of : ∀ base, OwnE P w K mg base "ratios_of" s_ratios_of ["row", "under"] 5 2 (phO f_ratios_of))  (hp : ∀ cl, Pure ["good", "odd", "calls"] 1 ph_law_lists_right (ds_law_lists_right cl)) : Own P w K mg base "_law_lists_right" s_law_lists_right ["good"] 11 1 ph_law_lists_right := by
  obtain ⟨f, fd, F, hf⟩ := hm
  refine ⟨f, fd, F, okDC F sc_law_lists_right rfl (fun cdv hc A outer s H E hr => ?_) hp, hf⟩
  have e := hcode f fd F hf
  rw [hc] at e
  subst e
  exact (pds_cons (pd_for PassesOwn.never rfl (pdi_seq (pd_lst (pda_cons pd_non (pda_cons pd_int (pda_cons pd_bl (pda_cons pd_str (pda_cons (pd_tup pda_nil) (pda_cons (pd_lst pda_nil) (pda_cons pd_dctD (pda_cons (pd_mulC (pd_lstC (pda_cons (pd_var 0) pda_nil)) pd_int) (pda_cons (pd_lst (pda_cons pd_int pda_nil)) (pda_cons (pd_lst (pda_cons pd_non pda_nil)) (pda_cons (pd_lst (pda_cons (pd_var 0) (pda_cons (pd_tup (pda_cons pd_int (pda_cons pd_int pda_nil))) pda_nil))) (pda_cons (pd_var 0) (pda_cons (pd_lst (pda_cons (pd_list  (pda_cons (pd_var 0) pda_nil) z_list) pda_nil)) pda_nil))))))))))))))) (pdg_name (i := 1) sc_law_lists_right.nd (hx := Or.inr rfl)) (pds_cut (pds_ap (i := 2) sc_law_lists_right.nd (pda_cons (pd_lam TB rfl (fun c => rfl) rfl rfl (ndef_free nd_law_lists_right_0) : PD _ (.Lambda (lP l_law_lists_right_0) (lB l_law_lists_right_0) (lS l_law_lists_right_0) (lPos l_law_lists_right_0)) (dLam 2 (Tabs.T 2) q_law_lists_right (li l_law_lists_right_0 q_law_lists_right (cellsFrom (s.heap.objs.size + 1) (defScope s_law_lists_right).names [])))) pda_nil)
      (pap_one (pd_lam TB rfl (fun c => rfl) rfl rfl (ndef_free nd_law_lists_right_1) : PD _ (.Lambda (lP l_law_lists_right_1) (lB l_law_lists_right_1) (lS l_law_lists_right_1) (lPos l_law_lists_right_1)) (dLam 2 (Tabs.T 2) q_law_lists_right (li l_law_lists_right_1 q_law_lists_right (cellsFrom (s.heap.objs.size + 1) (defScope s_law_lists_right).names []))))
      (pap_end (pds_one (pd_if (pdt_not (pdt_tru (pd_callT oT (hr.mono (by decide)) (fun _ => rfl) (okB_law_lists_right_b0 oE_common_under oE_whole_row) (fun _ _ _ _ _ _ us hl => match us, hl with | [_, _], _ => rfl) (pda_cons (pd_var 2) (pda_cons (pd_lst (pda_cons pd_str (pda_cons (pd_repr hr (pda_cons (pd_var 1) pda_nil) z_repr) (pda_cons pd_bl pda_nil)))) pda_nil))))) (pds_one (pd_ret pd_bl)) pds_nil)))))))
    (pds_cons (pd_for PassesOwn.never rfl (pdi_seq (pd_lst (pda_cons pd_non (pda_cons pd_int (pda_cons pd_bl (pda_cons pd_str (pda_cons (pd_lst (pda_cons pd_int (pda_cons pd_int pda_nil))) (pda_cons (pd_tup pda_nil) (pda_cons (pd_tup (pda_cons pd_int (pda_cons pd_bl pda_nil))) (pda_cons (pd_tup (pda_cons pd_int (pda_cons pd_non pda_nil))) (pda_cons (pd_mulA (pd_tup (pda_cons pd_int pda_nil)) pd_int) (pda_cons (pd_tup (pda_cons (pd_tup (pda_cons pd_int pda_nil)) pda_nil)) (pda_cons pd_dctD (pda_cons (pd_tup (pda_cons pd_str pda_nil)) pda_nil)))))))))))))) (pdg_name (i := 1) sc_law_lists_right.nd (hx := Or.inr rfl)) (pds_cut (pds_ap (i := 2) sc_law_lists_right.nd (pda_cons (pd_lam TB rfl (fun c => rfl) rfl rfl (ndef_free nd_law_lists_right_2) : PD _ (.Lambda (lP l_law_lists_right_2) (lB l_law_lists_right_2) (lS l_law_lists_right_2) (lPos l_law_lists_right_2)) (dLam 2 (Tabs.T 2) q_law_lists_right (li l_law_lists_right_2 q_law_lists_right (cellsFrom (s.heap.objs.size + 1) (defScope s_law_lists_right).names [])))) pda_nil)
      (pap_one (pd_lam TB rfl (fun c => rfl) rfl rfl (ndef_free nd_law_lists_right_3) : PD _ (.Lambda (lP l_law_lists_right_3) (lB l_law_lists_right_3) (lS l_law_lists_right_3) (lPos l_law_lists_right_3)) (dLam 2 (Tabs.T 2) q_law_lists_right (li l_law_lists_right_3 q_law_lists_right (cellsFrom (s.heap.objs.size + 1) (defScope s_law_lists_right).names []))))
      (pap_one (pd_lam TB rfl (fun c => rfl) rfl rfl (ndef_free nd_law_lists_right_4) : PD _ (.Lambda (lP l_law_lists_right_4) (lB l_law_lists_right_4) (lS l_law_lists_right_4) (lPos l_law_lists_right_4)) (dLam 2 (Tabs.T 2) q_law_lists_right (li l_law_lists_right_4 q_law_lists_right (cellsFrom (s.heap.objs.size + 1) (defScope s_law_lists_right).names []))))
      (pap_one (pd_lam TB rfl (fun c => rfl) rfl rfl (ndef_free nd_law_lists_right_5) : PD _ (.Lambda (lP l_law_lists_right_5) (lB l_law_lists_right_5) (lS l_law_lists_right_5) (lPos l_law_lists_right_5)) (dLam 2 (Tabs.T 2) q_law_lists_right (li l_law_lists_right_5 q_law_lists_right (cellsFrom (s.heap.objs.size + 1) (defScope s_law_lists_right).names []))))
      (pap_one (pd_lam TB rfl (fun c => rfl) rfl rfl (ndef_free nd_law_lists_right_6) : PD _ (.Lambda (lP l_law_lists_right_6) (lB l_law_lists_right_6) (lS l_law_lists_right_6) (lPos l_law_lists_right_6)) (dLam 2 (Tabs.T 2) q_law_lists_right (li l_law_lists_right_6 q_law_lists_right (cellsFrom (s.heap.objs.size + 1) (defScope s_law_lists_right).names []))))
      (pap_one (pd_lam TB rfl (fun c => rfl) rfl rfl (ndef_free nd_law_lists_right_7) : PD _ (.Lambda (lP l_law_lists_right_7) (lB l_law_lists_right_7) (lS l_law_lists_right_7) (lPos l_law_lists_right_7)) (dLam 2 (Tabs.T 2) q_law_lists_right (li l_law_lists_right_7 q_law_lists_right (cellsFrom (s.heap.objs.size + 1) (defScope s_law_lists_right).names []))))
      (pap_one (pd_lam TB rfl (fun c => rfl) rfl rfl (ndef_free nd_law_lists_right_8) : PD _ (.Lambda (lP l_law_lists_right_8) (lB l_law_lists_right_8) (lS l_law_lists_right_8) (lPos l_law_lists_right_8)) (dLam 2 (Tabs.T 2) q_law_lists_right (li l_law_lists_right_8 q_law_lists_right (cellsFrom (s.heap.objs.size + 1) (defScope s_law_lists_right).names []))))
      (pap_one (pd_lam TB rfl (fun c => rfl) rfl rfl (ndef_free nd_law_lists_right_9) : PD _ (.Lambda (lP l_law_lists_right_9) (lB l_law_lists_right_9) (lS l_law_lists_right_9) (lPos l_law_lists_right_9)) (dLam 2 (Tabs.T 2) q_law_lists_right (li l_law_lists_right_9 q_law_lists_right (cellsFrom (s.heap.objs.size + 1) (defScope s_law_lists_right).names []))))
      (pap_one (pd_lam TB rfl (fun c => rfl) rfl rfl (ndef_free nd_law_lists_right_10) : PD _ (.Lambda (lP l_law_lists_right_10) (lB l_law_lists_right_10) (lS l_law_lists_right_10) (lPos l_law_lists_right_10)) (dLam 2 (Tabs.T 2) q_law_lists_right (li l_law_lists_right_10 q_law_lists_right (cellsFrom (s.heap.objs.size + 1) (defScope s_law_lists_right).names []))))
      (pap_one (pd_lam TB rfl (fun c => rfl) rfl rfl (ndef_free nd_law_lists_right_11) : PD _ (.Lambda (lP l_law_lists_right_11) (lB l_law_lists_right_11) (lS l_law_lists_right_11) (lPos l_law_lists_right_11)) (dLam 2 (Tabs.T 2) q_law_lists_right (li l_law_lists_right_11 q_law_lists_right (cellsFrom (s.heap.objs.size + 1) (defScope s_law_lists_right).names []))))
      (pap_end (pds_one (pd_if (pdt_not (pdt_tru (pd_callT oT (hr.mono (by decide)) (fun _ => rfl) (okB_law_lists_right_b1 oE_row_product oE_row_sum oE_row_taken oE_row_divisor oE_row_reduced oE_ratios_of) (fun _ _ _ _ _ _ us hl => match us, hl with | [_, _], _ => rfl) (pda_cons (pd_var 2) (pda_cons (pd_lst (pda_cons pd_str (pda_cons (pd_repr hr (pda_cons (pd_var 1) pda_nil) z_repr) (pda_cons pd_bl pda_nil)))) pda_nil))))) (pds_one (pd_ret pd_bl)) pds_nil)))))))))))))))
    (pds_app 3 (pds_cut (pds_ap (i := 2) sc_law_lists_right.nd (pda_cons (pd_lam TB rfl (fun c => rfl) rfl rfl (ndef_free nd_law_lists_right_12) : PD _ (.Lambda (lP l_law_lists_right_12) (lB l_law_lists_right_12) (lS l_law_lists_right_12) (lPos l_law_lists_right_12)) (dLam 2 (Tabs.T 2) q_law_lists_right (li l_law_lists_right_12 q_law_lists_right (cellsFrom (s.heap.objs.size + 1) (defScope s_law_lists_right).names [])))) pda_nil)
      (pap_one (pd_lam TB rfl (fun c => rfl) rfl rfl (ndef_free nd_law_lists_right_13) : PD _ (.Lambda (lP l_law_lists_right_13) (lB l_law_lists_right_13) (lS l_law_lists_right_13) (lPos l_law_lists_right_13)) (dLam 2 (Tabs.T 2) q_law_lists_right (li l_law_lists_right_13 q_law_lists_right (cellsFrom (s.heap.objs.size + 1) (defScope s_law_lists_right).names []))))
      (pap_end (pds_one (pd_if (pdt_not (pdt_tru (pd_callT oT (hr.mono (by decide)) (fun _ => rfl) (okB_law_lists_right_b2 oE_row_product oE_row_sum) (fun _ _ _ _ _ _ us hl => match us, hl with | [_, _], _ => rfl) (pda_cons (pd_var 2) (pda_cons (pd_lst (pda_cons pd_str (pda_cons pd_bl pda_nil))) pda_nil))))) (pds_one (pd_ret pd_bl)) pds_nil))))))
    (pds_ap (i := 2) sc_law_lists_right.nd (pda_cons (pd_lam TB rfl (fun c => rfl) rfl rfl (ndef_free nd_law_lists_right_14) : PD _ (.Lambda (lP l_law_lists_right_14) (lB l_law_lists_right_14) (lS l_law_lists_right_14) (lPos l_law_lists_right_14)) (dLam 2 (Tabs.T 2) q_law_lists_right (li l_law_lists_right_14 q_law_lists_right (cellsFrom (s.heap.objs.size + 1) (defScope s_law_lists_right).names [])))) pda_nil)
      (pap_one (pd_lam TB rfl (fun c => rfl) rfl rfl (ndef_free nd_law_lists_right_15) : PD _ (.Lambda (lP l_law_lists_right_15) (lB l_law_lists_right_15) (lS l_law_lists_right_15) (lPos l_law_lists_right_15)) (dLam 2 (Tabs.T 2) q_law_lists_right (li l_law_lists_right_15 q_law_lists_right (cellsFrom (s.heap.objs.size + 1) (defScope s_law_lists_right).names []))))
      (pap_end (pds_one (pd_ret (pd_callT oT (hr.mono (by decide)) (fun _ => rfl) (okB_law_lists_right_b3 oE_row_divisor oE_whole_row) (fun _ _ _ _ _ _ us hl => match us, hl with | [_, _], _ => rfl) (pda_cons (pd_var 2) (pda_cons (pd_lst (pda_cons pd_str pda_nil)) pda_nil)))))))))))
theorem ok_law_0 {f c0 : Addr} {A : Around} {outer : List Env} {s : Shared} {H : Hp} {E : XK} (oE_parse_ratio : ∀ base, OwnE P w K mg base "parse_ratio" s_parse_ratio ["text"] 4 1 (phO f_parse_ratio)) : LamTOk (cxOf CX0 P w K mg base ["script", "pot", "good", "odd"] "law" (defScope s_law) f (.ref c0) A outer s H E).nox 6 [3] (S_law_0 (cellsFrom (s.heap.objs.size + 1) (defScope s_law).names [])) := by
  refine ⟨fun c => nscope_by ns_law_0, fun c pm ctv => rfl, fun ok c => Caps.made ok (ndef_free nd_law_0) (ndef_fr nd_law_0) rfl, (by show ∀ k ∈ ([0] : List Nat), k < ([3] : List Nat).length; decide), fun base c f2 A2 outer2 s2 H2 E2 hr => ?_⟩
  have tk : Takes (ncx (L2.CX P w) P w K mg base ["odd"] (li l_law_0 q_law (cellsFrom (s.heap.objs.size + 1) (defScope s_law).names []) c).nf f2 A2 outer2 s2 H2 E2) (fun cls d _ H => E2 cls d H) := takes_of rfl rfl rfl rfl
  exact (pdx_callK0 (ks := ["text"]) [0] tk (oE_parse_ratio base) (hr.mono (by decide)) (by decide) (fun _ _ _ _ _ _ us ws h1 h2 => match us, ws, h1, h2 with | [], [_], _, _ => rfl) (pdk_cons (pd_var 0) pdk_nil))
theorem okB_law_b0 {f c0 : Addr} {A : Around} {outer : List Env} {s : Shared} {H : Hp} {E : XK} (oE_parse_ratio : ∀ base, OwnE P w K mg base "parse_ratio" s_parse_ratio ["text"] 4 1 (phO f_parse_ratio)) : ∀ S ∈ Ss_law_b0 (cellsFrom (s.heap.objs.size + 1) (defScope s_law).names []), LamTOk (cxOf CX0 P w K mg base ["script", "pot", "good", "odd"] "law" (defScope s_law) f (.ref c0) A outer s H E).nox 6 [3] S := List.forall_mem_cons.mpr ⟨ok_law_0 oE_parse_ratio, fun _ z => nomatch z⟩
theorem ok_law_1 {f c0 : Addr} {A : Around} {outer : List Env} {s : Shared} {H : Hp} {E : XK} (oE_parse_ratio : ∀ base, OwnE P w K mg base "parse_ratio" s_parse_ratio ["text"] 4 1 (phO f_parse_ratio)) : LamTOk (cxOf CX0 P w K mg base ["script", "pot", "good", "odd"] "law" (defScope s_law) f (.ref c0) A outer s H E).nox 6 [] (S_law_1 (cellsFrom (s.heap.objs.size + 1) (defScope s_law).names [])) := by
  refine ⟨fun c => nscope_by ns_law_1, fun c pm ctv => rfl, fun ok c => Caps.made ok (ndef_free nd_law_1) (ndef_fr nd_law_1) rfl, (by show ∀ k ∈ ([] : List Nat), k < ([] : List Nat).length; decide), fun base c f2 A2 outer2 s2 H2 E2 hr => ?_⟩
  have tk : Takes (ncx (L2.CX P w) P w K mg base [] (li l_law_1 q_law (cellsFrom (s.heap.objs.size + 1) (defScope s_law).names []) c).nf f2 A2 outer2 s2 H2 E2) (fun cls d _ H => E2 cls d H) := takes_of rfl rfl rfl rfl
  exact (pdx_call tk (oE_parse_ratio base) (hr.mono (by decide)) (fun _ _ _ _ _ _ us hl => match us, hl with | [_], _ => rfl) (pda_cons pd_str pda_nil))
theorem okB_law_b1 {f c0 : Addr} {A : Around} {outer : List Env} {s : Shared} {H : Hp} {E : XK} (oE_parse_ratio : ∀ base, OwnE P w K mg base "parse_ratio" s_parse_ratio ["text"] 4 1 (phO f_parse_ratio)) : ∀ S ∈ Ss_law_b1 (cellsFrom (s.heap.objs.size + 1) (defScope s_law).names []), LamTOk (cxOf CX0 P w K mg base ["script", "pot", "good", "odd"] "law" (defScope s_law) f (.ref c0) A outer s H E).nox 6 [] S := List.forall_mem_cons.mpr ⟨ok_law_1 oE_parse_ratio, fun _ z => nomatch z⟩
theorem fn_law {c0 : Addr} {f : Addr} {fd : FuncData} (F : Fun K "law" "law" s_law f fd) (hf : mg "law" = some (.ref f))
    (hcode : ∀ f fd, Fun K "law" "law" s_law f fd → mg "law" = some (.ref f) → fd.code = .ref c0) (TB : LamX.TabB base mg c0 (Tabs.T 3))
    (z_repr : mg "repr" = none) (oT : OwnT P w K mg "_law_all" s_all ["calls", "due"] 7 10 2 (allF told)) (oE_parse_ratio : ∀ base, OwnE P w K mg base "parse_ratio" s_parse_ratio ["text"] 4 1 (phO f_parse_ratio)) (o_law_pot : Own P w K mg base "_law_pot" s_law_pot ["script", "k"] 1 2 WL.ph_law_pot) (o_law_draw : Own P w K mg base "_law_draw" s_law_draw ["pot", "size"] 1 2 WL.ph_law_draw) (o_law_ratio : Own P w K mg base "_law_ratio" s_law_ratio ["number", "under"] 2 2 ph_law_ratio) (o_law_integers_right : Own P w K mg base "_law_integers_right" s_law_integers_right [] 11 0 ph_law_integers_right) (o_law_ratios_right : Own P w K mg base "_law_ratios_right" s_law_ratios_right ["good"] 11 1 ph_law_ratios_right) (o_law_lists_right : Own P w K mg base "_law_lists_right" s_law_lists_right ["good"] 11 1 ph_law_lists_right) (hp : ∀ cl, Pure ["script", "pot", "good", "odd"] 1 ph_law (ds_law cl)) : FnG P w K mg base CX0 12 f fd ["script"] (SpD K 1 ph_law) := by
  refine okDC F sc_law rfl (fun cdv hc A outer s H E hr => ?_) hp
  have e := hcode f fd F hf
  rw [hc] at e
  subst e
  exact (pds_cons (pd_set (i := 1) sc_law.nd (pd_call o_law_pot (hr.mono (by decide)) (fun _ _ _ _ _ _ us hl => match us, hl with | [_, _], _ => rfl) (pda_cons (pd_var 0) (pda_cons pd_int pda_nil))))
    (pds_cons (pd_set (i := 2) sc_law.nd (pd_call o_law_ratio (hr.mono (by decide)) (fun _ _ _ _ _ _ us hl => match us, hl with | [_, _], _ => rfl) (pda_cons (pd_sub (pd_call o_law_draw (hr.mono (by decide)) (fun _ _ _ _ _ _ us hl => match us, hl with | [_, _], _ => rfl) (pda_cons (pd_var 1) (pda_cons pd_int pda_nil))) pd_int) (pda_cons (pd_add pd_int (pd_call o_law_draw (hr.mono (by decide)) (fun _ _ _ _ _ _ us hl => match us, hl with | [_, _], _ => rfl) (pda_cons (pd_var 1) (pda_cons pd_int pda_nil)))) pda_nil))))
    (pds_cons (pd_if (PDW.pdt (pdw_or (pdt_not (pdt_tru (pd_call0 o_law_integers_right (hr.mono (by decide)) (fun _ _ _ _ _ _ us hl => match us, hl with | [], _ => rfl)))) (pdw_or (pdt_not (pdt_tru (pd_call o_law_ratios_right (hr.mono (by decide)) (fun _ _ _ _ _ _ us hl => match us, hl with | [_], _ => rfl) (pda_cons (pd_var 2) pda_nil)))) (pdw_or1 (pdt_not (pdt_tru (pd_call o_law_lists_right (hr.mono (by decide)) (fun _ _ _ _ _ _ us hl => match us, hl with | [_], _ => rfl) (pda_cons (pd_var 2) pda_nil)))))))) (pds_one (pd_ret pd_bl)) pds_nil)
    (pds_cons (pd_for PassesOwn.never rfl (pdi_seq (pd_lst (pda_cons pd_non (pda_cons pd_int (pda_cons pd_bl (pda_cons (pd_lst pda_nil) (pda_cons (pd_tup (pda_cons pd_str pda_nil)) (pda_cons pd_dctD (pda_cons (pd_tup (pda_cons pd_int (pda_cons pd_int pda_nil))) pda_nil))))))))) (pdg_name (i := 3) sc_law.nd (hx := Or.inr rfl)) (pds_cut (pds_one (pd_if (pdt_not (pdt_tru (pd_callT oT (hr.mono (by decide)) (fun _ => rfl) (okB_law_b0 oE_parse_ratio) (fun _ _ _ _ _ _ us hl => match us, hl with | [_, _], _ => rfl) (pda_cons (pd_lstR (pda_cons (pd_lam TB rfl (fun c => rfl) rfl rfl (ndef_free nd_law_0) : PD _ (.Lambda (lP l_law_0) (lB l_law_0) (lS l_law_0) (lPos l_law_0)) (dLam 3 (Tabs.T 3) q_law (li l_law_0 q_law (cellsFrom (s.heap.objs.size + 1) (defScope s_law).names [])))) pda_nil)) (pda_cons (pd_lst (pda_cons pd_str (pda_cons (pd_repr hr (pda_cons (pd_var 3) pda_nil) z_repr) (pda_cons pd_bl pda_nil)))) pda_nil))))) (pds_one (pd_ret pd_bl)) pds_nil))))
    (pds_one (pd_ret (pd_callT oT (hr.mono (by decide)) (fun _ => rfl) (okB_law_b1 oE_parse_ratio) (fun _ _ _ _ _ _ us hl => match us, hl with | [_, _], _ => rfl) (pda_cons (pd_lstR (pda_cons (pd_lam TB rfl (fun c => rfl) rfl rfl (ndef_free nd_law_1) : PD _ (.Lambda (lP l_law_1) (lB l_law_1) (lS l_law_1) (lPos l_law_1)) (dLam 3 (Tabs.T 3) q_law (li l_law_1 q_law (cellsFrom (s.heap.objs.size + 1) (defScope s_law).names [])))) pda_nil)) (pda_cons (pd_lst (pda_cons pd_str (pda_cons pd_str (pda_cons pd_bl pda_nil)))) pda_nil)))))))))
end
end K10
namespace K10
open PySem PySem.Spec PyProof.Rows L2 Evl DL LamX NdefX
open K11 (rat ratB rowB IsR gcdI)
open WL
section
variable [Cls] [Tabs]
theorem rdv {d : PyData} (hd : rowB d = false) : f_row_divisor [d] = .exc Cls.InvalidRow ("value" : Str) d := by
  cases d <;> simp [f_row_divisor, f_check_row, oChk, hd, Oc.sq]
theorem wn : isW .none = false := rfl
theorem wi {i : Int} : isW (.int i) = true := rfl
theorem r12 : rowB (.tuple [.int 1, .int 2]) = true := by decide
theorem r1 : rowB (.tuple [.int 1]) = true := by decide
theorem q12 : ratB (.tuple [.int 1, .int 2]) = true := by decide
theorem q01 : ratB (.tuple [.int 0, .int 1]) = true := by decide
theorem st0 : (PySem.Str.ofString "" : Str) = ⟨⟨[]⟩⟩ := rfl
theorem out_law_integers_right_b0 {d : PyData} (hd : isW d = false) (cl : List (Str × Addr)) : ∀ S ∈ Ss_law_integers_right_b0 cl, ∀ ν, OutI.of (fvOf S.N (S.sel.map (([d] : List PyData)[·]?)) S.de) ν (.exc Cls.InvalidInteger ("value" : Str) d) :=
  List.forall_mem_cons.mpr ⟨fun ν => out_exc fun R Q h => by
      have e : f_made [d, .none] = .exc Cls.InvalidInteger ("value" : Str) d := by simp [f_made, f_plus, f_minus, f_times, f_compared, f_over, f_floor_of, f_ceiling_of, f_ratio_text, f_parse_ratio, f_row_product, f_row_sum, f_row_taken, f_row_reduced, f_ratios_of, f_check_rows, f_check_row, f_check_ratios, f_check_ratio, f_check_integer, f_check_text, f_check_ratio_list, oStop, oBoth, oChk, noQ, hd, r12, wn, wi]
      show (dCallE 2 (phO f_made) (aCons (dVar 0) (aCons (dC .none) aNil)) R) [some (.dat d)] ν Q
      simp [e, eo_dCallEK, kp]
      first | exact h | exact ⟨by decide, h⟩,
    List.forall_mem_cons.mpr ⟨fun ν => out_exc fun R Q h => by
      have e : f_made [d, (.int 0)] = .exc Cls.InvalidInteger ("value" : Str) d := by simp [f_made, f_plus, f_minus, f_times, f_compared, f_over, f_floor_of, f_ceiling_of, f_ratio_text, f_parse_ratio, f_row_product, f_row_sum, f_row_taken, f_row_reduced, f_ratios_of, f_check_rows, f_check_row, f_check_ratios, f_check_ratio, f_check_integer, f_check_text, f_check_ratio_list, oStop, oBoth, oChk, noQ, hd, r12, wn, wi]
      show (dCallE 2 (phO f_made) (aCons (dVar 0) (aCons (dC (.int 0)) aNil)) R) [some (.dat d)] ν Q
      simp [e, eo_dCallEK, kp]
      first | exact h | exact ⟨by decide, h⟩,
    List.forall_mem_cons.mpr ⟨fun ν => out_exc fun R Q h => by
      have e : f_made [(.int 3), d] = .exc Cls.InvalidInteger ("value" : Str) d := by simp [f_made, f_plus, f_minus, f_times, f_compared, f_over, f_floor_of, f_ceiling_of, f_ratio_text, f_parse_ratio, f_row_product, f_row_sum, f_row_taken, f_row_reduced, f_ratios_of, f_check_rows, f_check_row, f_check_ratios, f_check_ratio, f_check_integer, f_check_text, f_check_ratio_list, oStop, oBoth, oChk, noQ, hd, r12, wn, wi]
      show (dCallEK 0 [1, 0] 2 (phO f_made) aNil (aCons (dVar 0) (aCons (dC (.int 3)) aNil)) R) [some (.dat d)] ν Q
      simp [e, eo_dCallEK, kp]
      first | exact h | exact ⟨by decide, h⟩,
    List.forall_mem_cons.mpr ⟨fun ν => out_exc fun R Q h => by
      have e : f_row_taken [(.tuple [(.int 1), (.int 2)]), d] = .exc Cls.InvalidInteger ("value" : Str) d := by simp [f_made, f_plus, f_minus, f_times, f_compared, f_over, f_floor_of, f_ceiling_of, f_ratio_text, f_parse_ratio, f_row_product, f_row_sum, f_row_taken, f_row_reduced, f_ratios_of, f_check_rows, f_check_row, f_check_ratios, f_check_ratio, f_check_integer, f_check_text, f_check_ratio_list, oStop, oBoth, oChk, noQ, hd, r12, wn, wi]
      show (dCallEK 0 [1, 0] 2 (phO f_row_taken) aNil (aCons (dVar 0) (aCons (dTup (aCons (dC (.int 1)) (aCons (dC (.int 2)) aNil))) aNil)) R) [some (.dat d)] ν Q
      simp [e, eo_dCallEK, kp]
      first | exact h | exact ⟨by decide, h⟩,
    List.forall_mem_cons.mpr ⟨fun ν => out_exc fun R Q h => by
      have e : f_ratios_of [(.tuple [(.int 1), (.int 2)]), d] = .exc Cls.InvalidInteger ("value" : Str) d := by simp [f_made, f_plus, f_minus, f_times, f_compared, f_over, f_floor_of, f_ceiling_of, f_ratio_text, f_parse_ratio, f_row_product, f_row_sum, f_row_taken, f_row_reduced, f_ratios_of, f_check_rows, f_check_row, f_check_ratios, f_check_ratio, f_check_integer, f_check_text, f_check_ratio_list, oStop, oBoth, oChk, noQ, hd, r12, wn, wi]
      show (dCallE 2 (phO f_ratios_of) (aCons (dTup (aCons (dC (.int 1)) (aCons (dC (.int 2)) aNil))) (aCons (dVar 0) aNil)) R) [some (.dat d)] ν Q
      simp [e, eo_dCallEK, kp]
      first | exact h | exact ⟨by decide, h⟩,
    fun _ z => nomatch z⟩⟩⟩⟩⟩
theorem out_law_integers_right_b1  (cl : List (Str × Addr)) : ∀ S ∈ Ss_law_integers_right_b1 cl, ∀ ν, OutI.of (fvOf S.N (S.sel.map (([] : List PyData)[·]?)) S.de) ν (.exc Cls.NoQuotient ("" : Str) .none) :=
  List.forall_mem_cons.mpr ⟨fun ν => out_exc fun R Q h => by
      have e : f_made [(.int 3), (.int 0)] = .exc Cls.NoQuotient ("" : Str) .none := by simp [f_made, f_plus, f_minus, f_times, f_compared, f_over, f_floor_of, f_ceiling_of, f_ratio_text, f_parse_ratio, f_row_product, f_row_sum, f_row_taken, f_row_reduced, f_ratios_of, f_check_rows, f_check_row, f_check_ratios, f_check_ratio, f_check_integer, f_check_text, f_check_ratio_list, oStop, oBoth, oChk, noQ, r12, wn, wi, q12, q01]
      show (dCallE 2 (phO f_made) (aCons (dC (.int 3)) (aCons (dC (.int 0)) aNil)) R) [] ν Q
      simp [e, eo_dCallEK, kp]
      first | exact h | exact ⟨by decide, h⟩,
    List.forall_mem_cons.mpr ⟨fun ν => out_exc fun R Q h => by
      have e : f_ratios_of [(.tuple [(.int 1), (.int 2)]), (.int 0)] = .exc Cls.NoQuotient ("" : Str) .none := by simp [f_made, f_plus, f_minus, f_times, f_compared, f_over, f_floor_of, f_ceiling_of, f_ratio_text, f_parse_ratio, f_row_product, f_row_sum, f_row_taken, f_row_reduced, f_ratios_of, f_check_rows, f_check_row, f_check_ratios, f_check_ratio, f_check_integer, f_check_text, f_check_ratio_list, oStop, oBoth, oChk, noQ, r12, wn, wi, q12, q01]
      show (dCallEK 0 [1, 0] 2 (phO f_ratios_of) aNil (aCons (dC (.int 0)) (aCons (dTup (aCons (dC (.int 1)) (aCons (dC (.int 2)) aNil))) aNil)) R) [] ν Q
      simp [e, eo_dCallEK, kp]
      first | exact h | exact ⟨by decide, h⟩,
    List.forall_mem_cons.mpr ⟨fun ν => out_exc fun R Q h => by
      have e : f_over [(.tuple [(.int 1), (.int 2)]), (.tuple [(.int 0), (.int 1)])] = .exc Cls.NoQuotient ("" : Str) .none := by simp [f_made, f_plus, f_minus, f_times, f_compared, f_over, f_floor_of, f_ceiling_of, f_ratio_text, f_parse_ratio, f_row_product, f_row_sum, f_row_taken, f_row_reduced, f_ratios_of, f_check_rows, f_check_row, f_check_ratios, f_check_ratio, f_check_integer, f_check_text, f_check_ratio_list, oStop, oBoth, oChk, noQ, r12, wn, wi, q12, q01]
      show (dCallE 2 (phO f_over) (aCons (dTup (aCons (dC (.int 1)) (aCons (dC (.int 2)) aNil))) (aCons (dTup (aCons (dC (.int 0)) (aCons (dC (.int 1)) aNil))) aNil)) R) [] ν Q
      simp [e, eo_dCallEK, kp]
      first | exact h | exact ⟨by decide, h⟩,
    fun _ z => nomatch z⟩⟩⟩
theorem out_law_ratios_right_b0 {n u : Int} (hg : ratB (rat n u) = true) {d : PyData} (hd : ratB d = false) (cl : List (Str × Addr)) : ∀ S ∈ Ss_law_ratios_right_b0 cl, ∀ ν, OutI.of (fvOf S.N (S.sel.map (([(rat n u), d] : List PyData)[·]?)) S.de) ν (.exc Cls.InvalidRatio ("value" : Str) d) :=
  List.forall_mem_cons.mpr ⟨fun ν => out_exc fun R Q h => by
      have e : f_plus [d, .none] = .exc Cls.InvalidRatio ("value" : Str) d := by simp [f_made, f_plus, f_minus, f_times, f_compared, f_over, f_floor_of, f_ceiling_of, f_ratio_text, f_parse_ratio, f_row_product, f_row_sum, f_row_taken, f_row_reduced, f_ratios_of, f_check_rows, f_check_row, f_check_ratios, f_check_ratio, f_check_integer, f_check_text, f_check_ratio_list, oStop, oBoth, oChk, noQ, hd, hg]
      show (dCallE 2 (phO f_plus) (aCons (dVar 0) (aCons (dC .none) aNil)) R) [some (.dat d)] ν Q
      simp [e, eo_dCallEK, kp]
      first | exact h | exact ⟨by decide, h⟩,
    List.forall_mem_cons.mpr ⟨fun ν => out_exc fun R Q h => by
      have e : f_minus [d, .none] = .exc Cls.InvalidRatio ("value" : Str) d := by simp [f_made, f_plus, f_minus, f_times, f_compared, f_over, f_floor_of, f_ceiling_of, f_ratio_text, f_parse_ratio, f_row_product, f_row_sum, f_row_taken, f_row_reduced, f_ratios_of, f_check_rows, f_check_row, f_check_ratios, f_check_ratio, f_check_integer, f_check_text, f_check_ratio_list, oStop, oBoth, oChk, noQ, hd, hg]
      show (dCallEK 0 [0, 1] 2 (phO f_minus) aNil (aCons (dVar 0) (aCons (dC .none) aNil)) R) [some (.dat d)] ν Q
      simp [e, eo_dCallEK, kp]
      first | exact h | exact ⟨by decide, h⟩,
    List.forall_mem_cons.mpr ⟨fun ν => out_exc fun R Q h => by
      have e : f_times [d, .none] = .exc Cls.InvalidRatio ("value" : Str) d := by simp [f_made, f_plus, f_minus, f_times, f_compared, f_over, f_floor_of, f_ceiling_of, f_ratio_text, f_parse_ratio, f_row_product, f_row_sum, f_row_taken, f_row_reduced, f_ratios_of, f_check_rows, f_check_row, f_check_ratios, f_check_ratio, f_check_integer, f_check_text, f_check_ratio_list, oStop, oBoth, oChk, noQ, hd, hg]
      show (dCallE 2 (phO f_times) (aCons (dVar 0) (aCons (dC .none) aNil)) R) [some (.dat d)] ν Q
      simp [e, eo_dCallEK, kp]
      first | exact h | exact ⟨by decide, h⟩,
    List.forall_mem_cons.mpr ⟨fun ν => out_exc fun R Q h => by
      have e : f_over [d, .none] = .exc Cls.InvalidRatio ("value" : Str) d := by simp [f_made, f_plus, f_minus, f_times, f_compared, f_over, f_floor_of, f_ceiling_of, f_ratio_text, f_parse_ratio, f_row_product, f_row_sum, f_row_taken, f_row_reduced, f_ratios_of, f_check_rows, f_check_row, f_check_ratios, f_check_ratio, f_check_integer, f_check_text, f_check_ratio_list, oStop, oBoth, oChk, noQ, hd, hg]
      show (dCallE 2 (phO f_over) (aCons (dVar 0) (aCons (dC .none) aNil)) R) [some (.dat d)] ν Q
      simp [e, eo_dCallEK, kp]
      first | exact h | exact ⟨by decide, h⟩,
    List.forall_mem_cons.mpr ⟨fun ν => out_exc fun R Q h => by
      have e : f_over [d, (.tuple [(.int 0), (.int 1)])] = .exc Cls.InvalidRatio ("value" : Str) d := by simp [f_made, f_plus, f_minus, f_times, f_compared, f_over, f_floor_of, f_ceiling_of, f_ratio_text, f_parse_ratio, f_row_product, f_row_sum, f_row_taken, f_row_reduced, f_ratios_of, f_check_rows, f_check_row, f_check_ratios, f_check_ratio, f_check_integer, f_check_text, f_check_ratio_list, oStop, oBoth, oChk, noQ, hd, hg]
      show (dCallE 2 (phO f_over) (aCons (dVar 0) (aCons (dTup (aCons (dC (.int 0)) (aCons (dC (.int 1)) aNil))) aNil)) R) [some (.dat d)] ν Q
      simp [e, eo_dCallEK, kp]
      first | exact h | exact ⟨by decide, h⟩,
    List.forall_mem_cons.mpr ⟨fun ν => out_exc fun R Q h => by
      have e : f_compared [d, .none] = .exc Cls.InvalidRatio ("value" : Str) d := by simp [f_made, f_plus, f_minus, f_times, f_compared, f_over, f_floor_of, f_ceiling_of, f_ratio_text, f_parse_ratio, f_row_product, f_row_sum, f_row_taken, f_row_reduced, f_ratios_of, f_check_rows, f_check_row, f_check_ratios, f_check_ratio, f_check_integer, f_check_text, f_check_ratio_list, oStop, oBoth, oChk, noQ, hd, hg]
      show (dCallE 2 (phO f_compared) (aCons (dVar 0) (aCons (dC .none) aNil)) R) [some (.dat d)] ν Q
      simp [e, eo_dCallEK, kp]
      first | exact h | exact ⟨by decide, h⟩,
    List.forall_mem_cons.mpr ⟨fun ν => out_exc fun R Q h => by
      have e : f_plus [(rat n u), d] = .exc Cls.InvalidRatio ("value" : Str) d := by simp [f_made, f_plus, f_minus, f_times, f_compared, f_over, f_floor_of, f_ceiling_of, f_ratio_text, f_parse_ratio, f_row_product, f_row_sum, f_row_taken, f_row_reduced, f_ratios_of, f_check_rows, f_check_row, f_check_ratios, f_check_ratio, f_check_integer, f_check_text, f_check_ratio_list, oStop, oBoth, oChk, noQ, hd, hg]
      show (dCallE 2 (phO f_plus) (aCons (dVar 0) (aCons (dVar 1) aNil)) R) [some (.dat (rat n u)), some (.dat d)] ν Q
      simp [e, eo_dCallEK, kp]
      first | exact h | exact ⟨by decide, h⟩,
    List.forall_mem_cons.mpr ⟨fun ν => out_exc fun R Q h => by
      have e : f_minus [(rat n u), d] = .exc Cls.InvalidRatio ("value" : Str) d := by simp [f_made, f_plus, f_minus, f_times, f_compared, f_over, f_floor_of, f_ceiling_of, f_ratio_text, f_parse_ratio, f_row_product, f_row_sum, f_row_taken, f_row_reduced, f_ratios_of, f_check_rows, f_check_row, f_check_ratios, f_check_ratio, f_check_integer, f_check_text, f_check_ratio_list, oStop, oBoth, oChk, noQ, hd, hg]
      show (dCallEK 0 [1, 0] 2 (phO f_minus) aNil (aCons (dVar 1) (aCons (dVar 0) aNil)) R) [some (.dat (rat n u)), some (.dat d)] ν Q
      simp [e, eo_dCallEK, kp]
      first | exact h | exact ⟨by decide, h⟩,
    List.forall_mem_cons.mpr ⟨fun ν => out_exc fun R Q h => by
      have e : f_times [(rat n u), d] = .exc Cls.InvalidRatio ("value" : Str) d := by simp [f_made, f_plus, f_minus, f_times, f_compared, f_over, f_floor_of, f_ceiling_of, f_ratio_text, f_parse_ratio, f_row_product, f_row_sum, f_row_taken, f_row_reduced, f_ratios_of, f_check_rows, f_check_row, f_check_ratios, f_check_ratio, f_check_integer, f_check_text, f_check_ratio_list, oStop, oBoth, oChk, noQ, hd, hg]
      show (dCallE 2 (phO f_times) (aCons (dVar 0) (aCons (dVar 1) aNil)) R) [some (.dat (rat n u)), some (.dat d)] ν Q
      simp [e, eo_dCallEK, kp]
      first | exact h | exact ⟨by decide, h⟩,
    List.forall_mem_cons.mpr ⟨fun ν => out_exc fun R Q h => by
      have e : f_over [(rat n u), d] = .exc Cls.InvalidRatio ("value" : Str) d := by simp [f_made, f_plus, f_minus, f_times, f_compared, f_over, f_floor_of, f_ceiling_of, f_ratio_text, f_parse_ratio, f_row_product, f_row_sum, f_row_taken, f_row_reduced, f_ratios_of, f_check_rows, f_check_row, f_check_ratios, f_check_ratio, f_check_integer, f_check_text, f_check_ratio_list, oStop, oBoth, oChk, noQ, hd, hg]
      show (dCallEK 0 [1, 0] 2 (phO f_over) aNil (aCons (dVar 1) (aCons (dVar 0) aNil)) R) [some (.dat (rat n u)), some (.dat d)] ν Q
      simp [e, eo_dCallEK, kp]
      first | exact h | exact ⟨by decide, h⟩,
    List.forall_mem_cons.mpr ⟨fun ν => out_exc fun R Q h => by
      have e : f_compared [(rat n u), d] = .exc Cls.InvalidRatio ("value" : Str) d := by simp [f_made, f_plus, f_minus, f_times, f_compared, f_over, f_floor_of, f_ceiling_of, f_ratio_text, f_parse_ratio, f_row_product, f_row_sum, f_row_taken, f_row_reduced, f_ratios_of, f_check_rows, f_check_row, f_check_ratios, f_check_ratio, f_check_integer, f_check_text, f_check_ratio_list, oStop, oBoth, oChk, noQ, hd, hg]
      show (dCallE 2 (phO f_compared) (aCons (dVar 0) (aCons (dVar 1) aNil)) R) [some (.dat (rat n u)), some (.dat d)] ν Q
      simp [e, eo_dCallEK, kp]
      first | exact h | exact ⟨by decide, h⟩,
    List.forall_mem_cons.mpr ⟨fun ν => out_exc fun R Q h => by
      have e : f_floor_of [d] = .exc Cls.InvalidRatio ("value" : Str) d := by simp [f_made, f_plus, f_minus, f_times, f_compared, f_over, f_floor_of, f_ceiling_of, f_ratio_text, f_parse_ratio, f_row_product, f_row_sum, f_row_taken, f_row_reduced, f_ratios_of, f_check_rows, f_check_row, f_check_ratios, f_check_ratio, f_check_integer, f_check_text, f_check_ratio_list, oStop, oBoth, oChk, noQ, hd, hg]
      show (dCallE 1 (phO f_floor_of) (aCons (dVar 0) aNil) R) [some (.dat d)] ν Q
      simp [e, eo_dCallEK, kp]
      first | exact h | exact ⟨by decide, h⟩,
    List.forall_mem_cons.mpr ⟨fun ν => out_exc fun R Q h => by
      have e : f_ceiling_of [d] = .exc Cls.InvalidRatio ("value" : Str) d := by simp [f_made, f_plus, f_minus, f_times, f_compared, f_over, f_floor_of, f_ceiling_of, f_ratio_text, f_parse_ratio, f_row_product, f_row_sum, f_row_taken, f_row_reduced, f_ratios_of, f_check_rows, f_check_row, f_check_ratios, f_check_ratio, f_check_integer, f_check_text, f_check_ratio_list, oStop, oBoth, oChk, noQ, hd, hg]
      show (dCallEK 0 [0] 1 (phO f_ceiling_of) aNil (aCons (dVar 0) aNil) R) [some (.dat d)] ν Q
      simp [e, eo_dCallEK, kp]
      first | exact h | exact ⟨by decide, h⟩,
    List.forall_mem_cons.mpr ⟨fun ν => out_exc fun R Q h => by
      have e : f_ratio_text [d] = .exc Cls.InvalidRatio ("value" : Str) d := by simp [f_made, f_plus, f_minus, f_times, f_compared, f_over, f_floor_of, f_ceiling_of, f_ratio_text, f_parse_ratio, f_row_product, f_row_sum, f_row_taken, f_row_reduced, f_ratios_of, f_check_rows, f_check_row, f_check_ratios, f_check_ratio, f_check_integer, f_check_text, f_check_ratio_list, oStop, oBoth, oChk, noQ, hd, hg]
      show (dCallE 1 (phO f_ratio_text) (aCons (dVar 0) aNil) R) [some (.dat d)] ν Q
      simp [e, eo_dCallEK, kp]
      first | exact h | exact ⟨by decide, h⟩,
    fun _ z => nomatch z⟩⟩⟩⟩⟩⟩⟩⟩⟩⟩⟩⟩⟩⟩
theorem out_law_lists_right_b0 {d : PyData} (hd : ratsB d = false) (cl : List (Str × Addr)) : ∀ S ∈ Ss_law_lists_right_b0 cl, ∀ ν, OutI.of (fvOf S.N (S.sel.map (([d] : List PyData)[·]?)) S.de) ν (.exc Cls.InvalidRatios ("value" : Str) d) :=
  List.forall_mem_cons.mpr ⟨fun ν => out_exc fun R Q h => by
      show (dCallE 1 phE_common_under (aCons (dVar 0) aNil) R) [some (.dat d)] ν Q
      simp [eo_dCallEK, kp]
      exact ⟨_, rfl, .inl ⟨hd, h⟩⟩,
    List.forall_mem_cons.mpr ⟨fun ν => out_exc fun R Q h => by
      show (dCallEK 0 [0] 1 phE_whole_row aNil (aCons (dVar 0) aNil) R) [some (.dat d)] ν Q
      simp [eo_dCallEK, kp]
      exact ⟨_, rfl, .inl ⟨hd, h⟩⟩,
    fun _ z => nomatch z⟩⟩
theorem out_law_lists_right_b1 {d : PyData} (hd : rowB d = false) (cl : List (Str × Addr)) : ∀ S ∈ Ss_law_lists_right_b1 cl, ∀ ν, OutI.of (fvOf S.N (S.sel.map (([d] : List PyData)[·]?)) S.de) ν (.exc Cls.InvalidRow ("value" : Str) d) :=
  List.forall_mem_cons.mpr ⟨fun ν => out_exc fun R Q h => by
      have e : f_row_product [d, .none] = .exc Cls.InvalidRow ("value" : Str) d := by simp [f_made, f_plus, f_minus, f_times, f_compared, f_over, f_floor_of, f_ceiling_of, f_ratio_text, f_parse_ratio, f_row_product, f_row_sum, f_row_taken, f_row_reduced, f_ratios_of, f_check_rows, f_check_row, f_check_ratios, f_check_ratio, f_check_integer, f_check_text, f_check_ratio_list, oStop, oBoth, oChk, noQ, hd, r12, rdv hd]
      show (dCallE 2 (phO f_row_product) (aCons (dVar 0) (aCons (dC .none) aNil)) R) [some (.dat d)] ν Q
      simp [e, eo_dCallEK, kp]
      first | exact h | exact ⟨by decide, h⟩,
    List.forall_mem_cons.mpr ⟨fun ν => out_exc fun R Q h => by
      have e : f_row_sum [d, .none] = .exc Cls.InvalidRow ("value" : Str) d := by simp [f_made, f_plus, f_minus, f_times, f_compared, f_over, f_floor_of, f_ceiling_of, f_ratio_text, f_parse_ratio, f_row_product, f_row_sum, f_row_taken, f_row_reduced, f_ratios_of, f_check_rows, f_check_row, f_check_ratios, f_check_ratio, f_check_integer, f_check_text, f_check_ratio_list, oStop, oBoth, oChk, noQ, hd, r12, rdv hd]
      show (dCallEK 0 [0, 1] 2 (phO f_row_sum) aNil (aCons (dVar 0) (aCons (dC .none) aNil)) R) [some (.dat d)] ν Q
      simp [e, eo_dCallEK, kp]
      first | exact h | exact ⟨by decide, h⟩,
    List.forall_mem_cons.mpr ⟨fun ν => out_exc fun R Q h => by
      have e : f_row_product [(.tuple [(.int 1), (.int 2)]), d] = .exc Cls.InvalidRow ("value" : Str) d := by simp [f_made, f_plus, f_minus, f_times, f_compared, f_over, f_floor_of, f_ceiling_of, f_ratio_text, f_parse_ratio, f_row_product, f_row_sum, f_row_taken, f_row_reduced, f_ratios_of, f_check_rows, f_check_row, f_check_ratios, f_check_ratio, f_check_integer, f_check_text, f_check_ratio_list, oStop, oBoth, oChk, noQ, hd, r12, rdv hd]
      show (dCallE 2 (phO f_row_product) (aCons (dTup (aCons (dC (.int 1)) (aCons (dC (.int 2)) aNil))) (aCons (dVar 0) aNil)) R) [some (.dat d)] ν Q
      simp [e, eo_dCallEK, kp]
      first | exact h | exact ⟨by decide, h⟩,
    List.forall_mem_cons.mpr ⟨fun ν => out_exc fun R Q h => by
      have e : f_row_sum [(.tuple [(.int 1), (.int 2)]), d] = .exc Cls.InvalidRow ("value" : Str) d := by simp [f_made, f_plus, f_minus, f_times, f_compared, f_over, f_floor_of, f_ceiling_of, f_ratio_text, f_parse_ratio, f_row_product, f_row_sum, f_row_taken, f_row_reduced, f_ratios_of, f_check_rows, f_check_row, f_check_ratios, f_check_ratio, f_check_integer, f_check_text, f_check_ratio_list, oStop, oBoth, oChk, noQ, hd, r12, rdv hd]
      show (dCallEK 0 [1, 0] 2 (phO f_row_sum) aNil (aCons (dVar 0) (aCons (dTup (aCons (dC (.int 1)) (aCons (dC (.int 2)) aNil))) aNil)) R) [some (.dat d)] ν Q
      simp [e, eo_dCallEK, kp]
      first | exact h | exact ⟨by decide, h⟩,
    List.forall_mem_cons.mpr ⟨fun ν => out_exc fun R Q h => by
      have e : f_row_taken [d, .none] = .exc Cls.InvalidRow ("value" : Str) d := by simp [f_made, f_plus, f_minus, f_times, f_compared, f_over, f_floor_of, f_ceiling_of, f_ratio_text, f_parse_ratio, f_row_product, f_row_sum, f_row_taken, f_row_reduced, f_ratios_of, f_check_rows, f_check_row, f_check_ratios, f_check_ratio, f_check_integer, f_check_text, f_check_ratio_list, oStop, oBoth, oChk, noQ, hd, r12, rdv hd]
      show (dCallE 2 (phO f_row_taken) (aCons (dVar 0) (aCons (dC .none) aNil)) R) [some (.dat d)] ν Q
      simp [e, eo_dCallEK, kp]
      first | exact h | exact ⟨by decide, h⟩,
    List.forall_mem_cons.mpr ⟨fun ν => out_exc fun R Q h => by
      have e : f_row_divisor [d] = .exc Cls.InvalidRow ("value" : Str) d := by simp [f_made, f_plus, f_minus, f_times, f_compared, f_over, f_floor_of, f_ceiling_of, f_ratio_text, f_parse_ratio, f_row_product, f_row_sum, f_row_taken, f_row_reduced, f_ratios_of, f_check_rows, f_check_row, f_check_ratios, f_check_ratio, f_check_integer, f_check_text, f_check_ratio_list, oStop, oBoth, oChk, noQ, hd, r12, rdv hd]
      show (dCallE 1 (phO f_row_divisor) (aCons (dVar 0) aNil) R) [some (.dat d)] ν Q
      simp [e, eo_dCallEK, kp]
      first | exact h | exact ⟨by decide, h⟩,
    List.forall_mem_cons.mpr ⟨fun ν => out_exc fun R Q h => by
      have e : f_row_reduced [d] = .exc Cls.InvalidRow ("value" : Str) d := by simp [f_made, f_plus, f_minus, f_times, f_compared, f_over, f_floor_of, f_ceiling_of, f_ratio_text, f_parse_ratio, f_row_product, f_row_sum, f_row_taken, f_row_reduced, f_ratios_of, f_check_rows, f_check_row, f_check_ratios, f_check_ratio, f_check_integer, f_check_text, f_check_ratio_list, oStop, oBoth, oChk, noQ, hd, r12, rdv hd]
      show (dCallEK 0 [0] 1 (phO f_row_reduced) aNil (aCons (dVar 0) aNil) R) [some (.dat d)] ν Q
      simp [e, eo_dCallEK, kp]
      first | exact h | exact ⟨by decide, h⟩,
    List.forall_mem_cons.mpr ⟨fun ν => out_exc fun R Q h => by
      have e : f_ratios_of [d, .none] = .exc Cls.InvalidRow ("value" : Str) d := by simp [f_made, f_plus, f_minus, f_times, f_compared, f_over, f_floor_of, f_ceiling_of, f_ratio_text, f_parse_ratio, f_row_product, f_row_sum, f_row_taken, f_row_reduced, f_ratios_of, f_check_rows, f_check_row, f_check_ratios, f_check_ratio, f_check_integer, f_check_text, f_check_ratio_list, oStop, oBoth, oChk, noQ, hd, r12, rdv hd]
      show (dCallE 2 (phO f_ratios_of) (aCons (dVar 0) (aCons (dC .none) aNil)) R) [some (.dat d)] ν Q
      simp [e, eo_dCallEK, kp]
      first | exact h | exact ⟨by decide, h⟩,
    List.forall_mem_cons.mpr ⟨fun ν => out_exc fun R Q h => by
      have e : f_ratios_of [d, (.int 0)] = .exc Cls.InvalidRow ("value" : Str) d := by simp [f_made, f_plus, f_minus, f_times, f_compared, f_over, f_floor_of, f_ceiling_of, f_ratio_text, f_parse_ratio, f_row_product, f_row_sum, f_row_taken, f_row_reduced, f_ratios_of, f_check_rows, f_check_row, f_check_ratios, f_check_ratio, f_check_integer, f_check_text, f_check_ratio_list, oStop, oBoth, oChk, noQ, hd, r12, rdv hd]
      show (dCallE 2 (phO f_ratios_of) (aCons (dVar 0) (aCons (dC (.int 0)) aNil)) R) [some (.dat d)] ν Q
      simp [e, eo_dCallEK, kp]
      first | exact h | exact ⟨by decide, h⟩,
    List.forall_mem_cons.mpr ⟨fun ν => out_exc fun R Q h => by
      have e : f_row_product [d, (.tuple [(.int 1), (.int 2), (.int 3)])] = .exc Cls.InvalidRow ("value" : Str) d := by simp [f_made, f_plus, f_minus, f_times, f_compared, f_over, f_floor_of, f_ceiling_of, f_ratio_text, f_parse_ratio, f_row_product, f_row_sum, f_row_taken, f_row_reduced, f_ratios_of, f_check_rows, f_check_row, f_check_ratios, f_check_ratio, f_check_integer, f_check_text, f_check_ratio_list, oStop, oBoth, oChk, noQ, hd, r12, rdv hd]
      show (dCallE 2 (phO f_row_product) (aCons (dVar 0) (aCons (dTup (aCons (dC (.int 1)) (aCons (dC (.int 2)) (aCons (dC (.int 3)) aNil)))) aNil)) R) [some (.dat d)] ν Q
      simp [e, eo_dCallEK, kp]
      first | exact h | exact ⟨by decide, h⟩,
    fun _ z => nomatch z⟩⟩⟩⟩⟩⟩⟩⟩⟩⟩
theorem out_law_lists_right_b2  (cl : List (Str × Addr)) : ∀ S ∈ Ss_law_lists_right_b2 cl, ∀ ν, OutI.of (fvOf S.N (S.sel.map (([] : List PyData)[·]?)) S.de) ν (.exc Cls.UnlikeLengths ("" : Str) .none) :=
  List.forall_mem_cons.mpr ⟨fun ν => out_exc fun R Q h => by
      have e : f_row_product [(.tuple [(.int 1), (.int 2)]), (.tuple [(.int 1)])] = .exc Cls.UnlikeLengths ("" : Str) .none := by simp [f_made, f_plus, f_minus, f_times, f_compared, f_over, f_floor_of, f_ceiling_of, f_ratio_text, f_parse_ratio, f_row_product, f_row_sum, f_row_taken, f_row_reduced, f_ratios_of, f_check_rows, f_check_row, f_check_ratios, f_check_ratio, f_check_integer, f_check_text, f_check_ratio_list, oStop, oBoth, oChk, noQ, r12, r1, lenD]
      show (dCallE 2 (phO f_row_product) (aCons (dTup (aCons (dC (.int 1)) (aCons (dC (.int 2)) aNil))) (aCons (dTup (aCons (dC (.int 1)) aNil)) aNil)) R) [] ν Q
      simp [e, eo_dCallEK, kp]
      first | exact h | exact ⟨by decide, h⟩,
    List.forall_mem_cons.mpr ⟨fun ν => out_exc fun R Q h => by
      have e : f_row_sum [(.tuple [(.int 1)]), (.tuple [(.int 1), (.int 2)])] = .exc Cls.UnlikeLengths ("" : Str) .none := by simp [f_made, f_plus, f_minus, f_times, f_compared, f_over, f_floor_of, f_ceiling_of, f_ratio_text, f_parse_ratio, f_row_product, f_row_sum, f_row_taken, f_row_reduced, f_ratios_of, f_check_rows, f_check_row, f_check_ratios, f_check_ratio, f_check_integer, f_check_text, f_check_ratio_list, oStop, oBoth, oChk, noQ, r12, r1, lenD]
      show (dCallE 2 (phO f_row_sum) (aCons (dTup (aCons (dC (.int 1)) aNil)) (aCons (dTup (aCons (dC (.int 1)) (aCons (dC (.int 2)) aNil))) aNil)) R) [] ν Q
      simp [e, eo_dCallEK, kp]
      first | exact h | exact ⟨by decide, h⟩,
    fun _ z => nomatch z⟩⟩
theorem out_law_b0 {d : PyData} (hd : isS d = false) (cl : List (Str × Addr)) : ∀ S ∈ Ss_law_b0 cl, ∀ ν, OutI.of (fvOf S.N (S.sel.map (([d] : List PyData)[·]?)) S.de) ν (.exc Cls.InvalidText ("value" : Str) d) :=
  List.forall_mem_cons.mpr ⟨fun ν => out_exc fun R Q h => by
      have e : f_parse_ratio [d] = .exc Cls.InvalidText ("value" : Str) d := by simp [f_made, f_plus, f_minus, f_times, f_compared, f_over, f_floor_of, f_ceiling_of, f_ratio_text, f_parse_ratio, f_row_product, f_row_sum, f_row_taken, f_row_reduced, f_ratios_of, f_check_rows, f_check_row, f_check_ratios, f_check_ratio, f_check_integer, f_check_text, f_check_ratio_list, oStop, oBoth, oChk, noQ, hd]
      show (dCallEK 0 [0] 1 (phO f_parse_ratio) aNil (aCons (dVar 0) aNil) R) [some (.dat d)] ν Q
      simp [e, eo_dCallEK, kp]
      first | exact h | exact ⟨by decide, h⟩,
    fun _ z => nomatch z⟩
theorem out_law_b1  (cl : List (Str × Addr)) : ∀ S ∈ Ss_law_b1 cl, ∀ ν, OutI.of (fvOf S.N (S.sel.map (([] : List PyData)[·]?)) S.de) ν (.exc Cls.BadText ("position" : Str) (.int 0)) :=
  List.forall_mem_cons.mpr ⟨fun ν => out_exc fun R Q h => by
      have e : f_parse_ratio [(.str (PySem.Str.ofString ""))] = .exc Cls.BadText ("position" : Str) (.int 0) := by simp [f_made, f_plus, f_minus, f_times, f_compared, f_over, f_floor_of, f_ceiling_of, f_ratio_text, f_parse_ratio, f_row_product, f_row_sum, f_row_taken, f_row_reduced, f_ratios_of, f_check_rows, f_check_row, f_check_ratios, f_check_ratio, f_check_integer, f_check_text, f_check_ratio_list, oStop, oBoth, oChk, noQ, isS, st0]
      show (dCallE 1 (phO f_parse_ratio) (aCons (dC (.str (PySem.Str.ofString ""))) aNil) R) [] ν Q
      simp [e, eo_dCallEK, kp]
      first | exact h | exact ⟨by decide, h⟩,
    fun _ z => nomatch z⟩
end
end K10
namespace K13
open PySem PySem.Spec PyProof.Rows L2 Evl DL
open WL
open K11 (T rat IsR gcdI Dg isDg digE ratL sgL)
open TL (numL tl tl_append ext_tl)
section
variable {μ ν : Mu} {Q : DQ} {n u i j : Int} {l : List Nat} {z y : Str} {d : PyData} {C : Addr} {R : RQF}
end
end K13
namespace K13
open PySem PySem.Spec PyProof.Rows L2 Evl DL
open WL
open K11 (T rat IsR gcdI Dg isDg digE ratL sgL)
section
variable {μ ν : Mu} {Q : DQ} {n u i j : Int} {l : List Nat} {z y : Str} {d : PyData} {C : Addr} {R : RQF}
end
end K13
namespace K13
open PySem PySem.Spec PyProof.Rows L2 Evl DL
open WL
open K11 (T rat IsR gcdI Dg isDg digE ratL sgL)
section
variable {μ ν : Mu} {Q : DQ} {n u i j : Int} {l : List Nat} {z y : Str} {d : PyData} {k : Nat}
end
end K13
namespace K11
open PySem PySem.Spec PyProof.Rows L2 Evl DL
open WL
open K52 (intsL eq_ints)
section
variable {μ ν : Mu} {Q : DQ} {n u i j a b : Int} {z y : Str} {d : PyData} {k : Nat} {xs : List Int}
instance (n : Int) : Decidable (Dg n) := inferInstanceAs (Decidable (_ < _))
end
end K11
namespace K11
open PySem PySem.Spec PyProof.Rows L2 Evl DL
open WL
section
variable {μ ν : Mu} {Q : DQ} {n u i j a b : Int} {z y : Str} {d : PyData} {k : Nat} {xs : List Int}
end
end K11
namespace K13
open PySem PySem.Spec PyProof.Rows L2 Evl DL
open WL
open K11 (T rat IsR gcdI Dg isDg digE ratL sgL)
open TL (numL)
section
variable {μ ν : Mu} {Q : DQ} {n u i j : Int} {l : List Nat} {z y : Str} {d : PyData} {k : Nat}
theorem red_isR (hu : 1 ≤ u) : IsR (redN n u) (redD n u) ∧ (redN n u).natAbs ≤ n.natAbs ∧ (redD n u).natAbs ≤ u.natAbs := by
  have gp := gcd_pos (n := n) hu
  have d1 : gcdI n u ∣ n := Int.gcd_dvd_left n u
  have d2 : gcdI n u ∣ u := Int.gcd_dvd_right n u
  obtain ⟨n', hn⟩ := d1
  obtain ⟨u', hu'⟩ := d2
  generalize eg : gcdI n u = g at *
  have g0 : g ≠ 0 := by omega
  have e1 : redN n u = n' := by
    unfold redN
    rw [eg, hn, Int.mul_fdiv_cancel_left _ g0]
  have e2 : redD n u = u' := by
    unfold redD
    rw [eg, hu', Int.mul_fdiv_cancel_left _ g0]
  rw [e1, e2]
  have u1 : 1 ≤ u' := by
    refine Int.not_lt.mp fun z => ?_
    have := Int.mul_nonpos_of_nonneg_of_nonpos (show 0 ≤ g by omega) (show u' ≤ 0 by omega)
    omega
  refine ⟨⟨u1, ?_⟩, ?_, ?_⟩
  · have h1 : gcdI n u = ((g.natAbs * Nat.gcd n'.natAbs u'.natAbs : Nat) : Int) := by
      unfold gcdI
      rw [hn, hu', Int.natAbs_mul, Int.natAbs_mul, Nat.gcd_mul_left]
    rw [eg] at h1
    have h3 := congrArg Int.natAbs h1
    rw [Int.natAbs_natCast] at h3
    have h2 : g.natAbs * Nat.gcd n'.natAbs u'.natAbs = g.natAbs * 1 := by
      rw [Nat.mul_one]
      exact h3.symm
    have := Nat.eq_of_mul_eq_mul_left (by omega : 0 < g.natAbs) h2
    unfold gcdI
    rw [this]
    rfl
  · rw [hn, Int.natAbs_mul]
    exact Nat.le_mul_of_pos_left _ (by omega)
  · rw [hu', Int.natAbs_mul]
    exact Nat.le_mul_of_pos_left _ (by omega)
end
end K13
namespace K10
open PySem PySem.Spec PyProof.Rows L2 Evl DL LamX NdefX
open K11 (rat ratB rowB IsR gcdI)
open WL
section
variable [Cls] [Tabs] {μ : Mu} {Q : DQ} {d : PyData}
def okRb (d : PyData) : Bool := d.showable && ((!d.hasDict || (match d with | .dict [] => true | _ => false)) && (decide (d.depth ≤ 64) && decide (d.shown.length ≤ sizeLine)))
theorem okR_b (h : okRb d = true) : okR d := by
  unfold okRb at h
  simp only [Bool.and_eq_true, Bool.or_eq_true, decide_eq_true_eq, Bool.not_eq_true'] at h
  obtain ⟨h1, h2, h3, h4⟩ := h
  refine ⟨h1, ?_, h3, h4⟩
  rcases h2 with h2 | h2
  · exact .inl h2
  · split at h2
    · exact .inr rfl
    · cases h2
theorem told3 {C : Addr} {f : Str} {its : List ItK} (hc : (⟨C, f, its⟩ : ClI) ∈ ([clInt Cls.InvalidInteger, clRat Cls.InvalidRatio, clRats Cls.InvalidRatios, clRow Cls.InvalidRow] ++ [clText Cls.InvalidText, clBad Cls.BadText, clQuo Cls.NoQuotient, clLen Cls.UnlikeLengths])) (ho : okR d) (hl : its.length ≤ sizeLine) : told (.exc C f d) (its.map (ItK.val d)) :=
  Told.exc (⟨C, f, its⟩ : ClI) d hc (fun i _ => by cases i <;> first | exact ho | exact trivial) hl
theorem t_int (ho : okR d) : told (.exc Cls.InvalidInteger ("value" : Str) d) [.str (PySem.Str.ofString "integer"), .str d.shown, .bool true] := told3 (f := "value") (its := [.str "integer", .rep, .is]) (by simp [clInt]) ho (by decide)
theorem t_rat (ho : okR d) : told (.exc Cls.InvalidRatio ("value" : Str) d) [.str (PySem.Str.ofString "ratio"), .str d.shown, .bool true] := told3 (f := "value") (its := [.str "ratio", .rep, .is]) (by simp [clRat]) ho (by decide)
theorem t_rats (ho : okR d) : told (.exc Cls.InvalidRatios ("value" : Str) d) [.str (PySem.Str.ofString "ratios"), .str d.shown, .bool true] := told3 (f := "value") (its := [.str "ratios", .rep, .is]) (by simp [clRats]) ho (by decide)
theorem t_row (ho : okR d) : told (.exc Cls.InvalidRow ("value" : Str) d) [.str (PySem.Str.ofString "row"), .str d.shown, .bool true] := told3 (f := "value") (its := [.str "row", .rep, .is]) (by simp [clRow]) ho (by decide)
theorem t_text (ho : okR d) : told (.exc Cls.InvalidText ("value" : Str) d) [.str (PySem.Str.ofString "text"), .str d.shown, .bool true] := told3 (f := "value") (its := [.str "text", .rep, .is]) (by simp [clText]) ho (by decide)
theorem t_bad : told (.exc Cls.BadText ("position" : Str) (.int 0)) [.str (PySem.Str.ofString "bad"), .str (PySem.Str.ofString "0"), .bool true] := told3 (f := "position") (its := [.str "bad", .rep, .is]) (by simp [clBad]) (okR_b (by decide +kernel)) (by decide)
theorem t_quo : told (.exc Cls.NoQuotient ("" : Str) .none) [.str (PySem.Str.ofString "quotient"), .bool true] := told3 (f := "") (its := [.str "quotient", .is]) (by simp [clQuo]) (okR_b (by decide +kernel)) (by decide)
theorem t_len : told (.exc Cls.UnlikeLengths ("" : Str) .none) [.str (PySem.Str.ofString "lengths"), .bool true] := told3 (f := "") (its := [.str "lengths", .is]) (by simp [clLen]) (okR_b (by decide +kernel)) (by decide)
def flatB : PyData → Bool
  | .str z => PyData.strOk z
  | .bool _ => true
  | _ => false
theorem sh_flat {ds : List PyData} (h : ds.all flatB = true) : SeqAt.shaped (.list ds) = true := (Sh.list (n := 0) fun x hx => by
  have := List.all_eq_true.mp h x hx
  cases x with
  | bool b => exact .bool
  | str z => exact ⟨by simpa only [PyData.canLay0, flatB] using this, by simp [PyData.depth]⟩
  | _ => simp [flatB] at this).ok (by decide)
theorem ev_flat : ∀ {ds : List PyData}, ds.all flatB = true → PyData.eqvAll ds ds = true
  | [], _ => by simp [PyData.eqvAll]
  | x :: r, h => by
    rw [List.all_cons, Bool.and_eq_true] at h
    have ih := ev_flat h.2
    have hx := h.1
    cases x <;> first | (simp [PyData.eqvAll, PyData.eqv, ih]; done) | cases hx
theorem evL_flat {ds : List PyData} (h : ds.all flatB = true) : PyData.eqv (.list ds) (.list ds) = true := by
  simp [PyData.eqv, ev_flat h]
theorem sh3 {a b : Str} (ha : PyData.strOk a = true) (hb : PyData.strOk b = true) : SeqAt.shaped (.list [.str a, .str b, .bool true]) = true := sh_flat (by simp [flatB, ha, hb])
def okO (d : PyData) : Bool := okRb d && PyData.strOk d.shown
theorem ev3 (a b : Str) : PyData.eqv (.list [.str a, .str b, .bool true]) (.list [.str a, .str b, .bool true]) = true := by simp [PyData.eqv, PyData.eqvAll]
theorem due3 {i : Nat} {a : Str} {d : PyData} {ρ : Rho} (hi : ρ[i]? = some (some (.dat d))) (ho : okR d) (q : Q (.dat (.list [.str a, .str d.shown, .bool true])) μ) : dLst (aCons (dC (.str a)) (aCons (dCB fRepr (aCons (dVar i) aNil)) (aCons (dC (.bool true)) aNil))) ρ μ Q := by
  have r : ∀ Q : DQ, Q (.dat (.str d.shown)) μ → fRepr [.dat d] μ Q := fun Q q => ⟨ho, q⟩
  simp [hi]
  exact r _ ⟨show 3 ≤ sizeLine by decide, q⟩
theorem good_in {n u : Int} (h : GoodR n u) : n ∈ ([-4, -3, -2, -1, 0, 1, 2, 3, 4] : List Int) ∧ u ∈ ([1, 2, 3, 4] : List Int) := by
  obtain ⟨_, h1, h2, h3⟩ := h
  refine ⟨?_, ?_⟩
  · simp only [List.mem_cons, List.not_mem_nil, or_false]
    omega
  · simp only [List.mem_cons, List.not_mem_nil, or_false]
    omega
theorem e_dDctD {ρ : Rho} : dDctD ρ μ Q = Q (.dat (.dict [])) μ := rfl
theorem pu_law_integers_right (cl : List (Str × Addr)) : Pure ["odd", "calls"] 0 ph_law_integers_right (ds_law_integers_right cl) := by
  intro ss μ Q' hl h
  obtain ⟨rfl, ⟨hk, hμ⟩, h⟩ := h
  have L : ∀ d ∈ ([.none, .bool true, .bool false, .str (PySem.Str.ofString "1"), .tuple [.int 1, .int 1], .list [.int 1], .dict [], .tuple []] : List PyData), (!isW d && okO d) = true := by
    rw [← List.all_eq_true]
    decide +kernel
  show dFor (iSeq _) (gN 0) _ _ [none, none] μ
  refine for_lit (ds := [.none, .bool true, .bool false, .str (PySem.Str.ofString "1"), .tuple [.int 1, .int 1], .list [.int 1], .dict [], .tuple []]) (fun R h => by simp (decide := true) [e_dDctD]; exact h) ?_
  refine for_turns (C := fun ν => rd ν (.dat (.list [.none, .bool true, .bool false, .str (PySem.Str.ofString "1"), .tuple [.int 1, .int 1], .list [.int 1], .dict [], .tuple []])) = some (.list [.none, .bool true, .bool false, .str (PySem.Str.ofString "1"), .tuple [.int 1, .int 1], .list [.int 1], .dict [], .tuple []])) rfl (fun ρ => ∃ v, ρ = [v, none]) _ _ ⟨none, rfl⟩ (fun d hd ρ e N hN => ?_) (fun ρ e => ?_)
  · obtain ⟨v, rfl⟩ := e
    have hd' := L d hd
    simp only [okO, Bool.and_eq_true, Bool.not_eq_true'] at hd'
    have ho := okR_b hd'.2.1
    have hs := hd'.2.2
    show dCut _ _ [some (.dat d), none] μ
    refine blk_step (ds := [d]) (due := [.str (PySem.Str.ofString "integer"), .str d.shown, .bool true]) (show 1 < 2 by decide) hk (show 5 ≤ sizeLine by decide) rfl hμ (sh3 (by decide +kernel) hs) (ev3 _ _) (fun es ν Q q => due3 rfl ho q) (fun es => rfl) (alike (t_int ho) (out_law_integers_right_b0 hd'.1 cl)) (fun es => hN _ ⟨some (.dat d), rfl⟩)
  · obtain ⟨v, rfl⟩ := e
    refine blk_ret (ds := []) (due := [.str (PySem.Str.ofString "quotient"), .bool true]) (show 1 < 2 by decide) hk (show 3 ≤ sizeLine by decide) rfl hμ (sh_flat (by decide +kernel)) (evL_flat (by decide +kernel)) (fun es ν Q q => ?_) (fun es => rfl) (alike t_quo (out_law_integers_right_b1 cl)) fun fcs => fin_blk hμ h
    simp
    first | exact q | exact ⟨by decide, q⟩
end
end K10
namespace K10
open PySem PySem.Spec PyProof.Rows L2 Evl DL LamX NdefX
open K11 (rat ratB rowB IsR gcdI)
open WL
section
variable [Cls] [Tabs] {μ : Mu} {Q : DQ} {d : PyData}
def odds1 : List PyData := [.none, .int 1, .bool true, .str (PySem.Str.ofString "1/2"), .list [.int 1, .int 2], .tuple [.int 1], .tuple [.int 1, .int 2, .int 3], .tuple [.int 2, .int 4], .tuple [.int 1, .int 0], .tuple [.int 1, .int (-2)], .tuple [.int 0, .int 2], .tuple [.bool true, .int 1], .tuple [.int 1, .bool true], .tuple [.str (PySem.Str.ofString "1"), .int 2]]
def odds2 : List PyData := [.tuple [], .dict [], .tuple [.int (-2), .int 4], .tuple [.tuple [.int 1, .int 2]]]
theorem odds_ok : ∀ d ∈ odds1 ++ odds2, (!ratB d && okO d) = true := by
  rw [← List.all_eq_true]
  decide +kernel
theorem pu_law_ratios_right (cl : List (Str × Addr)) : Pure ["good", "odds", "odd", "calls"] 1 ph_law_ratios_right (ds_law_ratios_right cl) := by
  intro ss μ Q' hl h
  obtain ⟨n, u, rfl, hg, ⟨hk, hμ⟩, h⟩ := h
  have hr : ratB (rat n u) = true := decide_eq_true hg.1
  have e1 : ∀ (ρ : Rho) (R : DQ), R (.dat (.list odds1)) μ → dLst (aCons (dC .none) (aCons (dC (.int 1)) (aCons (dC (.bool true)) (aCons (dC (.str (PySem.Str.ofString "1/2"))) (aCons (dLst (aCons (dC (.int 1)) (aCons (dC (.int 2)) aNil))) (aCons (dTup (aCons (dC (.int 1)) aNil)) (aCons (dTup (aCons (dC (.int 1)) (aCons (dC (.int 2)) (aCons (dC (.int 3)) aNil)))) (aCons (dTup (aCons (dC (.int 2)) (aCons (dC (.int 4)) aNil))) (aCons (dTup (aCons (dC (.int 1)) (aCons (dC (.int 0)) aNil))) (aCons (dTup (aCons (dC (.int 1)) (aCons (dUn rNeg (dC (.int 2))) aNil))) (aCons (dTup (aCons (dC (.int 0)) (aCons (dC (.int 2)) aNil))) (aCons (dTup (aCons (dC (.bool true)) (aCons (dC (.int 1)) aNil))) (aCons (dTup (aCons (dC (.int 1)) (aCons (dC (.bool true)) aNil))) (aCons (dTup (aCons (dC (.str (PySem.Str.ofString "1"))) (aCons (dC (.int 2)) aNil))) aNil)))))))))))))) ρ μ R := fun ρ R h => by
    simp (decide := true) [e_dDctD]
    exact h
  simp only [ds_law_ratios_right, e_dSeq, e_dAsg, startD, List.map_cons, List.map_nil, List.length_cons, List.length_nil, List.replicate, List.cons_append, List.nil_append]
  refine e1 _ _ ?_
  simp only [List.set_cons_succ, List.set_cons_zero]
  refine for_lit (ds := odds1 ++ odds2) (fun R h => ?_) ?_
  · simp (decide := true) [e_dDctD]
    show _ ≤ sizeLine ∧ R (.dat (.list (odds1 ++ odds2))) μ
    exact ⟨by decide, h⟩
  refine for_turns (C := fun ν => rd ν (.dat (.list (odds1 ++ odds2))) = some (.list (odds1 ++ odds2))) rfl (fun ρ => ∃ v, ρ = [some (.dat (rat n u)), some (.dat (.list odds1)), v, none]) _ _ ⟨none, rfl⟩ (fun d hd ρ e N hN => ?_) (fun ρ e => ?_)
  · obtain ⟨v, rfl⟩ := e
    have hd' := odds_ok d hd
    simp only [okO, Bool.and_eq_true, Bool.not_eq_true'] at hd'
    have ho := okR_b hd'.2.1
    have hs := hd'.2.2
    show dCut _ _ [some (.dat (rat n u)), some (.dat (.list odds1)), some (.dat d), none] μ
    refine blk_step (ds := [rat n u, d]) (due := [.str (PySem.Str.ofString "ratio"), .str d.shown, .bool true]) (show 3 < 4 by decide) hk (show 14 ≤ sizeLine by decide) rfl hμ (sh3 (by decide +kernel) hs) (ev3 _ _) (fun es ν Q q => due3 rfl ho q) (fun es => rfl) (alike (t_rat ho) (out_law_ratios_right_b0 hr hd'.1 cl)) (fun es => hN _ ⟨some (.dat d), rfl⟩)
  · obtain ⟨v, rfl⟩ := e
    simp
    exact h
end
end K10
namespace K10
open PySem PySem.Spec PyProof.Rows L2 Evl DL LamX NdefX
open K11 (rat ratB rowB IsR gcdI Rq)
open WL
section
variable [Cls] [Tabs] {μ : Mu} {Q : DQ} {d : PyData} {n u : Int}
theorem strOk_app {a b : Str} (ha : PyData.strOk a = true) (hb : PyData.strOk b = true) : PyData.strOk (a ++ b) = true := by
  have e : (a ++ b).cps = a.cps ++ b.cps := rfl
  unfold PyData.strOk at *
  rw [e, Array.all_append, ha, hb]
  rfl
theorem textFrom_ok : ∀ (ts : List Str) (k : Nat) (acc : Str), PyData.strOk acc = true → (∀ t ∈ ts, PyData.strOk t = true) → PyData.strOk (textFrom k acc ts) = true
  | [], k, acc, h, _ => h
  | t :: r, k, acc, h, ht => by
    refine textFrom_ok r (k + 1) _ (strOk_app (strOk_app h ?_) (ht t List.mem_cons_self)) fun x hx => ht x (List.mem_cons_of_mem _ hx)
    split <;> decide +kernel
theorem shownAll_map : ∀ ds : List PyData, PyData.shownAll ds = ds.map PyData.shown
  | [] => by simp [PyData.shownAll]
  | d :: r => by simp [PyData.shownAll, shownAll_map r]
theorem list_ok {ds : List PyData} (h : ∀ d ∈ ds, PyData.strOk d.shown = true) : PyData.strOk (PyData.list ds).shown = true := by
  have e : (PyData.list ds).shown = listText (PyData.shownAll ds) := by simp only [PyData.shown]
  rw [e, shownAll_map]
  refine strOk_app (textFrom_ok _ _ _ (by decide +kernel) fun t ht => ?_) (by decide +kernel)
  obtain ⟨d, hd, rfl⟩ := List.mem_map.mp ht
  exact h d hd
def oddsL (n u : Int) : List PyData := [.none, .int 1, .bool true, .str (PySem.Str.ofString ""), .tuple [], .list [], .dict [], .list (List.replicate 41 (rat n u)), .list [.int 1], .list [.none], .list [rat n u, .tuple [.int 2, .int 4]], rat n u, .list [.list [.int n, .int u]]]
theorem rep_ok (h : GoodR n u) : okR (.list (List.replicate 41 (rat n u))) ∧ PyData.strOk (PyData.list (List.replicate 41 (rat n u))).shown = true := by
  obtain ⟨_, h1, h2, h3⟩ := id h
  refine ⟨(Rq.list (w := 602) (m := 41) (fun d hd => ?_) (by rw [List.length_replicate]; decide)).okR (by decide) (n := 2) (Sh.list fun d hd => ?_) (by decide), list_ok fun d hd => ?_⟩
  · rw [(List.mem_replicate.mp hd).2]
    refine Rq.tup (w := 300) (m := 2) (fun d hd => ?_) (Nat.le_refl 2)
    simp only [List.mem_cons, List.not_mem_nil, or_false] at hd
    rcases hd with rfl | rfl
    · exact Rq.int (Nat.lt_of_le_of_lt h3 (by decide))
    · exact Rq.int (Nat.lt_of_le_of_lt (show u.natAbs ≤ 4 by omega) (by decide))
  · rw [(List.mem_replicate.mp hd).2]
    refine Sh.tup (n := 0) fun d hd => ?_
    simp only [List.mem_cons, List.not_mem_nil, or_false] at hd
    rcases hd with rfl | rfl <;> exact .int
  · rw [(List.mem_replicate.mp hd).2]
    have key : ∀ n ∈ ([-4, -3, -2, -1, 0, 1, 2, 3, 4] : List Int), ∀ u ∈ ([1, 2, 3, 4] : List Int), PyData.strOk (rat n u).shown = true := by decide +kernel
    exact key n (good_in h).1 u (good_in h).2
theorem oddsL_ok (h : GoodR n u) : ∀ d ∈ oddsL n u, ratsB d = false ∧ okR d ∧ PyData.strOk d.shown = true := by
  have key : ∀ n ∈ ([-4, -3, -2, -1, 0, 1, 2, 3, 4] : List Int), ∀ u ∈ ([1, 2, 3, 4] : List Int), (([.none, .int 1, .bool true, .str (PySem.Str.ofString ""), .tuple [], .list [], .dict [], .list [.int 1], .list [.none], .list [rat n u, .tuple [.int 2, .int 4]], rat n u, .list [.list [.int n, .int u]]] : List PyData).all fun d => !ratsB d && okO d) = true := by decide +kernel
  have k := key n (good_in h).1 u (good_in h).2
  intro d hd
  have hd2 : d = .list (List.replicate 41 (rat n u)) ∨ d ∈ ([.none, .int 1, .bool true, .str (PySem.Str.ofString ""), .tuple [], .list [], .dict [], .list [.int 1], .list [.none], .list [rat n u, .tuple [.int 2, .int 4]], rat n u, .list [.list [.int n, .int u]]] : List PyData) := by
    simp only [oddsL, List.mem_cons, List.not_mem_nil, or_false] at hd ⊢
    rcases hd with z | z | z | z | z | z | z | z | z | z | z | z | z <;> simp [z]
  rcases hd2 with rfl | hd2
  · exact ⟨by simp [ratsB, ratsL], rep_ok h⟩
  · have := List.all_eq_true.mp k d hd2
    simp only [okO, Bool.and_eq_true, Bool.not_eq_true'] at this
    exact ⟨this.1, okR_b this.2.1, this.2.2⟩
def oddsR : List PyData := [.none, .int 1, .bool true, .str (PySem.Str.ofString "1"), .list [.int 1, .int 2], .tuple [], .tuple [.int 1, .bool true], .tuple [.int 1, .none], .tuple (List.replicate 41 (.int 1)), .tuple [.tuple [.int 1]], .dict [], .tuple [.str (PySem.Str.ofString "1")]]
theorem oddsR_ok : ∀ d ∈ oddsR, (!rowB d && okO d) = true := by
  rw [← List.all_eq_true]
  decide +kernel
end
end K10
namespace K10
open PySem PySem.Spec PyProof.Rows L2 Evl DL LamX NdefX
open K11 (rat ratB rowB IsR gcdI Rq)
open WL
section
variable [Cls] [Tabs] {μ : Mu} {Q : DQ} {d : PyData} {n u : Int}
theorem for_litM {e : DE} {g : DG} {b : DS} {D : DEnds} {ρ : Rho} {μ μ' : Mu} {ds : List PyData} (he : ∀ R : DQ, R (.dat (.list ds)) μ' → e ρ μ R) (h : forD (fun ν => rd ν (.dat (.list ds)) = some (.list ds)) g b D (ds.map .dat) ρ μ') : dFor (iSeq e) g b D ρ μ := he _ h
theorem fin_blkM {Q' : DQ} {ν : Mu} {fcs : List (Addr × Addr)} {ls : List (Addr → LamI)} {d : PyData} (hμ : ∀ c ∈ μ, noFn c = true) (h : Q' (.dat d) μ) : finQ μ.length Q' (.dat d) (upM [] [] ((μ ++ ν) ++ fnCells ls fcs)) := by
  rw [e_finD, List.append_assoc, upM_take, upM_id hμ]
  exact h
theorem t_let (s : Sl) : told (.ret s) [.str (PySem.Str.ofString "let")] := .let_ s
theorem out_let (hg : GoodR n u) (cl : List (Str × Addr)) : ∀ S ∈ Ss_law_lists_right_b3 cl, ∃ o, told o [.str (PySem.Str.ofString "let")] ∧ ∀ ν, OutI.of (fvOf S.N (S.sel.map (([rat n u] : List PyData)[·]?)) S.de) ν o := by
  refine List.forall_mem_cons.mpr ⟨⟨.ret (.dat (wholeV n u 40)), t_let _, fun ν => out_ret fun R Q h => ?_⟩, List.forall_mem_cons.mpr ⟨⟨.ret (.dat (.int 0)), t_let _, fun ν => out_ret fun R Q h => ?_⟩, fun _ z => nomatch z⟩⟩
  · show dCallE 1 phE_whole_row (aCons (dOp rMulA (dTup (aCons (dVar 0) aNil)) (dC (.int 40))) aNil) R [some (.dat (rat n u))] ν Q
    have e : ∀ Q : DQ, Q (.dat (same n u 40)) ν → rMulA (.dat (.tuple [rat n u])) (.dat (.int 40)) ν Q := fun Q q => ⟨⟨rfl, by simp, by decide, (show 1 ≤ 1000 by decide)⟩, q⟩
    simp (decide := true)
    refine e _ ⟨_, rfl, .inr ⟨n, u, 40, rfl, ⟨hg.1, hg.2.1, by have := hg.2.2.1; omega, by have := hg.2.2.2; omega, by decide, by decide⟩, h⟩⟩
  · show dCallE 1 (phO f_row_divisor) (aCons (dOp rMulA (dTup (aCons (dC (.int 0)) aNil)) (dC (.int 40))) aNil) R [] ν Q
    have e : ∀ Q : DQ, Q (.dat (.tuple (List.replicate 40 (.int 0)))) ν → rMulA (.dat (.tuple [.int 0])) (.dat (.int 40)) ν Q := fun Q q => ⟨⟨rfl, by simp, by decide, (show 1 ≤ 1000 by decide)⟩, q⟩
    simp (decide := true)
    refine e _ ?_
    have f : f_row_divisor [.tuple (List.replicate 40 (.int 0))] = .ret (.int 0) := rfl
    rw [c_O1, f]
    exact h
theorem pu_law_lists_right (cl : List (Str × Addr)) : Pure ["good", "odd", "calls"] 1 ph_law_lists_right (ds_law_lists_right cl) := by
  intro ss μ Q' hl h
  obtain ⟨n, u, rfl, hg, ⟨hk, hμ⟩, h⟩ := h
  simp only [ds_law_lists_right, e_dSeq, startD, List.map_cons, List.map_nil, List.length_cons, List.length_nil, List.replicate, List.cons_append, List.nil_append]
  have hk1 : (μ ++ [Cell.lst [rat n u]])[2]? = some (.tab (Tabs.T 2) (.nm q_law_lists_right)) := by rw [List.getElem?_append_left (List.getElem?_eq_some_iff.mp hk).1]; exact hk
  have hμ1 : ∀ c ∈ μ ++ [Cell.lst [rat n u]], noFn c = true := fun c hc => by
    rcases List.mem_append.mp hc with hc | hc
    · exact hμ c hc
    · rw [List.mem_singleton.mp hc]; rfl
  have mc : ∀ (Q : DQ), Q (.dat (.list (List.replicate 41 (rat n u)))) (μ ++ [Cell.lst [rat n u]]) → rMulC (.cell μ.length) (.dat (.int 41)) (μ ++ [Cell.lst [rat n u]]) Q := fun Q q => by
    unfold rMulC
    have e : (μ ++ [Cell.lst [rat n u]])[μ.length]? = some (.lst [rat n u]) := List.getElem?_concat_length
    simp only [rd, e]
    exact ⟨⟨by decide, by decide, (show 1 ≤ 1000 by decide)⟩, q⟩
  have fl : ∀ (ν : Mu) (Q : DQ), Q (.dat (.list [.int n, .int u])) ν → fList [.dat (rat n u)] ν Q := fun ν Q q => q
  refine for_litM (ds := oddsL n u) (μ' := μ ++ [Cell.lst [rat n u]]) (fun R h => ?_) ?_
  · simp (decide := true) [e_dDctD]
    refine mc _ ?_
    simp (decide := true)
    refine fl _ _ ?_
    simp (decide := true)
    exact h
  refine for_turns (C := fun ν => rd ν (.dat (.list (oddsL n u))) = some (.list (oddsL n u))) rfl (fun ρ => ∃ v, ρ = [some (.dat (rat n u)), v, none]) _ _ ⟨none, rfl⟩ (fun d hd ρ e N hN => ?_) (fun ρ e => ?_)
  · obtain ⟨v, rfl⟩ := e
    obtain ⟨h1, ho, hs⟩ := oddsL_ok hg d hd
    show dCut _ _ [some (.dat (rat n u)), some (.dat d), none] _
    refine blk_step (ds := [d]) (due := [.str (PySem.Str.ofString "ratios"), .str d.shown, .bool true]) (show 2 < 3 by decide) hk1 (show 2 ≤ sizeLine by decide) rfl hμ1 (sh3 (by decide +kernel) hs) (ev3 _ _) (fun es ν Q q => due3 rfl ho q) (fun es => rfl) (alike (t_rats ho) (out_law_lists_right_b0 h1 cl)) (fun es => hN _ ⟨some (.dat d), rfl⟩)
  obtain ⟨v, rfl⟩ := e
  dsimp only
  simp only [e_dSeq]
  refine for_litM (ds := oddsR) (μ' := μ ++ [Cell.lst [rat n u]]) (fun R h => ?_) ?_
  · have e : ∀ (ν : Mu) (Q : DQ), Q (.dat (.tuple (List.replicate 41 (.int 1)))) ν → rMulA (.dat (.tuple [.int 1])) (.dat (.int 41)) ν Q := fun ν Q q => ⟨⟨rfl, by simp, by decide, (show 1 ≤ 1000 by decide)⟩, q⟩
    simp (decide := true) [e_dDctD]
    refine e _ _ ?_
    simp (decide := true)
    exact h
  refine for_turns (C := fun ν => rd ν (.dat (.list oddsR)) = some (.list oddsR)) rfl (fun ρ => ∃ v, ρ = [some (.dat (rat n u)), v, none]) _ _ ⟨v, rfl⟩ (fun d hd ρ e N hN => ?_) (fun ρ e => ?_)
  · obtain ⟨v, rfl⟩ := e
    have hd' := oddsR_ok d hd
    simp only [okO, Bool.and_eq_true, Bool.not_eq_true'] at hd'
    have ho := okR_b hd'.2.1
    have hs := hd'.2.2
    show dCut _ _ [some (.dat (rat n u)), some (.dat d), none] _
    refine blk_step (ds := [d]) (due := [.str (PySem.Str.ofString "row"), .str d.shown, .bool true]) (show 2 < 3 by decide) hk1 (show 10 ≤ sizeLine by decide) rfl hμ1 (sh3 (by decide +kernel) hs) (ev3 _ _) (fun es ν Q q => due3 rfl ho q) (fun es => rfl) (alike (t_row ho) (out_law_lists_right_b1 hd'.1 cl)) (fun es => hN _ ⟨some (.dat d), rfl⟩)
  obtain ⟨v, rfl⟩ := e
  refine blk_step (ds := []) (due := [.str (PySem.Str.ofString "lengths"), .bool true]) (show 2 < 3 by decide) hk1 (show 2 ≤ sizeLine by decide) rfl hμ1 (sh_flat (by decide +kernel)) (evL_flat (by decide +kernel)) (fun es ν Q q => ?_) (fun es => rfl) (alike t_len (out_law_lists_right_b2 cl)) (fun es => ?_)
  · simp
    first | exact q | exact ⟨by decide, q⟩
  show dBlk _ _ _ _ _ _ _ _ (wipe1 _ 2 _ es) _
  cases v with
  | none =>
    refine blk_ret (ρ := [some (.dat (rat n u)), none, none]) (ds := [rat n u]) (due := [.str (PySem.Str.ofString "let")]) (show 2 < 3 by decide) hk1 (show 2 ≤ sizeLine by decide) rfl hμ1 (sh_flat (by decide +kernel)) (evL_flat (by decide +kernel)) (fun es ν Q q => ?_) (fun es => rfl) (out_let hg cl) fun fcs => fin_blkM hμ h
    simp
    first | exact q | exact ⟨by decide, q⟩
  | some w =>
    have : ∃ w', wipe1 (μ ++ [Cell.lst [rat n u]]).length 2 [some (.dat (rat n u)), some w, none] es = [some (.dat (rat n u)), w', none] := ⟨_, rfl⟩
    obtain ⟨w', e⟩ := this
    rw [e]
    refine blk_ret (ρ := [some (.dat (rat n u)), w', none]) (ds := [rat n u]) (due := [.str (PySem.Str.ofString "let")]) (show 2 < 3 by decide) hk1 (show 2 ≤ sizeLine by decide) rfl hμ1 (sh_flat (by decide +kernel)) (evL_flat (by decide +kernel)) (fun es ν Q q => ?_) (fun es => rfl) (out_let hg cl) fun fcs => fin_blkM hμ h
    simp
    first | exact q | exact ⟨by decide, q⟩
end
end K10
namespace K10
open PySem PySem.Spec PyProof.Rows L2 Evl DL LamX NdefX
open K11 (rat ratB rowB IsR gcdI Rq)
open WL
section
variable [Cls] [Tabs] {μ : Mu} {Q : DQ} {d : PyData} {n u : Int}
def mu0 : Mu := tabs.map (fun p => Cell.tab p.1 (.nm p.2))
theorem mem_ch {p0 p1 : Int} {μ' : Mu} (h : Ch 4 (mu0 ++ [.lst [.int p0, .int p1]]) μ') : Mem 0 q_law_integers_right μ' ∧ Mem 1 q_law_ratios_right μ' ∧ Mem 2 q_law_lists_right μ' ∧ Mem 3 q_law μ' := by
  obtain ⟨⟨a, b, e, _⟩, hl, h⟩ := h
  have all : ∀ c ∈ μ', noFn c = true := fun c hc => by
    obtain ⟨j, hj⟩ := List.mem_iff_getElem?.mp hc
    by_cases z : j = 4
    · subst z
      rw [e] at hj
      cases hj
      rfl
    · rw [h j z] at hj
      have : j < 5 := by
        have := (List.getElem?_eq_some_iff.mp hj).1
        exact this
      match j, this, z with
      | 0, _, _ => cases hj; rfl
      | 1, _, _ => cases hj; rfl
      | 2, _, _ => cases hj; rfl
      | 3, _, _ => cases hj; rfl
      | 4, _, z => exact absurd rfl z
  exact ⟨⟨(h 0 (by decide)).trans rfl, all⟩, ⟨(h 1 (by decide)).trans rfl, all⟩, ⟨(h 2 (by decide)).trans rfl, all⟩, ⟨(h 3 (by decide)).trans rfl, all⟩⟩
theorem pu_law_ratio : Pure ["number", "under", "common"] 2 ph_law_ratio ds_law_ratio := K13.pu_law_ratio
theorem good_of {x y : Int} (x0 : 0 ≤ x) (x1 : x < 9) (y0 : 0 ≤ y) (y1 : y < 4) : GoodR (K13.redN (x - 4) (1 + y)) (K13.redD (x - 4) (1 + y)) := by
  obtain ⟨h1, h2, h3⟩ := K13.red_isR (n := x - 4) (u := 1 + y) (by omega)
  have := h1.1
  exact ⟨h1, h1.1, by omega, by omega⟩
def oddsT : List PyData := [.none, .int 1, .bool true, .list [], .tuple [.str (PySem.Str.ofString "1")], .dict [], .tuple [.int 1, .int 2]]
theorem oddsT_ok : ∀ d ∈ oddsT, (!isS d && okO d) = true := by
  rw [← List.all_eq_true]
  decide +kernel
theorem pu_law (cl : List (Str × Addr)) : Pure ["script", "pot", "good", "odd"] 1 ph_law (ds_law cl) := by
  intro ss μ Q' hl h
  obtain ⟨ns, hn, rfl, rfl, h⟩ := h
  change ∀ μ', Q' (.dat (.bool true)) μ' at h
  show ds_law cl _ _ mu0
  simp only [ds_law, e_dSeq, e_dAsg, e_dCall, e_aCons, e_aNil, e_dVar, e_dC, startD, List.map_cons, List.map_nil, List.length_cons, List.length_nil, List.replicate, List.cons_append, List.nil_append, List.getElem?_cons_succ, List.getElem?_cons_zero, c_law_pot]
  refine ⟨trivial, by decide, fun p0 p1 h0 h1 h2 => ?_⟩
  have P0 : Pot (mu0 ++ [Cell.lst [.int p0, .int p1]]) 4 := ⟨p0, p1, rfl, h0, h1, h2⟩
  have l4 : mu0.length = 4 := rfl
  rw [l4]
  simp only [e_dOp, e_dCall, e_aCons, e_aNil, e_dVar, e_dC, List.set_cons_succ, List.set_cons_zero, List.getElem?_cons_succ, List.getElem?_cons_zero, List.length_cons, List.length_nil, c_law_draw, o_sub, o_add]
  refine ⟨trivial, P0, by decide, fun x ν1 x0 x1 c1 => ⟨trivial, c1.1, by decide, fun y ν2 y0 y1 c2 => ?_⟩⟩
  have hc := c1.trans c2
  obtain ⟨M0, M1, M2, M3⟩ := mem_ch hc
  have hg := good_of x0 x1 y0 y1
  have lr : ∀ (ν : Mu) (Q : DQ), Q (.dat (rat (K13.redN (x - 4) (1 + y)) (K13.redD (x - 4) (1 + y)))) ν → ph_law_ratio [.dat (.int (x - 4)), .dat (.int (1 + y))] ν Q := fun ν Q q => ⟨_, _, rfl, ⟨by omega, by unfold Sm; exact Nat.lt_of_lt_of_le (show (x - 4).natAbs < 2 ^ 40 by omega) (Nat.pow_le_pow_right (by decide) (by decide)), by unfold Sm; exact Nat.lt_of_lt_of_le (show (1 + y).natAbs < 2 ^ 40 by omega) (Nat.pow_le_pow_right (by decide) (by decide))⟩, q⟩
  generalize K13.redN (x - 4) (1 + y) = n at hg lr
  generalize K13.redD (x - 4) (1 + y) = u at hg lr
  refine ⟨trivial, lr _ _ ?_⟩
  simp only [e_dIfS, e_dOr, e_dNot, e_dTru, e_dCall, e_aCons, e_aNil, e_dVar, List.set_cons_succ, List.set_cons_zero, List.getElem?_cons_succ, List.getElem?_cons_zero, List.length_cons, List.length_nil]
  have nt : ¬ ((!truD (PyData.bool true)) = true) := by simp [truD]
  refine ⟨trivial, rfl, M0, ⟨trivial, ?_⟩⟩
  rw [if_neg nt]
  refine ⟨trivial, n, u, rfl, hg, M1, ⟨trivial, ?_⟩⟩
  rw [if_neg nt]
  refine ⟨trivial, n, u, rfl, hg, M2, ⟨trivial, ?_⟩⟩
  rw [if_neg nt]
  simp only [e_dNext, e_dSeq]
  refine for_litM (ds := oddsT) (μ' := ν2) (fun R h => ?_) ?_
  · simp (decide := true) [e_dDctD]
    exact h
  refine for_turns (C := fun ν => rd ν (.dat (.list oddsT)) = some (.list oddsT)) rfl (fun ρ => ∃ v, ρ = [some (.dat (.list (ns.map PyData.int))), some (.cell 4), some (.dat (rat n u)), v]) _ _ ⟨none, rfl⟩ (fun d hd ρ e N hN => ?_) (fun ρ e => ?_)
  · obtain ⟨v, rfl⟩ := e
    have hd' := oddsT_ok d hd
    simp only [okO, Bool.and_eq_true, Bool.not_eq_true'] at hd'
    have ho := okR_b hd'.2.1
    have hs := hd'.2.2
    show dCut _ _ [some (.dat (.list (ns.map PyData.int))), some (.cell 4), some (.dat (rat n u)), some (.dat d)] _
    refine blk1_step (ds := [d]) (due := [.str (PySem.Str.ofString "text"), .str d.shown, .bool true]) M3.1 rfl M3.2 (sh3 (by decide +kernel) hs) (ev3 _ _) (fun ν Q q => due3 rfl ho q) rfl (alike (t_text ho) (out_law_b0 hd'.1 cl)) ?_
    refine hN _ ⟨some (.dat d), ?_⟩
    have l5 : ν2.length = 5 := hc.2.1
    rw [l5]
    rfl
  obtain ⟨v, rfl⟩ := e
  refine judge1_ok (ds := []) (due := [.str (PySem.Str.ofString "bad"), .str (PySem.Str.ofString "0"), .bool true]) M3.1 rfl (sh_flat (by decide +kernel)) (evL_flat (by decide +kernel)) (fun ν Q q => ?_) rfl (alike t_bad (out_law_b1 cl)) fun fcs => ?_
  · simp
    first | exact q | exact ⟨by decide, q⟩
  · show Q' (.dat (.bool true)) _
    exact h _
end
end K10
namespace K10
open PySem PySem.Spec PyProof.Rows L2 Evl DL
open WL
theorem pu_law_draw : Pure ["pot", "size", "digit"] 2 WL.ph_law_draw ds_law_draw := draw_gen (c1 := 41117) (c2 := 31601) (m1 := 2147483477) (m2 := 2147483549) (d := 23) (by constructor <;> decide)
theorem pu_law_pot : Pure ["script", "k", "cell"] 2 WL.ph_law_pot ds_law_pot := pot_gen3 (a := 1237) (b := 991) (c1 := 41761) (c2 := 7351) (c3 := 977) (m1 := 2147483549) (m2 := 2147483477) (by constructor <;> decide)
end K10
namespace DL
open PySem PySem.Spec PyProof.Rows L2 Evl LamX NdefX
theorem law_spZ {L : List (Addr × Addr)} {qs : List Str} (K : PySem.W.Frag) (H : Hp) (a : Addr) (ns : List Int) (hlen : L.length = qs.length) (nd : (L.map Prod.snd).Nodup) (hl : ns.length ≤ 63) (hP : ∀ p ∈ L, H p.2 = some (.tbl #[])) (hS : SqL K H a (ns.map V.int)) :
    SpD K 1 (lawTs ((L.map Prod.snd).zip qs)) [.ref a] H (fun v _ => v = .bl true) E0 := by
  refine law_spTs K H a _ ns hl ?_ (fun p hp => ?_) hS
  · rw [List.map_fst_zip (by rw [List.length_map]; exact Nat.le_of_eq hlen)]
    exact nd
  · obtain ⟨i, hi⟩ := List.mem_iff_getElem?.mp hp
    have h1 : (L.map Prod.snd)[i]? = some p.1 := by
      rw [List.getElem?_zip_eq_some] at hi
      exact hi.1
    rw [List.getElem?_map] at h1
    cases e : L[i]? with
    | none => rw [e] at h1; cases h1
    | some z =>
      rw [e] at h1
      rw [← Option.some.inj h1]
      exact hP z (List.mem_of_getElem? e)
def TabsY {Pm : Type} (K : Pm → PySem.W.Frag) (ys : List Str) (L : List (Addr × Addr)) : Prop := ∀ P, ys.map (PySem.W.tabIn (K P)) = L.map some ∧ ∀ p ∈ L, (K P).lookup p.2 = none
theorem tabsY_nil {Pm : Type} {K : Pm → PySem.W.Frag} : TabsY K [] [] := fun _ => ⟨rfl, fun _ z => nomatch z⟩
theorem tabsY_cons {Pm : Type} {K : Pm → PySem.W.Frag} {y : Str} {c T : Addr} {ys : List Str} {L : List (Addr × Addr)} (h : ∀ P, PySem.W.tabIn (K P) y = some (c, T) ∧ (K P).lookup T = none) (r : TabsY K ys L) : TabsY K (y :: ys) ((c, T) :: L) := fun P => by
  obtain ⟨h1, h2⟩ := h P
  obtain ⟨r1, r2⟩ := r P
  refine ⟨by rw [List.map_cons, List.map_cons, h1, r1], fun p hp => ?_⟩
  rcases List.mem_cons.mp hp with rfl | hp
  · exact h2
  · exact r2 p hp
theorem errN_of {K : PySem.W.Frag} {h : Heap} {mg : Str → Option Value} {x : Str} {C : Addr} {Z : Prop} {B newId initId : String} {bmB : List Value} (X : K.In h) (G : h.Ns mainGlobals mg) (F : ExcBaseFacts B newId initId bmB) (aC : PySem.W.nsIn K mainGlobals x = some (some (.ref C)))
    (xC : PySem.W.excIn K C bmB newId = true) (kC : PySem.W.keepIn K (.ref C) = true) (eC : PySem.W.subIn K (.ref C) (.type "BaseException") = some true) (tC : PySem.W.typeIn K (.ref C) = some (.type "type")) (hC : PySem.W.hasDictIn K C = true) (sC : PySem.W.subIn K (.ref C) (.ref C) = some true) (z : ErrN K mg x C → Z) : Z :=
  z { gC := PySem.W.mg_of X G aC, kC := kC, sub := eC, ty := tC, made := ⟨_, _, _, _, F, xC⟩, te := PySem.W.exm_ref eC hC tC sC }
theorem kin_ofN {K : PySem.W.Frag} {h : Heap} {mg : Str → Option Value} {x bn : Str} {C B : Addr} {Z : Prop} (T : ErrN K mg x C) (X : K.In h) (G : h.Ns mainGlobals mg) (aB : PySem.W.nsIn K mainGlobals bn = some (some (.ref B))) (hB : PySem.W.hasDictIn K B = true) (tB : PySem.W.typeIn K (.ref B) = some (.type "type"))
    (sB : PySem.W.subIn K (.ref C) (.ref B) = some true) (neB : (Value.ref C == Value.ref B) = false) (z : Kin K mg bn C B → Z) : Z := kin_of X G aB hB tB neB sB z
theorem exm_T {K : PySem.W.Frag} {mg mg' : Str → Option Value} {x y f q : Str} {st : Stmt} {C D fI : Addr} {Z : Prop} (T : ErrT K mg x f st q D fI) (_ : mg' y = some (.ref C)) (s : PySem.W.subIn K (.ref C) (.ref D) = some false) (z : PySem.W.exmOne K (.ref C) (.ref D) = some false → Z) : Z := z (PySem.W.exm_ref T.xfc.exC T.xfc.hdC T.oex.tyC s)
theorem exm_N {K : PySem.W.Frag} {mg mg' : Str → Option Value} {x y : Str} {C D : Addr} {Z : Prop} (T : ErrN K mg x D) (_ : mg' y = some (.ref C)) (h : PySem.W.hasDictIn K D = true) (s : PySem.W.subIn K (.ref C) (.ref D) = some false) (z : PySem.W.exmOne K (.ref C) (.ref D) = some false → Z) : Z := z (PySem.W.exm_ref T.sub h T.ty s)
def adT {K : PySem.W.Frag} {mg : Str → Option Value} {x f q : Str} {st : Stmt} {C fI : Addr} (_ : ErrT K mg x f st q C fI) : Addr := C
def adN {K : PySem.W.Frag} {mg : Str → Option Value} {x : Str} {C : Addr} (_ : ErrN K mg x C) : Addr := C
end DL
namespace K51
open PySem PySem.Spec PyProof.Rows L2 Evl DL
open WL
open K27 (awayI awayZ zD pl_at)
open K52 (fitT surI turnB surOf intsL sur_len)
section
variable {μ : Mu} {Q : DQ} {n p : Int} {ts : List T3} {xs sur : List Int} {s : Sl}
theorem zipE_ints {s : Sl} {xs ys : List Int} (hs : Sq1 s ys) {a b : DE} {ρ : Rho} {μ : Mu} (h1 : ∀ R : DQ, a ρ μ R = R (.dat (intsL xs)) μ) (h2 : ∀ R : DQ, b ρ μ R = R s μ) : ∃ C : Mu → Prop, (∀ ν, C ν) ∧ ∀ R : List Sl → (Mu → Prop) → Mu → Prop, iZpE (aCons a (aCons b aNil)) ρ μ R = R (((xs.zip ys).map WL.pairD).map .dat) C μ := by
  have e : (xs.zip ys).map WL.pairD = List.zipWith (fun d e => PyData.tuple [d, e]) (xs.map PyData.int) (ys.map PyData.int) := by
    rw [List.zipWith_map, ← List.map_uncurry_zip_eq_zipWith]
    rfl
  obtain ⟨w, sw, cw⟩ : ∃ w, s = .dat (seqR w (ys.map PyData.int)) ∧ ∀ w' ds, seqR w (ys.map PyData.int) = seqR w' ds → w' = w ∧ ds = ys.map PyData.int := by
    rcases hs with rfl | rfl
    · refine ⟨true, rfl, fun w' ds z => ?_⟩
      cases w' <;> simp only [seqR, if_true, Bool.false_eq_true, if_false] at z
      · cases z
      · exact ⟨rfl, (PyData.tuple.inj z).symm⟩
    · refine ⟨false, rfl, fun w' ds z => ?_⟩
      cases w' <;> simp only [seqR, if_true, Bool.false_eq_true, if_false] at z
      · exact ⟨rfl, (PyData.list.inj z).symm⟩
      · cases z
  subst sw
  have cv : ∀ w' ds, seqR false (xs.map PyData.int) = seqR w' ds → w' = false ∧ ds = xs.map PyData.int := fun w' ds z => by
    cases w' <;> simp only [seqR, if_true, Bool.false_eq_true, if_false] at z
    · exact ⟨rfl, (PyData.list.inj z).symm⟩
    · cases z
  refine ⟨fun ν => rd ν (.dat (intsL xs)) = some (seqR false (xs.map PyData.int)) ∧ rd ν (.dat (seqR w (ys.map PyData.int))) = some (seqR w (ys.map PyData.int)), fun ν => ⟨rfl, rfl⟩, fun R => propext ⟨fun ⟨t, u, h⟩ => ?_, fun h => ⟨false, w, ?_⟩⟩⟩
  · unfold iZpG at h
    simp only [e_aCons, e_aNil, h1, h2] at h
    obtain ⟨ds, es, q1, q2, h⟩ := h
    obtain ⟨rfl, rfl⟩ := cv t ds (Option.some.inj q1)
    obtain ⟨rfl, rfl⟩ := cw u es (Option.some.inj q2)
    rw [e]
    have z : zipS (.dat (intsL xs)) (.dat (seqR u (ys.map PyData.int))) (xs.map PyData.int) (ys.map PyData.int) = _ := zipS_dat
    rw [z] at h
    exact h
  · unfold iZpG
    simp only [e_aCons, e_aNil, h1, h2]
    refine ⟨xs.map PyData.int, ys.map PyData.int, rfl, rfl, ?_⟩
    rw [e] at h
    have z : zipS (.dat (intsL xs)) (.dat (seqR w (ys.map PyData.int))) (xs.map PyData.int) (ys.map PyData.int) = _ := zipS_dat
    rw [z]
    exact h
theorem c_open_way {sp : List (Int × Int)} {a b : Int} : WL.ph_open_way [.dat (webD n ts), .dat (.list (sp.map WL.pairD)), .dat (.int a), .dat (.int b)] μ Q = ((WebOk n ts ∧ sp.length = ts.length ∧ (0 ≤ a ∧ a < n) ∧ a ≠ b) ∧
  ∀ w : List Int, (w = [] ∧ ¬ Come ts sp a b ∨ OpenW ts sp a b w ∧ ∀ x ∈ w, 0 ≤ x ∧ x < n) → Q (.dat (rowI w)) μ) := propext ⟨fun ⟨_, _, _, _, _, e, h⟩ => by
  obtain ⟨e1, e2⟩ := dr_inj e
  obtain ⟨rfl, rfl⟩ := webD_inj e1
  obtain ⟨e3, e4⟩ := dr_inj e2
  cases (List.map_inj_right (fun _ _ h => pairD_inj h)).mp (PyData.list.inj e3)
  obtain ⟨e5, e6⟩ := dr_inj e4
  cases e5
  cases (dr_inj e6).1
  exact h, fun h => ⟨_, _, _, _, _, rfl, h⟩⟩
end
end K51
namespace K28
open PySem PySem.Spec PyProof.Rows L2 Evl DL
open WL
open K27 (awayI awayZ ownD zD)
open K51 (sgn ixT ix_ties ix_nat cm_of c_signed_steps c_open_way zipE_ints)
open K52 (intsL)
section
variable {μ : Mu} {Q : DQ} {n a b : Int} {ts : List T3} {xs : List Int} {s : Sl}
theorem pu_is_listed : Pure ["value"] 1 ph_is_listed ds_is_listed := by
  intro ss μ Q' hl h
  obtain ⟨d, rfl, h⟩ := h
  simp [ds_is_listed, startD]
  cases d <;> exact h
end
end K28
namespace K10
open PySem PySem.Spec PyProof.Rows L2 Evl DL LamX NdefX
theorem all_law [Cls] [Tabs] {P : Program} {w : World} {K : PySem.W.Frag} {mg : Str → Option Value} {fa B_WayError B_StateError : Addr} {c0 c1 c2 c3 : Addr} {f_InvalidInteger f_InvalidRatio f_InvalidText f_BadText f_InvalidRatios f_InvalidRow : Addr} (hfa : mg "law" = some (.ref fa)) (T_InvalidInteger : ErrT K mg "InvalidInteger" "value" i_InvalidInteger "InvalidInteger.__init__" Cls.InvalidInteger f_InvalidInteger) (T_InvalidRatio : ErrT K mg "InvalidRatio" "value" i_InvalidRatio "InvalidRatio.__init__" Cls.InvalidRatio f_InvalidRatio) (T_InvalidText : ErrT K mg "InvalidText" "value" i_InvalidText "InvalidText.__init__" Cls.InvalidText f_InvalidText) (T_BadText : ErrT K mg "BadText" "position" i_BadText "BadText.__init__" Cls.BadText f_BadText) (T_InvalidRatios : ErrT K mg "InvalidRatios" "value" i_InvalidRatios "InvalidRatios.__init__" Cls.InvalidRatios f_InvalidRatios) (T_InvalidRow : ErrT K mg "InvalidRow" "value" i_InvalidRow "InvalidRow.__init__" Cls.InvalidRow f_InvalidRow) (N_NoQuotient : ErrN K mg "NoQuotient" Cls.NoQuotient) (N_UnlikeLengths : ErrN K mg "UnlikeLengths" Cls.UnlikeLengths) (K_InvalidInteger : Kin K mg "WayError" Cls.InvalidInteger B_WayError) (K_InvalidRatio : Kin K mg "WayError" Cls.InvalidRatio B_WayError) (K_InvalidText : Kin K mg "WayError" Cls.InvalidText B_WayError) (K_BadText : Kin K mg "WayError" Cls.BadText B_WayError) (K_InvalidRatios : Kin K mg "WayError" Cls.InvalidRatios B_WayError) (K_InvalidRow : Kin K mg "WayError" Cls.InvalidRow B_WayError) (K_NoQuotient : Kin K mg "StateError" Cls.NoQuotient B_StateError) (K_UnlikeLengths : Kin K mg "StateError" Cls.UnlikeLengths B_StateError) (x_InvalidRatio_InvalidInteger : PySem.W.exmOne K (.ref Cls.InvalidRatio) (.ref Cls.InvalidInteger) = some false) (x_InvalidRatios_InvalidInteger : PySem.W.exmOne K (.ref Cls.InvalidRatios) (.ref Cls.InvalidInteger) = some false) (x_InvalidRow_InvalidInteger : PySem.W.exmOne K (.ref Cls.InvalidRow) (.ref Cls.InvalidInteger) = some false) (x_InvalidText_InvalidInteger : PySem.W.exmOne K (.ref Cls.InvalidText) (.ref Cls.InvalidInteger) = some false) (x_BadText_InvalidInteger : PySem.W.exmOne K (.ref Cls.BadText) (.ref Cls.InvalidInteger) = some false) (x_NoQuotient_InvalidInteger : PySem.W.exmOne K (.ref Cls.NoQuotient) (.ref Cls.InvalidInteger) = some false) (x_UnlikeLengths_InvalidInteger : PySem.W.exmOne K (.ref Cls.UnlikeLengths) (.ref Cls.InvalidInteger) = some false) (x_InvalidRatios_InvalidRatio : PySem.W.exmOne K (.ref Cls.InvalidRatios) (.ref Cls.InvalidRatio) = some false) (x_InvalidRow_InvalidRatio : PySem.W.exmOne K (.ref Cls.InvalidRow) (.ref Cls.InvalidRatio) = some false) (x_InvalidText_InvalidRatio : PySem.W.exmOne K (.ref Cls.InvalidText) (.ref Cls.InvalidRatio) = some false) (x_BadText_InvalidRatio : PySem.W.exmOne K (.ref Cls.BadText) (.ref Cls.InvalidRatio) = some false) (x_NoQuotient_InvalidRatio : PySem.W.exmOne K (.ref Cls.NoQuotient) (.ref Cls.InvalidRatio) = some false) (x_UnlikeLengths_InvalidRatio : PySem.W.exmOne K (.ref Cls.UnlikeLengths) (.ref Cls.InvalidRatio) = some false) (x_InvalidRow_InvalidRatios : PySem.W.exmOne K (.ref Cls.InvalidRow) (.ref Cls.InvalidRatios) = some false) (x_InvalidText_InvalidRatios : PySem.W.exmOne K (.ref Cls.InvalidText) (.ref Cls.InvalidRatios) = some false) (x_BadText_InvalidRatios : PySem.W.exmOne K (.ref Cls.BadText) (.ref Cls.InvalidRatios) = some false) (x_NoQuotient_InvalidRatios : PySem.W.exmOne K (.ref Cls.NoQuotient) (.ref Cls.InvalidRatios) = some false) (x_UnlikeLengths_InvalidRatios : PySem.W.exmOne K (.ref Cls.UnlikeLengths) (.ref Cls.InvalidRatios) = some false) (x_InvalidText_InvalidRow : PySem.W.exmOne K (.ref Cls.InvalidText) (.ref Cls.InvalidRow) = some false) (x_BadText_InvalidRow : PySem.W.exmOne K (.ref Cls.BadText) (.ref Cls.InvalidRow) = some false) (x_NoQuotient_InvalidRow : PySem.W.exmOne K (.ref Cls.NoQuotient) (.ref Cls.InvalidRow) = some false) (x_UnlikeLengths_InvalidRow : PySem.W.exmOne K (.ref Cls.UnlikeLengths) (.ref Cls.InvalidRow) = some false) (x_BadText_InvalidText : PySem.W.exmOne K (.ref Cls.BadText) (.ref Cls.InvalidText) = some false) (x_NoQuotient_InvalidText : PySem.W.exmOne K (.ref Cls.NoQuotient) (.ref Cls.InvalidText) = some false) (x_UnlikeLengths_InvalidText : PySem.W.exmOne K (.ref Cls.UnlikeLengths) (.ref Cls.InvalidText) = some false) (x_NoQuotient_BadText : PySem.W.exmOne K (.ref Cls.NoQuotient) (.ref Cls.BadText) = some false) (x_UnlikeLengths_BadText : PySem.W.exmOne K (.ref Cls.UnlikeLengths) (.ref Cls.BadText) = some false) (x_UnlikeLengths_NoQuotient : PySem.W.exmOne K (.ref Cls.UnlikeLengths) (.ref Cls.NoQuotient) = some false) (hcode_law_integers_right : ∀ f fd, Fun K "_law_integers_right" "_law_integers_right" s_law_integers_right f fd → mg "_law_integers_right" = some (.ref f) → fd.code = .ref c0) (hcode_law_ratios_right : ∀ f fd, Fun K "_law_ratios_right" "_law_ratios_right" s_law_ratios_right f fd → mg "_law_ratios_right" = some (.ref f) → fd.code = .ref c1) (hcode_law_lists_right : ∀ f fd, Fun K "_law_lists_right" "_law_lists_right" s_law_lists_right f fd → mg "_law_lists_right" = some (.ref f) → fd.code = .ref c2) (hcode_law : ∀ f fd, Fun K "law" "law" s_law f fd → mg "law" = some (.ref f) → fd.code = .ref c3) (m_is_integer : ∃ f fd, Fun K "is_integer" "is_integer" s_is_integer f fd ∧ mg "is_integer" = some (.ref f)) (m_is_listed : ∃ f fd, Fun K "is_listed" "is_listed" s_is_listed f fd ∧ mg "is_listed" = some (.ref f)) (m_is_tuple_of : ∃ f fd, Fun K "is_tuple_of" "is_tuple_of" s_is_tuple_of f fd ∧ mg "is_tuple_of" = some (.ref f)) (m_are_integers : ∃ f fd, Fun K "are_integers" "are_integers" s_are_integers f fd ∧ mg "are_integers" = some (.ref f)) (m_check_text : ∃ f fd, Fun K "check_text" "check_text" s_check_text f fd ∧ mg "check_text" = some (.ref f)) (m_is_ratio : ∃ f fd, Fun K "is_ratio" "is_ratio" s_is_ratio f fd ∧ mg "is_ratio" = some (.ref f)) (m_check_integer : ∃ f fd, Fun K "check_integer" "check_integer" s_check_integer f fd ∧ mg "check_integer" = some (.ref f)) (m_check_ratio : ∃ f fd, Fun K "check_ratio" "check_ratio" s_check_ratio f fd ∧ mg "check_ratio" = some (.ref f)) (m_check_ratios : ∃ f fd, Fun K "check_ratios" "check_ratios" s_check_ratios f fd ∧ mg "check_ratios" = some (.ref f)) (m_made : ∃ f fd, Fun K "made" "made" s_made f fd ∧ mg "made" = some (.ref f)) (m_plus : ∃ f fd, Fun K "plus" "plus" s_plus f fd ∧ mg "plus" = some (.ref f)) (m_minus : ∃ f fd, Fun K "minus" "minus" s_minus f fd ∧ mg "minus" = some (.ref f)) (m_times : ∃ f fd, Fun K "times" "times" s_times f fd ∧ mg "times" = some (.ref f)) (m_over : ∃ f fd, Fun K "over" "over" s_over f fd ∧ mg "over" = some (.ref f)) (m_compared : ∃ f fd, Fun K "compared" "compared" s_compared f fd ∧ mg "compared" = some (.ref f)) (m_floor_of : ∃ f fd, Fun K "floor_of" "floor_of" s_floor_of f fd ∧ mg "floor_of" = some (.ref f)) (m_ceiling_of : ∃ f fd, Fun K "ceiling_of" "ceiling_of" s_ceiling_of f fd ∧ mg "ceiling_of" = some (.ref f)) (m_ratio_text : ∃ f fd, Fun K "ratio_text" "ratio_text" s_ratio_text f fd ∧ mg "ratio_text" = some (.ref f)) (m_parse_ratio : ∃ f fd, Fun K "parse_ratio" "parse_ratio" s_parse_ratio f fd ∧ mg "parse_ratio" = some (.ref f)) (m_digits_end : ∃ f fd, Fun K "digits_end" "digits_end" s_digits_end f fd ∧ mg "digits_end" = some (.ref f)) (m_is_row : ∃ f fd, Fun K "is_row" "is_row" s_is_row f fd ∧ mg "is_row" = some (.ref f)) (m_check_row : ∃ f fd, Fun K "check_row" "check_row" s_check_row f fd ∧ mg "check_row" = some (.ref f)) (m_check_rows : ∃ f fd, Fun K "check_rows" "check_rows" s_check_rows f fd ∧ mg "check_rows" = some (.ref f)) (m_check_ratio_list : ∃ f fd, Fun K "check_ratio_list" "check_ratio_list" s_check_ratio_list f fd ∧ mg "check_ratio_list" = some (.ref f)) (m_row_product : ∃ f fd, Fun K "row_product" "row_product" s_row_product f fd ∧ mg "row_product" = some (.ref f)) (m_row_sum : ∃ f fd, Fun K "row_sum" "row_sum" s_row_sum f fd ∧ mg "row_sum" = some (.ref f)) (m_row_taken : ∃ f fd, Fun K "row_taken" "row_taken" s_row_taken f fd ∧ mg "row_taken" = some (.ref f)) (m_row_divisor : ∃ f fd, Fun K "row_divisor" "row_divisor" s_row_divisor f fd ∧ mg "row_divisor" = some (.ref f)) (m_row_reduced : ∃ f fd, Fun K "row_reduced" "row_reduced" s_row_reduced f fd ∧ mg "row_reduced" = some (.ref f)) (m_common_under : ∃ f fd, Fun K "common_under" "common_under" s_common_under f fd ∧ mg "common_under" = some (.ref f)) (m_whole_row : ∃ f fd, Fun K "whole_row" "whole_row" s_whole_row f fd ∧ mg "whole_row" = some (.ref f)) (m_ratios_of : ∃ f fd, Fun K "ratios_of" "ratios_of" s_ratios_of f fd ∧ mg "ratios_of" = some (.ref f)) (m_law_pot : ∃ f fd, Fun K "_law_pot" "_law_pot" s_law_pot f fd ∧ mg "_law_pot" = some (.ref f)) (m_law_draw : ∃ f fd, Fun K "_law_draw" "_law_draw" s_law_draw f fd ∧ mg "_law_draw" = some (.ref f)) (m_law_common : ∃ f fd, Fun K "_law_common" "_law_common" s_law_common f fd ∧ mg "_law_common" = some (.ref f)) (m_law_ratio : ∃ f fd, Fun K "_law_ratio" "_law_ratio" s_law_ratio f fd ∧ mg "_law_ratio" = some (.ref f)) (m_law_heard_kinds : ∃ f fd, Fun K "_law_heard_kinds" "_law_heard_kinds" s_hk f fd ∧ mg "_law_heard_kinds" = some (.ref f)) (m_law_heard : ∃ f fd, Fun K "_law_heard" "_law_heard" s_h f fd ∧ mg "_law_heard" = some (.ref f)) (m_law_all : ∃ f fd, Fun K "_law_all" "_law_all" s_all f fd ∧ mg "_law_all" = some (.ref f)) (m_law_integers_right : ∃ f fd, Fun K "_law_integers_right" "_law_integers_right" s_law_integers_right f fd ∧ mg "_law_integers_right" = some (.ref f)) (m_law_ratios_right : ∃ f fd, Fun K "_law_ratios_right" "_law_ratios_right" s_law_ratios_right f fd ∧ mg "_law_ratios_right" = some (.ref f)) (m_law_lists_right : ∃ f fd, Fun K "_law_lists_right" "_law_lists_right" s_law_lists_right f fd ∧ mg "_law_lists_right" = some (.ref f)) (m_law : ∃ f fd, Fun K "law" "law" s_law f fd ∧ mg "law" = some (.ref f)) (z_abs : mg "abs" = none) (z_all : mg "all" = none) (z_bool : mg "bool" = none) (z_divmod : mg "divmod" = none) (z_gcd : mg "gcd" = some (.builtin "math.gcd")) (z_int : mg "int" = none) (z_isinstance : mg "isinstance" = none) (z_lcm : mg "lcm" = some (.builtin "math.lcm")) (z_len : mg "len" = none) (z_list : mg "list" = none) (z_max : mg "max" = none) (z_repr : mg "repr" = none) (z_str : mg "str" = none) (z_tuple : mg "tuple" = none) :
    ∃ fd : FuncData, (∀ (s : Shared) (u : Value), BindsTo s fd ⟨[u], []⟩ [("script", u)]) ∧ ∀ base : Heap, LamX.TabB base mg c0 (Tabs.T 0) → LamX.TabB base mg c1 (Tabs.T 1) → LamX.TabB base mg c2 (Tabs.T 2) → LamX.TabB base mg c3 (Tabs.T 3) → FnG P w K mg base CX0 12 fa fd ["script"] (SpD K 1 ph_law) := by
  obtain ⟨f, fd, F, hf⟩ := m_law
  cases hfa.symm.trans hf
  have oT : OwnT P w K mg "_law_all" s_all ["calls", "due"] 7 10 2 (allF told) := ownT_of fun base Θ hθ => ow_all m_law_all (ow_heard m_law_heard (owE_kinds m_law_heard_kinds hθ T_InvalidInteger K_InvalidInteger T_InvalidRatio K_InvalidRatio T_InvalidRatios K_InvalidRatios T_InvalidRow K_InvalidRow (List.forall_mem_cons.mpr ⟨x_InvalidRatio_InvalidInteger, List.forall_mem_cons.mpr ⟨x_InvalidRatios_InvalidInteger, List.forall_mem_cons.mpr ⟨x_InvalidRow_InvalidInteger, List.forall_mem_cons.mpr ⟨x_InvalidText_InvalidInteger, List.forall_mem_cons.mpr ⟨x_BadText_InvalidInteger, List.forall_mem_cons.mpr ⟨x_NoQuotient_InvalidInteger, List.forall_mem_cons.mpr ⟨x_UnlikeLengths_InvalidInteger, fun _ z => nomatch z⟩⟩⟩⟩⟩⟩⟩) (List.forall_mem_cons.mpr ⟨x_InvalidRatios_InvalidRatio, List.forall_mem_cons.mpr ⟨x_InvalidRow_InvalidRatio, List.forall_mem_cons.mpr ⟨x_InvalidText_InvalidRatio, List.forall_mem_cons.mpr ⟨x_BadText_InvalidRatio, List.forall_mem_cons.mpr ⟨x_NoQuotient_InvalidRatio, List.forall_mem_cons.mpr ⟨x_UnlikeLengths_InvalidRatio, fun _ z => nomatch z⟩⟩⟩⟩⟩⟩) (List.forall_mem_cons.mpr ⟨x_InvalidRow_InvalidRatios, List.forall_mem_cons.mpr ⟨x_InvalidText_InvalidRatios, List.forall_mem_cons.mpr ⟨x_BadText_InvalidRatios, List.forall_mem_cons.mpr ⟨x_NoQuotient_InvalidRatios, List.forall_mem_cons.mpr ⟨x_UnlikeLengths_InvalidRatios, fun _ z => nomatch z⟩⟩⟩⟩⟩) (List.forall_mem_cons.mpr ⟨x_InvalidText_InvalidRow, List.forall_mem_cons.mpr ⟨x_BadText_InvalidRow, List.forall_mem_cons.mpr ⟨x_NoQuotient_InvalidRow, List.forall_mem_cons.mpr ⟨x_UnlikeLengths_InvalidRow, fun _ z => nomatch z⟩⟩⟩⟩) z_repr z_isinstance) T_InvalidText T_BadText N_NoQuotient N_UnlikeLengths K_InvalidText K_BadText K_NoQuotient K_UnlikeLengths (List.forall_mem_cons.mpr ⟨x_BadText_InvalidText, List.forall_mem_cons.mpr ⟨x_NoQuotient_InvalidText, List.forall_mem_cons.mpr ⟨x_UnlikeLengths_InvalidText, fun _ z => nomatch z⟩⟩⟩) (List.forall_mem_cons.mpr ⟨x_NoQuotient_BadText, List.forall_mem_cons.mpr ⟨x_UnlikeLengths_BadText, fun _ z => nomatch z⟩⟩) (List.forall_mem_cons.mpr ⟨x_UnlikeLengths_NoQuotient, fun _ z => nomatch z⟩) z_repr z_isinstance)
  have o_is_integer := fun base => ow_is_integer (P := P) (w := w) (base := base) m_is_integer z_bool z_int z_isinstance WL.pu_is_integer
  have o_is_listed := fun base => ow_is_listed (P := P) (w := w) (base := base) m_is_listed z_isinstance z_list z_tuple K28.pu_is_listed
  have o_is_tuple_of := fun base => ow_is_tuple_of (P := P) (w := w) (base := base) m_is_tuple_of z_isinstance z_len z_tuple WL.pu_is_tuple_of
  have o_law_pot := fun base => ow_law_pot (P := P) (w := w) (base := base) m_law_pot z_abs z_int z_len z_max pu_law_pot
  have o_law_draw := fun base => ow_law_draw (P := P) (w := w) (base := base) m_law_draw z_divmod z_int pu_law_draw
  have o_law_common := fun base => ow_law_common (P := P) (w := w) (base := base) m_law_common z_abs K11.pu_law_common
  have o_are_integers := fun base => ow_are_integers (P := P) (w := w) (base := base) m_are_integers z_all (o_is_integer base) K52.pu_are_integers
  have o_is_ratio := fun base => ow_is_ratio (P := P) (w := w) (base := base) m_is_ratio z_gcd (o_is_integer base) (o_is_tuple_of base) K11.pu_is_ratio
  have o_law_ratio := fun base => ow_law_ratio (P := P) (w := w) (base := base) m_law_ratio (o_law_common base) pu_law_ratio
  have oE_check_text := fun base => owE_check_text (P := P) (w := w) (base := base) m_check_text z_isinstance z_str T_InvalidText
  have oE_check_integer := fun base => owE_check_integer (P := P) (w := w) (base := base) m_check_integer T_InvalidInteger (o_is_integer base)
  have oE_check_ratio := fun base => owE_check_ratio (P := P) (w := w) (base := base) m_check_ratio T_InvalidRatio (o_is_ratio base)
  have oE_digits_end := fun base => owE_digits_end (P := P) (w := w) (base := base) m_digits_end z_len T_BadText
  have o_is_row := fun base => ow_is_row (P := P) (w := w) (base := base) m_is_row z_isinstance z_len z_tuple (o_are_integers base) pu_is_row
  have oE_check_ratio_list := fun base => owE_check_ratio_list (P := P) (w := w) (base := base) m_check_ratio_list z_all z_len T_InvalidRatios (o_is_listed base) (o_is_ratio base)
  have oE_check_ratios := fun base => owE_check_ratios (P := P) (w := w) (base := base) m_check_ratios (oE_check_ratio base)
  have oE_made := fun base => owE_made (P := P) (w := w) (base := base) m_made N_NoQuotient (oE_check_integer base)
  have oE_floor_of := fun base => owE_floor_of (P := P) (w := w) (base := base) m_floor_of (oE_check_ratio base)
  have oE_ceiling_of := fun base => owE_ceiling_of (P := P) (w := w) (base := base) m_ceiling_of (oE_check_ratio base)
  have oE_ratio_text := fun base => owE_ratio_text (P := P) (w := w) (base := base) m_ratio_text (oE_check_ratio base)
  have oE_parse_ratio := fun base => owE_parse_ratio (P := P) (w := w) (base := base) m_parse_ratio (oE_check_text base) (oE_digits_end base)
  have oE_check_row := fun base => owE_check_row (P := P) (w := w) (base := base) m_check_row T_InvalidRow (o_is_row base)
  have oE_common_under := fun base => owE_common_under (P := P) (w := w) (base := base) m_common_under z_lcm (oE_check_ratio_list base)
  have oE_plus := fun base => owE_plus (P := P) (w := w) (base := base) m_plus (oE_check_ratios base)
  have oE_minus := fun base => owE_minus (P := P) (w := w) (base := base) m_minus (oE_check_ratios base)
  have oE_times := fun base => owE_times (P := P) (w := w) (base := base) m_times (oE_check_ratios base)
  have oE_over := fun base => owE_over (P := P) (w := w) (base := base) m_over N_NoQuotient (oE_check_ratios base)
  have oE_compared := fun base => owE_compared (P := P) (w := w) (base := base) m_compared (oE_check_ratios base)
  have oE_check_rows := fun base => owE_check_rows (P := P) (w := w) (base := base) m_check_rows z_len N_UnlikeLengths (oE_check_row base)
  have oE_row_taken := fun base => owE_row_taken (P := P) (w := w) (base := base) m_row_taken (oE_check_integer base) (oE_check_row base)
  have oE_row_divisor := fun base => owE_row_divisor (P := P) (w := w) (base := base) m_row_divisor z_gcd (oE_check_row base)
  have oE_whole_row := fun base => owE_whole_row (P := P) (w := w) (base := base) m_whole_row z_tuple (oE_common_under base)
  have oE_ratios_of := fun base => owE_ratios_of (P := P) (w := w) (base := base) m_ratios_of N_NoQuotient (oE_check_integer base) (oE_check_row base)
  have oE_row_product := fun base => owE_row_product (P := P) (w := w) (base := base) m_row_product (oE_check_rows base)
  have oE_row_sum := fun base => owE_row_sum (P := P) (w := w) (base := base) m_row_sum (oE_check_rows base)
  have oE_row_reduced := fun base => owE_row_reduced (P := P) (w := w) (base := base) m_row_reduced (oE_row_divisor base)
  refine ⟨fd, ?_, fun base TB0 TB1 TB2 TB3 => ?_⟩
  · obtain ⟨oc, od, kV, doc, pm, an, cdv, ct, osl, rfl, lk, hcd⟩ := F.ex
    exact fun s v => .of_eq rfl
  have o_law_integers_right := ow_law_integers_right (P := P) (w := w) (base := base) m_law_integers_right hcode_law_integers_right TB0 z_repr oT oE_made oE_over oE_row_taken oE_ratios_of pu_law_integers_right
  have o_law_ratios_right := ow_law_ratios_right (P := P) (w := w) (base := base) m_law_ratios_right hcode_law_ratios_right TB1 z_repr oT oE_plus oE_minus oE_times oE_over oE_compared oE_floor_of oE_ceiling_of oE_ratio_text pu_law_ratios_right
  have o_law_lists_right := ow_law_lists_right (P := P) (w := w) (base := base) m_law_lists_right hcode_law_lists_right TB2 z_list z_repr oT oE_row_product oE_row_sum oE_row_taken oE_row_divisor oE_row_reduced oE_common_under oE_whole_row oE_ratios_of pu_law_lists_right
  exact fn_law F hf hcode_law TB3 z_repr oT oE_parse_ratio (o_law_pot base) (o_law_draw base) (o_law_ratio base) o_law_integers_right o_law_ratios_right o_law_lists_right pu_law
end K10
open PySem PySem.W PyProof.Rows
set_option maxHeartbeats 0 in
theorem PySem.Challenge.cw_wishways_k10_numbers_refused_holds : PySem.Challenge.rw_wishways_k10_numbers_refused.Holds := by
  w_on; o_law; k_head; (case hw => w_witness2)
  k_fill
  refine DL.walkGTs (l := PySem.Challenge.rw_wishways_k10_numbers_refused) (n := 63) (k := 12) (x := "script") (ys := ["_law_integers_right", "_law_ratios_right", "_law_lists_right", "law"]) (sp := fun L K => DL.SpD K 1 (DL.lawTs ((L.map Prod.snd).zip K10.tabN))) rfl (by decide) rfl ⟨⟨rfl, by decide, by decide⟩, rfl⟩ (fun w h Y => PySem.W.km_in_of Y) (List.forall_mem_cons.mpr ⟨⟨_, rfl⟩, List.forall_mem_cons.mpr ⟨⟨_, rfl⟩, List.forall_mem_cons.mpr ⟨⟨_, rfl⟩, List.forall_mem_cons.mpr ⟨⟨_, rfl⟩, fun _ z => nomatch z⟩⟩⟩⟩) ?T ?F (fun L K H a ns hlen nd hl hP hS => DL.law_spZ K H a ns hlen nd hl hP hS)
  case T =>
    apply Exists.intro
    refine' ⟨?t, ?n⟩
    case t =>
      apply DL.tabsY_cons
      · intro P; refine' ⟨DL.tabIn_of ?ta0 ?tl0 ?tb0 ?tc0 ?td0, ?te0⟩; (case ta0 => k_is); (case tl0 => k_is); (case tb0 => rfl); (case tc0 => k_is); (case td0 => rfl); (case te0 => rfl)
      apply DL.tabsY_cons
      · intro P; refine' ⟨DL.tabIn_of ?ta1 ?tl1 ?tb1 ?tc1 ?td1, ?te1⟩; (case ta1 => k_is); (case tl1 => k_is); (case tb1 => rfl); (case tc1 => k_is); (case td1 => rfl); (case te1 => rfl)
      apply DL.tabsY_cons
      · intro P; refine' ⟨DL.tabIn_of ?ta2 ?tl2 ?tb2 ?tc2 ?td2, ?te2⟩; (case ta2 => k_is); (case tl2 => k_is); (case tb2 => rfl); (case tc2 => k_is); (case td2 => rfl); (case te2 => rfl)
      apply DL.tabsY_cons
      · intro P; refine' ⟨DL.tabIn_of ?ta3 ?tl3 ?tb3 ?tc3 ?td3, ?te3⟩; (case ta3 => k_is); (case tl3 => k_is); (case tb3 => rfl); (case tc3 => k_is); (case td3 => rfl); (case te3 => rfl)
      exact DL.tabsY_nil
    case n => decide
  case F =>
    intro L hL w mg fa h KX G hmg
    obtain ⟨p0, p1, p2, p3, rfl⟩ : ∃ p0 p1 p2 p3, L = [p0, p1, p2, p3] := by
      have e := congrArg List.length (hL w.params)
      simp only [List.length_map, List.length_cons, List.length_nil] at e
      match L, e with
      | [p0, p1, p2, p3], _ => exact ⟨p0, p1, p2, p3, rfl⟩
    have tl := hL w.params
    simp only [List.map_cons, List.map_nil, List.cons.injEq] at tl
    obtain ⟨t0, t1, t2, t3, _⟩ := tl
    refine' DL.step_of (x := "is_integer") (st := K10.s_is_integer) KX G ?a ?l ?c ?k (fun m_is_integer => ?_)
    (case a => k_is); (case l => k_is); (case c => k_is); (case k => k_is)
    refine' DL.step_of (x := "is_listed") (st := K10.s_is_listed) KX G ?a ?l ?c ?k (fun m_is_listed => ?_)
    (case a => k_is); (case l => k_is); (case c => k_is); (case k => k_is)
    refine' DL.step_of (x := "is_tuple_of") (st := K10.s_is_tuple_of) KX G ?a ?l ?c ?k (fun m_is_tuple_of => ?_)
    (case a => k_is); (case l => k_is); (case c => k_is); (case k => k_is)
    refine' DL.step_of (x := "are_integers") (st := K10.s_are_integers) KX G ?a ?l ?c ?k (fun m_are_integers => ?_)
    (case a => k_is); (case l => k_is); (case c => k_is); (case k => k_is)
    refine' DL.step_of (x := "check_text") (st := K10.s_check_text) KX G ?a ?l ?c ?k (fun m_check_text => ?_)
    (case a => k_is); (case l => k_is); (case c => k_is); (case k => k_is)
    refine' DL.step_of (x := "is_ratio") (st := K10.s_is_ratio) KX G ?a ?l ?c ?k (fun m_is_ratio => ?_)
    (case a => k_is); (case l => k_is); (case c => k_is); (case k => k_is)
    refine' DL.step_of (x := "check_integer") (st := K10.s_check_integer) KX G ?a ?l ?c ?k (fun m_check_integer => ?_)
    (case a => k_is); (case l => k_is); (case c => k_is); (case k => k_is)
    refine' DL.step_of (x := "check_ratio") (st := K10.s_check_ratio) KX G ?a ?l ?c ?k (fun m_check_ratio => ?_)
    (case a => k_is); (case l => k_is); (case c => k_is); (case k => k_is)
    refine' DL.step_of (x := "check_ratios") (st := K10.s_check_ratios) KX G ?a ?l ?c ?k (fun m_check_ratios => ?_)
    (case a => k_is); (case l => k_is); (case c => k_is); (case k => k_is)
    refine' DL.step_of (x := "made") (st := K10.s_made) KX G ?a ?l ?c ?k (fun m_made => ?_)
    (case a => k_is); (case l => k_is); (case c => k_is); (case k => k_is)
    refine' DL.step_of (x := "plus") (st := K10.s_plus) KX G ?a ?l ?c ?k (fun m_plus => ?_)
    (case a => k_is); (case l => k_is); (case c => k_is); (case k => k_is)
    refine' DL.step_of (x := "minus") (st := K10.s_minus) KX G ?a ?l ?c ?k (fun m_minus => ?_)
    (case a => k_is); (case l => k_is); (case c => k_is); (case k => k_is)
    refine' DL.step_of (x := "times") (st := K10.s_times) KX G ?a ?l ?c ?k (fun m_times => ?_)
    (case a => k_is); (case l => k_is); (case c => k_is); (case k => k_is)
    refine' DL.step_of (x := "over") (st := K10.s_over) KX G ?a ?l ?c ?k (fun m_over => ?_)
    (case a => k_is); (case l => k_is); (case c => k_is); (case k => k_is)
    refine' DL.step_of (x := "compared") (st := K10.s_compared) KX G ?a ?l ?c ?k (fun m_compared => ?_)
    (case a => k_is); (case l => k_is); (case c => k_is); (case k => k_is)
    refine' DL.step_of (x := "floor_of") (st := K10.s_floor_of) KX G ?a ?l ?c ?k (fun m_floor_of => ?_)
    (case a => k_is); (case l => k_is); (case c => k_is); (case k => k_is)
    refine' DL.step_of (x := "ceiling_of") (st := K10.s_ceiling_of) KX G ?a ?l ?c ?k (fun m_ceiling_of => ?_)
    (case a => k_is); (case l => k_is); (case c => k_is); (case k => k_is)
    refine' DL.step_of (x := "ratio_text") (st := K10.s_ratio_text) KX G ?a ?l ?c ?k (fun m_ratio_text => ?_)
    (case a => k_is); (case l => k_is); (case c => k_is); (case k => k_is)
    refine' DL.step_of (x := "parse_ratio") (st := K10.s_parse_ratio) KX G ?a ?l ?c ?k (fun m_parse_ratio => ?_)
    (case a => k_is); (case l => k_is); (case c => k_is); (case k => k_is)
    refine' DL.step_of (x := "digits_end") (st := K10.s_digits_end) KX G ?a ?l ?c ?k (fun m_digits_end => ?_)
    (case a => k_is); (case l => k_is); (case c => k_is); (case k => k_is)
    refine' DL.step_of (x := "is_row") (st := K10.s_is_row) KX G ?a ?l ?c ?k (fun m_is_row => ?_)
    (case a => k_is); (case l => k_is); (case c => k_is); (case k => k_is)
    refine' DL.step_of (x := "check_row") (st := K10.s_check_row) KX G ?a ?l ?c ?k (fun m_check_row => ?_)
    (case a => k_is); (case l => k_is); (case c => k_is); (case k => k_is)
    refine' DL.step_of (x := "check_rows") (st := K10.s_check_rows) KX G ?a ?l ?c ?k (fun m_check_rows => ?_)
    (case a => k_is); (case l => k_is); (case c => k_is); (case k => k_is)
    refine' DL.step_of (x := "check_ratio_list") (st := K10.s_check_ratio_list) KX G ?a ?l ?c ?k (fun m_check_ratio_list => ?_)
    (case a => k_is); (case l => k_is); (case c => k_is); (case k => k_is)
    refine' DL.step_of (x := "row_product") (st := K10.s_row_product) KX G ?a ?l ?c ?k (fun m_row_product => ?_)
    (case a => k_is); (case l => k_is); (case c => k_is); (case k => k_is)
    refine' DL.step_of (x := "row_sum") (st := K10.s_row_sum) KX G ?a ?l ?c ?k (fun m_row_sum => ?_)
    (case a => k_is); (case l => k_is); (case c => k_is); (case k => k_is)
    refine' DL.step_of (x := "row_taken") (st := K10.s_row_taken) KX G ?a ?l ?c ?k (fun m_row_taken => ?_)
    (case a => k_is); (case l => k_is); (case c => k_is); (case k => k_is)
    refine' DL.step_of (x := "row_divisor") (st := K10.s_row_divisor) KX G ?a ?l ?c ?k (fun m_row_divisor => ?_)
    (case a => k_is); (case l => k_is); (case c => k_is); (case k => k_is)
    refine' DL.step_of (x := "row_reduced") (st := K10.s_row_reduced) KX G ?a ?l ?c ?k (fun m_row_reduced => ?_)
    (case a => k_is); (case l => k_is); (case c => k_is); (case k => k_is)
    refine' DL.step_of (x := "common_under") (st := K10.s_common_under) KX G ?a ?l ?c ?k (fun m_common_under => ?_)
    (case a => k_is); (case l => k_is); (case c => k_is); (case k => k_is)
    refine' DL.step_of (x := "whole_row") (st := K10.s_whole_row) KX G ?a ?l ?c ?k (fun m_whole_row => ?_)
    (case a => k_is); (case l => k_is); (case c => k_is); (case k => k_is)
    refine' DL.step_of (x := "ratios_of") (st := K10.s_ratios_of) KX G ?a ?l ?c ?k (fun m_ratios_of => ?_)
    (case a => k_is); (case l => k_is); (case c => k_is); (case k => k_is)
    refine' DL.step_of (x := "_law_pot") (st := K10.s_law_pot) KX G ?a ?l ?c ?k (fun m_law_pot => ?_)
    (case a => k_is); (case l => k_is); (case c => k_is); (case k => k_is)
    refine' DL.step_of (x := "_law_draw") (st := K10.s_law_draw) KX G ?a ?l ?c ?k (fun m_law_draw => ?_)
    (case a => k_is); (case l => k_is); (case c => k_is); (case k => k_is)
    refine' DL.step_of (x := "_law_common") (st := K10.s_law_common) KX G ?a ?l ?c ?k (fun m_law_common => ?_)
    (case a => k_is); (case l => k_is); (case c => k_is); (case k => k_is)
    refine' DL.step_of (x := "_law_ratio") (st := K10.s_law_ratio) KX G ?a ?l ?c ?k (fun m_law_ratio => ?_)
    (case a => k_is); (case l => k_is); (case c => k_is); (case k => k_is)
    refine' DL.step_of (x := "_law_heard_kinds") (st := K10.s_hk) KX G ?a ?l ?c ?k (fun m_law_heard_kinds => ?_)
    (case a => k_is); (case l => k_is); (case c => k_is); (case k => k_is)
    refine' DL.step_of (x := "_law_heard") (st := K10.s_h) KX G ?a ?l ?c ?k (fun m_law_heard => ?_)
    (case a => k_is); (case l => k_is); (case c => k_is); (case k => k_is)
    refine' DL.step_of (x := "_law_all") (st := K10.s_all) KX G ?a ?l ?c ?k (fun m_law_all => ?_)
    (case a => k_is); (case l => k_is); (case c => k_is); (case k => k_is)
    refine' DL.step_of (x := "_law_integers_right") (st := K10.s_law_integers_right) KX G ?a ?l ?c ?k (fun m_law_integers_right => ?_)
    (case a => k_is); (case l => k_is); (case c => k_is); (case k => k_is)
    refine' DL.step_of (x := "_law_ratios_right") (st := K10.s_law_ratios_right) KX G ?a ?l ?c ?k (fun m_law_ratios_right => ?_)
    (case a => k_is); (case l => k_is); (case c => k_is); (case k => k_is)
    refine' DL.step_of (x := "_law_lists_right") (st := K10.s_law_lists_right) KX G ?a ?l ?c ?k (fun m_law_lists_right => ?_)
    (case a => k_is); (case l => k_is); (case c => k_is); (case k => k_is)
    refine' DL.step_of (x := "law") (st := K10.s_law) KX G ?a ?l ?c ?k (fun m_law => ?_)
    (case a => k_is); (case l => k_is); (case c => k_is); (case k => k_is)
    have z_abs : mg "abs" = none := by
      refine' PySem.W.mg_none_of KX G ?a
      (case a => k_is)
    have z_all : mg "all" = none := by
      refine' PySem.W.mg_none_of KX G ?a
      (case a => k_is)
    have z_bool : mg "bool" = none := by
      refine' PySem.W.mg_none_of KX G ?a
      (case a => k_is)
    have z_divmod : mg "divmod" = none := by
      refine' PySem.W.mg_none_of KX G ?a
      (case a => k_is)
    have z_gcd : mg "gcd" = some (.builtin "math.gcd") := by
      refine' PySem.W.mg_of KX G ?a
      (case a => k_is)
    have z_int : mg "int" = none := by
      refine' PySem.W.mg_none_of KX G ?a
      (case a => k_is)
    have z_isinstance : mg "isinstance" = none := by
      refine' PySem.W.mg_none_of KX G ?a
      (case a => k_is)
    have z_lcm : mg "lcm" = some (.builtin "math.lcm") := by
      refine' PySem.W.mg_of KX G ?a
      (case a => k_is)
    have z_len : mg "len" = none := by
      refine' PySem.W.mg_none_of KX G ?a
      (case a => k_is)
    have z_list : mg "list" = none := by
      refine' PySem.W.mg_none_of KX G ?a
      (case a => k_is)
    have z_max : mg "max" = none := by
      refine' PySem.W.mg_none_of KX G ?a
      (case a => k_is)
    have z_repr : mg "repr" = none := by
      refine' PySem.W.mg_none_of KX G ?a
      (case a => k_is)
    have z_str : mg "str" = none := by
      refine' PySem.W.mg_none_of KX G ?a
      (case a => k_is)
    have z_tuple : mg "tuple" = none := by
      refine' PySem.W.mg_none_of KX G ?a
      (case a => k_is)
    refine' DL.err_of (x := "InvalidInteger") (f := "value") (q := "InvalidInteger.__init__") (st := K10.i_InvalidInteger) KX G ?aC ?xL ?bm ?sa ?ga ?gg ?nb ?a1 ?t1 ?l1 ?c1 ?kf ?kC ?eC ?tC ?hC ?sC (fun T_InvalidInteger => ?_)
    (case aC => k_is); (case xL => k_is); (case bm => decide +kernel); (case sa => k_is); (case ga => k_is); (case gg => k_is); (case nb => k_is)
    (case a1 => k_is); (case t1 => k_is); (case l1 => k_is); (case c1 => k_is); (case kf => k_is)
    (case kC => k_is); (case eC => k_is); (case tC => k_is); (case hC => k_is); (case sC => first | rfl | k_is)
    refine' DL.kin_ofT (bn := "WayError") T_InvalidInteger KX G ?aB ?hB ?tB ?sB ?neB (fun K_InvalidInteger => ?_)
    (case aB => k_is); (case hB => k_is); (case tB => k_is); (case sB => k_is); (case neB => first | rfl | decide +kernel | k_is)
    refine' DL.err_of (x := "InvalidRatio") (f := "value") (q := "InvalidRatio.__init__") (st := K10.i_InvalidRatio) KX G ?aC ?xL ?bm ?sa ?ga ?gg ?nb ?a1 ?t1 ?l1 ?c1 ?kf ?kC ?eC ?tC ?hC ?sC (fun T_InvalidRatio => ?_)
    (case aC => k_is); (case xL => k_is); (case bm => decide +kernel); (case sa => k_is); (case ga => k_is); (case gg => k_is); (case nb => k_is)
    (case a1 => k_is); (case t1 => k_is); (case l1 => k_is); (case c1 => k_is); (case kf => k_is)
    (case kC => k_is); (case eC => k_is); (case tC => k_is); (case hC => k_is); (case sC => first | rfl | k_is)
    refine' DL.kin_ofT (bn := "WayError") T_InvalidRatio KX G ?aB ?hB ?tB ?sB ?neB (fun K_InvalidRatio => ?_)
    (case aB => k_is); (case hB => k_is); (case tB => k_is); (case sB => k_is); (case neB => first | rfl | decide +kernel | k_is)
    refine' DL.err_of (x := "InvalidText") (f := "value") (q := "InvalidText.__init__") (st := K10.i_InvalidText) KX G ?aC ?xL ?bm ?sa ?ga ?gg ?nb ?a1 ?t1 ?l1 ?c1 ?kf ?kC ?eC ?tC ?hC ?sC (fun T_InvalidText => ?_)
    (case aC => k_is); (case xL => k_is); (case bm => decide +kernel); (case sa => k_is); (case ga => k_is); (case gg => k_is); (case nb => k_is)
    (case a1 => k_is); (case t1 => k_is); (case l1 => k_is); (case c1 => k_is); (case kf => k_is)
    (case kC => k_is); (case eC => k_is); (case tC => k_is); (case hC => k_is); (case sC => first | rfl | k_is)
    refine' DL.kin_ofT (bn := "WayError") T_InvalidText KX G ?aB ?hB ?tB ?sB ?neB (fun K_InvalidText => ?_)
    (case aB => k_is); (case hB => k_is); (case tB => k_is); (case sB => k_is); (case neB => first | rfl | decide +kernel | k_is)
    refine' DL.err_of (x := "BadText") (f := "position") (q := "BadText.__init__") (st := K10.i_BadText) KX G ?aC ?xL ?bm ?sa ?ga ?gg ?nb ?a1 ?t1 ?l1 ?c1 ?kf ?kC ?eC ?tC ?hC ?sC (fun T_BadText => ?_)
    (case aC => k_is); (case xL => k_is); (case bm => decide +kernel); (case sa => k_is); (case ga => k_is); (case gg => k_is); (case nb => k_is)
    (case a1 => k_is); (case t1 => k_is); (case l1 => k_is); (case c1 => k_is); (case kf => k_is)
    (case kC => k_is); (case eC => k_is); (case tC => k_is); (case hC => k_is); (case sC => first | rfl | k_is)
    refine' DL.kin_ofT (bn := "WayError") T_BadText KX G ?aB ?hB ?tB ?sB ?neB (fun K_BadText => ?_)
    (case aB => k_is); (case hB => k_is); (case tB => k_is); (case sB => k_is); (case neB => first | rfl | decide +kernel | k_is)
    refine' DL.err_of (x := "InvalidRatios") (f := "value") (q := "InvalidRatios.__init__") (st := K10.i_InvalidRatios) KX G ?aC ?xL ?bm ?sa ?ga ?gg ?nb ?a1 ?t1 ?l1 ?c1 ?kf ?kC ?eC ?tC ?hC ?sC (fun T_InvalidRatios => ?_)
    (case aC => k_is); (case xL => k_is); (case bm => decide +kernel); (case sa => k_is); (case ga => k_is); (case gg => k_is); (case nb => k_is)
    (case a1 => k_is); (case t1 => k_is); (case l1 => k_is); (case c1 => k_is); (case kf => k_is)
    (case kC => k_is); (case eC => k_is); (case tC => k_is); (case hC => k_is); (case sC => first | rfl | k_is)
    refine' DL.kin_ofT (bn := "WayError") T_InvalidRatios KX G ?aB ?hB ?tB ?sB ?neB (fun K_InvalidRatios => ?_)
    (case aB => k_is); (case hB => k_is); (case tB => k_is); (case sB => k_is); (case neB => first | rfl | decide +kernel | k_is)
    refine' DL.err_of (x := "InvalidRow") (f := "value") (q := "InvalidRow.__init__") (st := K10.i_InvalidRow) KX G ?aC ?xL ?bm ?sa ?ga ?gg ?nb ?a1 ?t1 ?l1 ?c1 ?kf ?kC ?eC ?tC ?hC ?sC (fun T_InvalidRow => ?_)
    (case aC => k_is); (case xL => k_is); (case bm => decide +kernel); (case sa => k_is); (case ga => k_is); (case gg => k_is); (case nb => k_is)
    (case a1 => k_is); (case t1 => k_is); (case l1 => k_is); (case c1 => k_is); (case kf => k_is)
    (case kC => k_is); (case eC => k_is); (case tC => k_is); (case hC => k_is); (case sC => first | rfl | k_is)
    refine' DL.kin_ofT (bn := "WayError") T_InvalidRow KX G ?aB ?hB ?tB ?sB ?neB (fun K_InvalidRow => ?_)
    (case aB => k_is); (case hB => k_is); (case tB => k_is); (case sB => k_is); (case neB => first | rfl | decide +kernel | k_is)
    refine' DL.errN_of (x := "NoQuotient") KX G PySem.F.excBase_RuntimeError ?aC ?xC ?kC ?eC ?tC ?hC ?sC (fun N_NoQuotient => ?_)
    (case aC => k_is); (case xC => first | k_exc | k_is); (case kC => k_is); (case eC => k_is); (case tC => k_is); (case hC => k_is); (case sC => first | rfl | k_is)
    refine' DL.kin_ofN (bn := "StateError") N_NoQuotient KX G ?aB ?hB ?tB ?sB ?neB (fun K_NoQuotient => ?_)
    (case aB => k_is); (case hB => k_is); (case tB => k_is); (case sB => k_is); (case neB => first | rfl | decide +kernel | k_is)
    refine' DL.errN_of (x := "UnlikeLengths") KX G PySem.F.excBase_RuntimeError ?aC ?xC ?kC ?eC ?tC ?hC ?sC (fun N_UnlikeLengths => ?_)
    (case aC => k_is); (case xC => first | k_exc | k_is); (case kC => k_is); (case eC => k_is); (case tC => k_is); (case hC => k_is); (case sC => first | rfl | k_is)
    refine' DL.kin_ofN (bn := "StateError") N_UnlikeLengths KX G ?aB ?hB ?tB ?sB ?neB (fun K_UnlikeLengths => ?_)
    (case aB => k_is); (case hB => k_is); (case tB => k_is); (case sB => k_is); (case neB => first | rfl | decide +kernel | k_is)
    refine' DL.exm_T T_InvalidInteger T_InvalidRatio.gC ?s (fun x_InvalidRatio_InvalidInteger => ?_); (case s => k_is)
    refine' DL.exm_T T_InvalidInteger T_InvalidRatios.gC ?s (fun x_InvalidRatios_InvalidInteger => ?_); (case s => k_is)
    refine' DL.exm_T T_InvalidInteger T_InvalidRow.gC ?s (fun x_InvalidRow_InvalidInteger => ?_); (case s => k_is)
    refine' DL.exm_T T_InvalidInteger T_InvalidText.gC ?s (fun x_InvalidText_InvalidInteger => ?_); (case s => k_is)
    refine' DL.exm_T T_InvalidInteger T_BadText.gC ?s (fun x_BadText_InvalidInteger => ?_); (case s => k_is)
    refine' DL.exm_T T_InvalidInteger N_NoQuotient.gC ?s (fun x_NoQuotient_InvalidInteger => ?_); (case s => k_is)
    refine' DL.exm_T T_InvalidInteger N_UnlikeLengths.gC ?s (fun x_UnlikeLengths_InvalidInteger => ?_); (case s => k_is)
    refine' DL.exm_T T_InvalidRatio T_InvalidRatios.gC ?s (fun x_InvalidRatios_InvalidRatio => ?_); (case s => k_is)
    refine' DL.exm_T T_InvalidRatio T_InvalidRow.gC ?s (fun x_InvalidRow_InvalidRatio => ?_); (case s => k_is)
    refine' DL.exm_T T_InvalidRatio T_InvalidText.gC ?s (fun x_InvalidText_InvalidRatio => ?_); (case s => k_is)
    refine' DL.exm_T T_InvalidRatio T_BadText.gC ?s (fun x_BadText_InvalidRatio => ?_); (case s => k_is)
    refine' DL.exm_T T_InvalidRatio N_NoQuotient.gC ?s (fun x_NoQuotient_InvalidRatio => ?_); (case s => k_is)
    refine' DL.exm_T T_InvalidRatio N_UnlikeLengths.gC ?s (fun x_UnlikeLengths_InvalidRatio => ?_); (case s => k_is)
    refine' DL.exm_T T_InvalidRatios T_InvalidRow.gC ?s (fun x_InvalidRow_InvalidRatios => ?_); (case s => k_is)
    refine' DL.exm_T T_InvalidRatios T_InvalidText.gC ?s (fun x_InvalidText_InvalidRatios => ?_); (case s => k_is)
    refine' DL.exm_T T_InvalidRatios T_BadText.gC ?s (fun x_BadText_InvalidRatios => ?_); (case s => k_is)
    refine' DL.exm_T T_InvalidRatios N_NoQuotient.gC ?s (fun x_NoQuotient_InvalidRatios => ?_); (case s => k_is)
    refine' DL.exm_T T_InvalidRatios N_UnlikeLengths.gC ?s (fun x_UnlikeLengths_InvalidRatios => ?_); (case s => k_is)
    refine' DL.exm_T T_InvalidRow T_InvalidText.gC ?s (fun x_InvalidText_InvalidRow => ?_); (case s => k_is)
    refine' DL.exm_T T_InvalidRow T_BadText.gC ?s (fun x_BadText_InvalidRow => ?_); (case s => k_is)
    refine' DL.exm_T T_InvalidRow N_NoQuotient.gC ?s (fun x_NoQuotient_InvalidRow => ?_); (case s => k_is)
    refine' DL.exm_T T_InvalidRow N_UnlikeLengths.gC ?s (fun x_UnlikeLengths_InvalidRow => ?_); (case s => k_is)
    refine' DL.exm_T T_InvalidText T_BadText.gC ?s (fun x_BadText_InvalidText => ?_); (case s => k_is)
    refine' DL.exm_T T_InvalidText N_NoQuotient.gC ?s (fun x_NoQuotient_InvalidText => ?_); (case s => k_is)
    refine' DL.exm_T T_InvalidText N_UnlikeLengths.gC ?s (fun x_UnlikeLengths_InvalidText => ?_); (case s => k_is)
    refine' DL.exm_T T_BadText N_NoQuotient.gC ?s (fun x_NoQuotient_BadText => ?_); (case s => k_is)
    refine' DL.exm_T T_BadText N_UnlikeLengths.gC ?s (fun x_UnlikeLengths_BadText => ?_); (case s => k_is)
    refine' DL.exm_N N_NoQuotient N_UnlikeLengths.gC ?hd ?s (fun x_UnlikeLengths_NoQuotient => ?_); (case hd => k_is); (case s => k_is)
    obtain ⟨ci⟩ : Nonempty Unit := ⟨()⟩
    letI : DL.Cls := { InvalidInteger := DL.adT T_InvalidInteger, InvalidRatio := DL.adT T_InvalidRatio, InvalidText := DL.adT T_InvalidText, BadText := DL.adT T_BadText, InvalidRatios := DL.adT T_InvalidRatios, InvalidRow := DL.adT T_InvalidRow, NoQuotient := DL.adN N_NoQuotient, UnlikeLengths := DL.adN N_UnlikeLengths }
    letI : DL.Tabs := ⟨fun i => ([p0, p1, p2, p3].getD i (0, 0)).2⟩
    obtain ⟨fd, hb, hF⟩ := K10.all_law hmg T_InvalidInteger T_InvalidRatio T_InvalidText T_BadText T_InvalidRatios T_InvalidRow N_NoQuotient N_UnlikeLengths K_InvalidInteger K_InvalidRatio K_InvalidText K_BadText K_InvalidRatios K_InvalidRow K_NoQuotient K_UnlikeLengths x_InvalidRatio_InvalidInteger x_InvalidRatios_InvalidInteger x_InvalidRow_InvalidInteger x_InvalidText_InvalidInteger x_BadText_InvalidInteger x_NoQuotient_InvalidInteger x_UnlikeLengths_InvalidInteger x_InvalidRatios_InvalidRatio x_InvalidRow_InvalidRatio x_InvalidText_InvalidRatio x_BadText_InvalidRatio x_NoQuotient_InvalidRatio x_UnlikeLengths_InvalidRatio x_InvalidRow_InvalidRatios x_InvalidText_InvalidRatios x_BadText_InvalidRatios x_NoQuotient_InvalidRatios x_UnlikeLengths_InvalidRatios x_InvalidText_InvalidRow x_BadText_InvalidRow x_NoQuotient_InvalidRow x_UnlikeLengths_InvalidRow x_BadText_InvalidText x_NoQuotient_InvalidText x_UnlikeLengths_InvalidText x_NoQuotient_BadText x_UnlikeLengths_BadText x_UnlikeLengths_NoQuotient (fun f fd F hf => DL.code_of KX G t0 F hf) (fun f fd F hf => DL.code_of KX G t1 F hf) (fun f fd F hf => DL.code_of KX G t2 F hf) (fun f fd F hf => DL.code_of KX G t3 F hf) m_is_integer m_is_listed m_is_tuple_of m_are_integers m_check_text m_is_ratio m_check_integer m_check_ratio m_check_ratios m_made m_plus m_minus m_times m_over m_compared m_floor_of m_ceiling_of m_ratio_text m_parse_ratio m_digits_end m_is_row m_check_row m_check_rows m_check_ratio_list m_row_product m_row_sum m_row_taken m_row_divisor m_row_reduced m_common_under m_whole_row m_ratios_of m_law_pot m_law_draw m_law_common m_law_ratio m_law_heard_kinds m_law_heard m_law_all m_law_integers_right m_law_ratios_right m_law_lists_right m_law z_abs z_all z_bool z_divmod z_gcd z_int z_isinstance z_lcm z_len z_list z_max z_repr z_str z_tuple
    exact ⟨fd, hb, fun base _ _ hT => hF base (hT p0 (by simp)) (hT p1 (by simp)) (hT p2 (by simp)) (hT p3 (by simp))⟩
