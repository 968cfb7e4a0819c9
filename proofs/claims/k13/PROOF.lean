import PyProof.Rows.All
import Wide.All
import OpenK.AllK
import Wide.FinOn
import HandS.ForMost
import HandS.Evl
import HandS.Exc
import HandS.IsInst
import HandS.Zip
import HandS.Gcd
import HandS.Wide
import HandS.WideBits
import HandS.Deep
import HandS.TupAny
import HandS.Lambda
import HandS.TupMul
import HandS.TupLe
import HandS.Style
import PyProof.ReprRoads
import PyProof.CallFns
import KE.DataEq
import KE.SortData
import KE.DataMinMax
import HandS.SortOrd
import HandS.Conv
import HandS.DictTup
import HandS.More
import PyProof.AutoSeq1
import PyProof.ReprLen
import HandS.DictComp
import KE.GoesEnum
import KE.GoesZip
import KE.KTupSum
import HandS.ExcInit
import HandS.ExcField
import HandS.ExcOwn
import HandS.WordsExc
import HandS.ExcIs
import HandS.TupSets
import PyProof.Rows.IntBool
import HandS.SetFor
import HandS.Flow
import KE.KEqDict
import KE.KDictZip
import KE.KDictItemsList
import KE.KDictCopyH
import KE.DataMinKey
import HandS.FltList
import HandS.EndTab
import KE.KNest
import KE.KDictPairs
import KE.GoesMore
import KE.KDictWalk
import HandS.StrMore
import PyProof.StrBlock2
import PySem.Challenge.RW_wishways_k13_any_text_as_ratio
set_option Elab.async false
set_option linter.all false
set_option maxRecDepth 100000
set_option maxHeartbeats 4000000
namespace DL
open PySem PySem.Spec PyProof.Rows L2 Evl
mutual
inductive Dv (K : PySem.W.Frag) (H : Hp) : V → PyData → Prop
  | non : Dv K H .non .none
  | bl (b : Bool) : Dv K H (.bl b) (.bool b)
  | int (i : Int) : Dv K H (.int i) (.int i)
  | str (z : Str) : Dv K H (.str z) (.str z)
  | lst {p : Addr} {vs : List V} {ds : List PyData} : SqL K H p vs → DvAll K H vs ds → Dv K H (.ref p) (.list ds)
  | tup {p : Addr} {vs : List V} {ds : List PyData} : H p = some (.tup vs) → DvAll K H vs ds → Dv K H (.ref p) (.tuple ds)
  | emp {p : Addr} : H p = some (.dK []) → Dv K H (.ref p) (.dict [])
inductive DvAll (K : PySem.W.Frag) (H : Hp) : List V → List PyData → Prop
  | nil : DvAll K H [] []
  | cons {v : V} {vs : List V} {d : PyData} {ds : List PyData} : Dv K H v d → DvAll K H vs ds → DvAll K H (v :: vs) (d :: ds)
end
mutual
theorem Dv.dp {K : PySem.W.Frag} {H : Hp} : ∀ (d : PyData) (v : V), Dv K H v d → d.canLay0 = true → L2.Dp K H v d
  | .none, _, h, _ => by cases h; exact .non
  | .bool _, _, h, _ => by cases h; exact .bl _
  | .int _, _, h, _ => by cases h; exact .int _
  | .str _, _, h, _ => by cases h; exact .str _
  | .list ds, _, h, c => by
    cases h with
    | lst hs ha => exact .lst hs (DvAll.dp ds _ ha (by simpa [PyData.canLay0] using c))
  | .tuple ds, _, h, c => by
    cases h with
    | tup hs ha => exact .tup (SqT.of hs) (DvAll.dp ds _ ha (by simpa [PyData.canLay0] using c))
  | .dict _, _, _, c => by simp [PyData.canLay0] at c
theorem DvAll.dp {K : PySem.W.Frag} {H : Hp} : ∀ (ds : List PyData) (vs : List V), DvAll K H vs ds → PyData.canLayAll0 ds = true → L2.DpAll K H vs ds
  | [], _, h, _ => by cases h; exact .nil
  | d :: ds, _, h, c => by
    have c' : d.canLay0 = true ∧ PyData.canLayAll0 ds = true := by simpa [PyData.canLayAll0] using c
    cases h with
    | cons h1 h2 => exact .cons (Dv.dp d _ h1 c'.1) (DvAll.dp ds _ h2 c'.2)
end
theorem Dv.dpS {K : PySem.W.Frag} {H : Hp} {v : V} {d : PyData} (h : Dv K H v d) (c : SeqAt.shaped d = true) : L2.Dp K H v d := Dv.dp d v h (SeqAt.canLay_of_shaped c)
section
variable {X : Cx} {pins : List (Addr × Obj)} {σ : L2.St} {H : Hp} {s : Shared}
theorem dict_reads (I : Inv X pins σ H s) {p : Addr} (h : H p = some (.dK [])) : Reads s.heap (.ref p) (.dict []) [p] ∧ p ≠ sysModules := by
  obtain ⟨_, ne, vs, kv, o, es, ep, ho, hx, hd, _, hp, _⟩ := I.hok p _ h
  cases kv
  have e : es.toList = [] := List.eq_nil_of_length_eq_zero hp.length
  refine ⟨Reads.dict (as := []) (bs := []) ho hx.1 hd (by rw [e]; exact .nil) (by rw [e]; exact .nil), fun z => ?_⟩
  subst z
  simp at ne
mutual
theorem Dv.reads (I : Inv X pins σ H s) : ∀ (d : PyData) (v : V) (u : Value), Dv X.K H v d → RelV v u → ∃ as, Reads s.heap u d as
  | .none, _, _, h, r => by cases h; cases r; exact ⟨_, Reads.none⟩
  | .bool b, _, _, h, r => by cases h; cases r; exact ⟨_, Reads.bool b⟩
  | .int i, _, _, h, r => by cases h; obtain ⟨t, rfl⟩ := r; exact ⟨_, Reads.int i t⟩
  | .str x, _, _, h, r => by cases h; obtain ⟨t, rfl⟩ := r; exact ⟨_, Reads.str x t⟩
  | .list ds, _, _, h, r => by
    cases h with
    | lst hs ha =>
      cases r
      have ⟨its, rv, q, _⟩ := I.list hs
      have ⟨o, n, ho, hc, _, hd⟩ := q
      have ⟨as, hr⟩ := Dv.readsAll I ds _ its ha rv
      exact ⟨_, Reads.list ho hc hd hr⟩
  | .tuple ds, _, _, h, r => by
    cases h with
    | tup hs ha =>
      cases r
      have ⟨its, rv, q, _⟩ := I.tuple (SqT.of hs)
      have ⟨o, ho, hc, n, hd⟩ := q
      have ⟨as, hr⟩ := Dv.readsAll I ds _ its ha rv
      exact ⟨_, Reads.tuple ho hc hd hr⟩
  | .dict _, _, _, h, r => by
    cases h with
    | emp hs => cases r; exact ⟨_, (dict_reads I hs).1⟩
theorem Dv.readsAll (I : Inv X pins σ H s) : ∀ (ds : List PyData) (vs : List V) (us : List Value), DvAll X.K H vs ds → Vals vs us → ∃ as, ReadsAll s.heap us ds as
  | [], _, _, h, r => by cases h; cases r; exact ⟨_, ReadsAll.nil⟩
  | d :: ds, _, _, h, r => by
    cases h with
    | cons h1 h2 =>
      cases r with
      | cons r1 r2 =>
        have ⟨as, q1⟩ := Dv.reads I d _ _ h1 r1
        have ⟨bs, q2⟩ := Dv.readsAll I ds _ _ h2 r2
        exact ⟨_, ReadsAll.cons q1 q2⟩
end
end
mutual
theorem dp_mono {K : PySem.W.Frag} {H H' : Hp} (e : Ex H H') : ∀ (d : PyData) (v : V), Dv K H v d → Dv K H' v d
  | .none, _, h => by cases h; exact .non
  | .bool _, _, h => by cases h; exact .bl _
  | .int _, _, h => by cases h; exact .int _
  | .str _, _, h => by cases h; exact .str _
  | .list ds, _, h => by
    cases h with
    | lst hs ha => exact .lst (ex_l e hs) (dpAll_mono e ds _ ha)
  | .tuple ds, _, h => by
    cases h with
    | tup hs ha => exact .tup (e _ _ hs) (dpAll_mono e ds _ ha)
  | .dict _, _, h => by
    cases h with
    | emp hs => exact .emp (e _ _ hs)
theorem dpAll_mono {K : PySem.W.Frag} {H H' : Hp} (e : Ex H H') : ∀ (ds : List PyData) (vs : List V), DvAll K H vs ds → DvAll K H' vs ds
  | [], _, h => by cases h; exact .nil
  | d :: ds, _, h => by
    cases h with
    | cons h1 h2 => exact .cons (dp_mono e d _ h1) (dpAll_mono e ds _ h2)
end
section
variable {K : PySem.W.Frag} {H H' : Hp}
theorem Dv.mono {v : V} {d : PyData} (h : Dv K H v d) (e : Ex H H') : Dv K H' v d := dp_mono e d v h
theorem DvAll.mono {vs : List V} {ds : List PyData} (h : DvAll K H vs ds) (e : Ex H H') : DvAll K H' vs ds := dpAll_mono e ds vs h
theorem DvAll.length : ∀ {vs : List V} {ds : List PyData}, DvAll K H vs ds → vs.length = ds.length
  | _, _, .nil => rfl
  | _, _, .cons _ t => by simp [DvAll.length t]
theorem DvAll.app : ∀ {vs us : List V} {ds es : List PyData}, DvAll K H vs ds → DvAll K H us es → DvAll K H (vs ++ us) (ds ++ es)
  | _, _, _, _, .nil, h => h
  | _, _, _, _, .cons a t, h => .cons a (DvAll.app t h)
theorem DvAll.get : ∀ {vs : List V} {ds : List PyData} {i : Nat} {d : PyData}, DvAll K H vs ds → ds[i]? = some d → ∃ v, vs[i]? = some v ∧ Dv K H v d
  | _, _, _, _, .nil, e => by simp at e
  | _, _, 0, _, .cons a _, e => by simp at e; subst e; exact ⟨_, rfl, a⟩
  | _, _, i + 1, d, .cons _ t, e => by
    obtain ⟨v, h1, h2⟩ := DvAll.get (i := i) (d := d) t (by simpa using e)
    exact ⟨v, by simpa using h1, h2⟩
theorem DvAll.set : ∀ {vs : List V} {ds : List PyData} {v : V} {d : PyData} (i : Nat), DvAll K H vs ds → Dv K H v d → DvAll K H (vs.set i v) (ds.set i d)
  | _, _, _, _, _, .nil, _ => .nil
  | _, _, _, _, 0, .cons _ t, h => .cons h t
  | _, _, _, _, i + 1, .cons a t, h => .cons a (DvAll.set i t h)
theorem DvAll.take : ∀ {vs : List V} {ds : List PyData} (n : Nat), DvAll K H vs ds → DvAll K H (vs.take n) (ds.take n)
  | _, _, 0, _ => by simp; exact .nil
  | _, _, _ + 1, .nil => .nil
  | _, _, n + 1, .cons a t => .cons a (DvAll.take n t)
theorem DvAll.drop : ∀ {vs : List V} {ds : List PyData} (n : Nat), DvAll K H vs ds → DvAll K H (vs.drop n) (ds.drop n)
  | _, _, 0, r => r
  | _, _, _ + 1, .nil => .nil
  | _, _, n + 1, .cons _ t => DvAll.drop n t
theorem DvAll.rev : ∀ {vs : List V} {ds : List PyData}, DvAll K H vs ds → DvAll K H vs.reverse ds.reverse
  | _, _, .nil => .nil
  | _, _, .cons a t => by
    rw [List.reverse_cons, List.reverse_cons]
    exact (DvAll.rev t).app (.cons a .nil)
theorem DvAll.ints : ∀ (is : List Int), DvAll K H (is.map V.int) (is.map PyData.int)
  | [] => .nil
  | i :: is => .cons (.int i) (DvAll.ints is)
end
inductive Sl where
  | dat (d : PyData)
  | vw (d : PyData)
  | cell (k : Nat)
  | raw (es : List (Nat ⊕ PyData))
  | rtup (es : List (Nat ⊕ PyData))
inductive Cell where
  | lst (ds : List PyData)
  | dct (kvs : List (Key × PyData))
  | dctT (kvs : List (List Key × PyData))
  | tab (P : Addr) (q : Str)
def Cell.isTab : Cell → Bool
  | .tab .. => true
  | _ => false
abbrev Rho := List (Option Sl)
abbrev Mu := List Cell
structure Wd where
  G : Hp
  F : Hp
  ad : List Addr
structure Le (W W' : Wd) : Prop where
  g : Ex W.G W'.G
  f : Ex W.F W'.F
  n : ∀ b, W.F b ≠ none → W.G b = none → (∀ xs, W.F b ≠ some (.tup xs)) → W'.G b = none
  a : ∀ (k : Nat) (x : Addr), W.ad[k]? = some x → W'.ad[k]? = some x
theorem Le.refl (W : Wd) : Le W W := ⟨Ex.refl _, Ex.refl _, fun _ _ h _ => h, fun _ _ h => h⟩
theorem Le.trans {W W1 W2 : Wd} (a : Le W W1) (b : Le W1 W2) : Le W W2 :=
  ⟨a.g.trans b.g, a.f.trans b.f, fun x h1 h2 h3 => b.n x (fun z => by
      cases q : W.F x with
      | none => exact h1 q
      | some o => rw [a.f x o q] at z; cases z) (a.n x h1 h2 h3) (fun xs z => by
      cases q : W.F x with
      | none => exact h1 q
      | some o => rw [a.f x o q] at z; cases z; exact h3 xs q), fun k x h => b.a k x (a.a k x h)⟩
def TblOk (G : Hp) (q : Str) (ps : Array Value) : Prop := TriplesOk ps.toList ∧ ∀ (pos : Pos) (cv : Value), codeAmong pos ps.toList = some cv → ∃ c, cv = .ref c ∧ G c = some (LamX.CodeO c q)
theorem TblOk.mono {G G' : Hp} (e : Ex G G') {q : Str} {ps : Array Value} (h : TblOk G q ps) : TblOk G' q ps := ⟨h.1, fun pos cv hc => let ⟨c, h1, h2⟩ := h.2 pos cv hc; ⟨c, h1, e _ _ h2⟩⟩
def CellOk (K : PySem.W.Frag) (G : Hp) : HO → Cell → Prop
  | .lst xs, .lst ds => DvAll K G xs ds
  | .dK kvs, .dct es => Paired (fun (p : Key × V) (q : Key × PyData) => p.1 = q.1 ∧ Dv K G p.2 q.2) kvs es
  | .dT kvs, .dctT es => Paired (fun (p : List Key × V) (q : List Key × PyData) => p.1 = q.1 ∧ Dv K G p.2 q.2) kvs es
  | .tbl ps, .tab _ q => TblOk G q ps
  | _, _ => False
theorem CellOk.mono {K : PySem.W.Frag} {G G' : Hp} (e : Ex G G') {o : HO} {c : Cell} (h : CellOk K G o c) : CellOk K G' o c := by
  cases c with
  | tab P q => cases o <;> first | exact TblOk.mono e h | exact False.elim h
  | lst ds => cases o <;> first | exact DvAll.mono (show DvAll K G _ ds from h) e | exact False.elim h
  | dct es => cases o <;> first | exact Paired.mapP (show Paired _ _ es from h) (fun p q z => ⟨z.1, z.2.mono e⟩) | exact False.elim h
  | dctT es => cases o <;> first | exact Paired.mapP (show Paired _ _ es from h) (fun p q z => ⟨z.1, z.2.mono e⟩) | exact False.elim h
structure Rep (K : PySem.W.Frag) (W : Wd) (H : Hp) (μ : Mu) : Prop where
  gf : Ex W.G W.F
  fh : Ex W.F H
  len : W.ad.length = μ.length
  nd : ∀ (i j : Nat) (a : Addr), W.ad[i]? = some a → W.ad[j]? = some a → i = j
  cell : ∀ (k : Nat) (a : Addr) (c : Cell), W.ad[k]? = some a → μ[k]? = some c → W.F a = none ∧ ∃ o, H a = some o ∧ CellOk K W.G o c
  tab : ∀ (k : Nat) (P : Addr) (q : Str), μ[k]? = some (.tab P q) → W.ad[k]? = some P
theorem Rep.gh {K : PySem.W.Frag} {W : Wd} {H : Hp} {μ : Mu} (r : Rep K W H μ) : Ex W.G H := r.gf.trans r.fh
def ItOk1 (K : PySem.W.Frag) (W : Wd) (v : V) : Nat ⊕ PyData → Prop
  | .inl k => ∃ a, W.ad[k]? = some a ∧ v = .ref a
  | .inr d => Dv K W.G v d
theorem ItOk1.mono {K : PySem.W.Frag} {W W' : Wd} (l : Le W W') {v : V} {e : Nat ⊕ PyData} (h : ItOk1 K W v e) : ItOk1 K W' v e := by
  cases e with
  | inl k => obtain ⟨a, h1, h2⟩ := h; exact ⟨a, l.a k a h1, h2⟩
  | inr d => exact Dv.mono (show Dv K W.G v d from h) l.g
def RefsAll (K : PySem.W.Frag) (W : Wd) (xs : List V) (es : List (Nat ⊕ PyData)) : Prop := xs.length = es.length ∧ ∀ (i : Nat) (e : Nat ⊕ PyData), es[i]? = some e → ∃ u, xs[i]? = some u ∧ ItOk1 K W u e
theorem RefsAll.le {K : PySem.W.Frag} {W W' : Wd} {xs : List V} {es : List (Nat ⊕ PyData)} (h : RefsAll K W xs es) (l : Le W W') : RefsAll K W' xs es := ⟨h.1, fun i e z => let ⟨u, z1, z2⟩ := h.2 i e z; ⟨u, z1, z2.mono l⟩⟩
def SlOk (K : PySem.W.Frag) (W : Wd) (v : V) : Sl → Prop
  | .dat d => Dv K W.G v d
  | .vw d => Dv K W.F v d
  | .cell k => ∃ a, W.ad[k]? = some a ∧ v = .ref a
  | .raw es => ∃ p xs, v = .ref p ∧ W.F p = some (.lst xs) ∧ RefsAll K W xs es
  | .rtup es => ∃ p xs, v = .ref p ∧ W.F p = some (.tup xs) ∧ RefsAll K W xs es
theorem SlOk.mono {K : PySem.W.Frag} {W W' : Wd} (l : Le W W') {v : V} {s : Sl} (h : SlOk K W v s) : SlOk K W' v s := by
  cases s with
  | dat d => exact Dv.mono (show Dv K W.G v d from h) l.g
  | vw d => exact Dv.mono (show Dv K W.F v d from h) l.f
  | cell k => obtain ⟨a, h1, h2⟩ := h; exact ⟨a, l.a k a h1, h2⟩
  | raw es => obtain ⟨p, xs, h1, h2, h3⟩ := h; exact ⟨p, xs, h1, l.f _ _ h2, h3.le l⟩
  | rtup es => obtain ⟨p, xs, h1, h2, h3⟩ := h; exact ⟨p, xs, h1, l.f _ _ h2, h3.le l⟩
inductive SlAll (K : PySem.W.Frag) (W : Wd) : List V → List Sl → Prop
  | nil : SlAll K W [] []
  | cons {v : V} {vs : List V} {s : Sl} {ss : List Sl} : SlOk K W v s → SlAll K W vs ss → SlAll K W (v :: vs) (s :: ss)
theorem SlAll.mono {K : PySem.W.Frag} {W W' : Wd} (l : Le W W') : ∀ {vs : List V} {ss : List Sl}, SlAll K W vs ss → SlAll K W' vs ss
  | _, _, .nil => .nil
  | _, _, .cons a t => .cons (a.mono l) (SlAll.mono l t)
theorem SlAll.length {K : PySem.W.Frag} {W : Wd} : ∀ {vs : List V} {ss : List Sl}, SlAll K W vs ss → vs.length = ss.length
  | _, _, .nil => rfl
  | _, _, .cons _ t => by simp [SlAll.length t]
theorem SlAll.get {K : PySem.W.Frag} {W : Wd} : ∀ {vs : List V} {ss : List Sl} {i : Nat} {s : Sl}, SlAll K W vs ss → ss[i]? = some s → ∃ v, vs[i]? = some v ∧ SlOk K W v s
  | _, _, _, _, .nil, e => by simp at e
  | _, _, 0, _, .cons a _, e => by simp at e; subst e; exact ⟨_, rfl, a⟩
  | _, _, i + 1, d, .cons _ t, e => by
    obtain ⟨v, h1, h2⟩ := SlAll.get (i := i) (s := d) t (by simpa using e)
    exact ⟨v, by simpa using h1, h2⟩
structure EnvOk (K : PySem.W.Frag) (W : Wd) (σ : L2.St) (ρ : Rho) : Prop where
  len : σ.length = ρ.length
  get : ∀ (i : Nat) (s : Sl), ρ[i]? = some (some s) → ∃ v, σ[i]? = some (some v) ∧ SlOk K W v s
theorem EnvOk.mono {K : PySem.W.Frag} {W W' : Wd} {σ : L2.St} {ρ : Rho} (h : EnvOk K W σ ρ) (l : Le W W') : EnvOk K W' σ ρ :=
  ⟨h.len, fun i s e => let ⟨v, h1, h2⟩ := h.get i s e; ⟨v, h1, h2.mono l⟩⟩
theorem EnvOk.set {K : PySem.W.Frag} {W : Wd} {σ : L2.St} {ρ : Rho} (h : EnvOk K W σ ρ) (i : Nat) {v : V} {s : Sl} (hs : SlOk K W v s) : EnvOk K W (σ.set i (some v)) (ρ.set i (some s)) := by
  refine ⟨by simp [h.len], fun j t e => ?_⟩
  by_cases hij : i = j
  · subst hij
    have hl : i < ρ.length := by
      have := (List.getElem?_eq_some_iff.mp e).1
      simpa using this
    rw [List.getElem?_set_self hl] at e
    cases e
    refine ⟨v, ?_, hs⟩
    rw [List.getElem?_set_self (by rw [h.len]; exact hl)]
  · rw [List.getElem?_set_ne hij] at e
    obtain ⟨w, h1, h2⟩ := h.get j t e
    refine ⟨w, ?_, h2⟩
    rw [List.getElem?_set_ne hij]
    exact h1
def rdC : Option Cell → Option PyData
  | some (.lst ds) => some (.list ds)
  | _ => none
def rd (μ : Mu) : Sl → Option PyData
  | .dat d => some d
  | .vw d => some d
  | .cell k => rdC μ[k]?
  | .raw _ => none
  | .rtup _ => none
def mkVw : PyData → Sl
  | .none => .dat .none
  | .bool b => .dat (.bool b)
  | .int i => .dat (.int i)
  | .str z => .dat (.str z)
  | d => .vw d
def isV : Sl → Bool
  | .vw _ => true
  | _ => false
def mk (b : Bool) (d : PyData) : Sl := if b then mkVw d else .dat d
def elt (s : Sl) (d : PyData) : Sl := mk (isV s) d
def bh (W : Wd) (b : Bool) : Hp := if b then W.F else W.G
theorem slOk_mkVw {K : PySem.W.Frag} {W : Wd} {v : V} {d : PyData} (h : Dv K W.F v d) : SlOk K W v (mkVw d) := by
  cases d with
  | none => cases h; exact Dv.non
  | bool b => cases h; exact Dv.bl b
  | int i => cases h; exact Dv.int i
  | str z => cases h; exact Dv.str z
  | list ds => exact h
  | tuple ds => exact h
  | dict kvs => exact h
section
variable {K : PySem.W.Frag} {W : Wd} {H : Hp} {μ : Mu} {v : V} {s : Sl} {d : PyData}
theorem rd_dp (r : Rep K W H μ) (h : SlOk K W v s) (e : rd μ s = some d) : Dv K H v d := by
  cases s with
  | dat d' => cases e; exact Dv.mono (show Dv K W.G v _ from h) r.gh
  | vw d' => cases e; exact Dv.mono (show Dv K W.F v _ from h) r.fh
  | raw w => cases e
  | rtup w => cases e
  | cell k =>
    obtain ⟨a, h1, rfl⟩ := h
    replace e : rdC μ[k]? = _ := e
    cases q : μ[k]? with
    | none => rw [q] at e; cases e
    | some c =>
      rw [q] at e
      cases c with
      | lst ds =>
        cases e
        obtain ⟨_, o, ho, hc⟩ := r.cell k a _ h1 q
        cases o <;> first | exact False.elim hc | skip
        exact .lst (.inl (.inl ho)) (DvAll.mono hc r.gh)
      | dct es => cases e
      | dctT es => cases e
      | tab P q => cases e
theorem slOk_mk {b : Bool} (h : Dv K (bh W b) v d) : SlOk K W v (mk b d) := by
  cases b with
  | true => exact slOk_mkVw h
  | false => exact h
theorem bh_ff {b : Bool} (e : Ex W.G W.F) : Ex (bh W b) W.F := by
  cases b with
  | true => exact Ex.refl _
  | false => exact e
theorem bh_or1 {b c : Bool} (e : Ex W.G W.F) : Ex (bh W b) (bh W (b || c)) := by
  cases b with
  | true => exact Ex.refl _
  | false =>
    cases c with
    | true => exact e
    | false => exact Ex.refl _
theorem bh_or2 {b c : Bool} (e : Ex W.G W.F) : Ex (bh W c) (bh W (b || c)) := by
  rw [Bool.or_comm]
  exact bh_or1 e
theorem bh_le {W' : Wd} (l : Le W W') (b : Bool) : Ex (bh W b) (bh W' b) := by
  cases b with
  | true => exact l.f
  | false => exact l.g
def Its (K : PySem.W.Frag) (W : Wd) (s : Sl) (xs : List V) (ds : List PyData) : Prop := DvAll K (bh W (isV s)) xs ds
theorem Its.get {xs : List V} {ds : List PyData} {i : Nat} (h : Its K W s xs ds) (e : ds[i]? = some d) : ∃ v, xs[i]? = some v ∧ SlOk K W v (elt s d) := by
  obtain ⟨v, h1, h2⟩ := DvAll.get h e
  exact ⟨v, h1, slOk_mk h2⟩
theorem Its.length {xs : List V} {ds : List PyData} (h : Its K W s xs ds) : xs.length = ds.length := DvAll.length h
theorem Its.mono {W' : Wd} (l : Le W W') {xs : List V} {ds : List PyData} (h : Its K W s xs ds) : Its K W' s xs ds := DvAll.mono h (bh_le l _)
theorem rd_lst {ds : List PyData} (r : Rep K W H μ) (h : SlOk K W v s) (e : rd μ s = some (.list ds)) : ∃ a xs, v = .ref a ∧ SqL K H a xs ∧ Its K W s xs ds := by
  cases s with
  | dat d' =>
    cases e
    cases (show Dv K W.G v (.list ds) from h) with
    | lst hs ha => exact ⟨_, _, rfl, ex_l r.gh hs, ha⟩
  | vw d' =>
    cases e
    cases (show Dv K W.F v (.list ds) from h) with
    | lst hs ha => exact ⟨_, _, rfl, ex_l r.fh hs, ha⟩
  | raw w => cases e
  | rtup w => cases e
  | cell k =>
    obtain ⟨a, h1, rfl⟩ := h
    replace e : rdC μ[k]? = _ := e
    cases q : μ[k]? with
    | none => rw [q] at e; cases e
    | some c =>
      rw [q] at e
      cases c with
      | lst ds' =>
        cases e
        obtain ⟨_, o, ho, hc⟩ := r.cell k a _ h1 q
        cases o <;> first | exact False.elim hc | skip
        exact ⟨a, _, rfl, .inl (.inl ho), hc⟩
      | dct es => cases e
      | dctT es => cases e
      | tab P q => cases e
theorem rd_tup {ds : List PyData} (r : Rep K W H μ) (h : SlOk K W v s) (e : rd μ s = some (.tuple ds)) : ∃ a xs, v = .ref a ∧ SqT K H a xs ∧ Its K W s xs ds := by
  cases s with
  | dat d' =>
    cases e
    cases (show Dv K W.G v (.tuple ds) from h) with
    | tup hs ha => exact ⟨_, _, rfl, SqT.of (r.gh _ _ hs), ha⟩
  | vw d' =>
    cases e
    cases (show Dv K W.F v (.tuple ds) from h) with
    | tup hs ha => exact ⟨_, _, rfl, SqT.of (r.fh _ _ hs), ha⟩
  | raw w => cases e
  | rtup w => cases e
  | cell k =>
    replace e : rdC μ[k]? = _ := e
    cases q : μ[k]? with
    | none => rw [q] at e; cases e
    | some c => rw [q] at e; cases c <;> cases e
theorem rd_int {i : Int} (r : Rep K W H μ) (h : SlOk K W v s) (e : rd μ s = some (.int i)) : v = .int i := by cases rd_dp r h e; rfl
theorem rd_bool {i : Bool} (r : Rep K W H μ) (h : SlOk K W v s) (e : rd μ s = some (.bool i)) : v = .bl i := by cases rd_dp r h e; rfl
theorem rd_str {i : Str} (r : Rep K W H μ) (h : SlOk K W v s) (e : rd μ s = some (.str i)) : v = .str i := by cases rd_dp r h e; rfl
theorem rd_none (r : Rep K W H μ) (h : SlOk K W v s) (e : rd μ s = some .none) : v = .non := by cases rd_dp r h e; rfl
end
def Wd.new (W : Wd) (p : Addr) (o : HO) : Wd := ⟨upd W.G p o, upd W.F p o, W.ad⟩
section
variable {K : PySem.W.Frag} {W : Wd} {H : Hp} {μ : Mu} {p : Addr} {o : HO}
theorem Rep.fresh (r : Rep K W H μ) (hp : H p = none) : W.F p = none ∧ W.G p = none := by
  have h1 := fresh_back r.fh hp
  exact ⟨h1, fresh_back r.gf h1⟩
theorem Le.new (r : Rep K W H μ) (hp : H p = none) : Le W (W.new p o) := by
  obtain ⟨h1, h2⟩ := r.fresh hp
  refine ⟨Ex.new h2, Ex.new h1, fun b hb hg _ => ?_, fun _ _ h => h⟩
  show upd W.G p o b = none
  rw [upd_ne (show b ≠ p from fun z => hb (z ▸ h1))]
  exact hg
theorem ex_upd {A B : Hp} (e : Ex A B) : Ex (upd A p o) (upd B p o) := fun a u h => by
  by_cases q : a = p
  · subst q; rw [upd_same] at h ⊢; exact h
  · rw [upd_ne q] at h ⊢; exact e a u h
theorem Rep.new (r : Rep K W H μ) (hp : H p = none) : Rep K (W.new p o) (upd H p o) μ := by
  obtain ⟨h1, h2⟩ := r.fresh hp
  refine ⟨ex_upd r.gf, ex_upd r.fh, r.len, r.nd, fun k a c ha hc => ?_, r.tab⟩
  obtain ⟨q1, o', q2, q3⟩ := r.cell k a c ha hc
  have ne : a ≠ p := fun z => by rw [z, hp] at q2; cases q2
  refine ⟨?_, o', ?_, q3.mono (Ex.new h2)⟩
  · show upd W.F p o a = none
    rw [upd_ne ne]; exact q1
  · rw [upd_ne ne]; exact q2
end
end DL
namespace DL
open PySem PySem.Spec PyProof.Rows L2 Evl
abbrev DQ := Sl → Mu → Prop
abbrev DE := Rho → Mu → DQ → Prop
abbrev DT := Rho → Mu → (Bool → Mu → Prop) → Prop
abbrev DA := Rho → Mu → (List Sl → Mu → Prop) → Prop
structure DEnds where
  nx : Rho → Mu → Prop
  rt : Sl → Mu → Prop
  bk : Rho → Mu → Prop := fun _ _ => False
  ct : Rho → Mu → Prop := fun _ _ => False
abbrev DS := DEnds → Rho → Mu → Prop
section
variable (K : PySem.W.Frag)
def VOk (W : Wd) (Q' : DQ) (Q : VK) : Prop := ∀ v s W' H' μ', Le W W' → Rep K W' H' μ' → SlOk K W' v s → Q' s μ' → Q v H'
def BOk (W : Wd) (Q' : Bool → Mu → Prop) (Q : Bool → Hp → Prop) : Prop := ∀ b W' H' μ', Le W W' → Rep K W' H' μ' → Q' b μ' → Q b H'
def AOk (W : Wd) (Q' : List Sl → Mu → Prop) (Q : List V → Hp → Prop) : Prop := ∀ vs ss W' H' μ', Le W W' → Rep K W' H' μ' → SlAll K W' vs ss → Q' ss μ' → Q vs H'
def NOk (W : Wd) (Q' : Rho → Mu → Prop) (Q : L2.St → Hp → Prop) : Prop := ∀ σ' ρ' W' H' μ', Le W W' → Rep K W' H' μ' → EnvOk K W' σ' ρ' → Q' ρ' μ' → Q σ' H'
structure EndsOk (W : Wd) (D' : DEnds) (D : Ends) : Prop where
  nx : NOk K W D'.nx D.nx
  rt : VOk K W D'.rt D.rt
  bk : NOk K W D'.bk D.bk
  ct : NOk K W D'.ct D.ct
def LE (t : TE) (d : DE) : Prop := ∀ ρ μ Q', d ρ μ Q' → ∀ W σ H, EnvOk K W σ ρ → Rep K W H μ → ∀ Q : VK, VOk K W Q' Q → t σ H Q
def LT (t : TT) (d : DT) : Prop := ∀ ρ μ Q', d ρ μ Q' → ∀ W σ H, EnvOk K W σ ρ → Rep K W H μ → ∀ Q : Bool → Hp → Prop, BOk K W Q' Q → t σ H Q
def LA (t : TA) (d : DA) : Prop := ∀ ρ μ Q', d ρ μ Q' → ∀ W σ H, EnvOk K W σ ρ → Rep K W H μ → ∀ Q : List V → Hp → Prop, AOk K W Q' Q → t σ H Q
def LS (t : TS) (d : DS) : Prop := ∀ D' ρ μ, d D' ρ μ → ∀ W σ H, EnvOk K W σ ρ → Rep K W H μ → ∀ D : Ends, EndsOk K W D' D → t D σ H
end
section
variable {K : PySem.W.Frag} {W W' : Wd}
theorem VOk.le (l : Le W W') {Q' : DQ} {Q : VK} (h : VOk K W Q' Q) : VOk K W' Q' Q := fun v s W2 H2 μ2 l2 => h v s W2 H2 μ2 (l.trans l2)
theorem BOk.le (l : Le W W') {Q' : Bool → Mu → Prop} {Q : Bool → Hp → Prop} (h : BOk K W Q' Q) : BOk K W' Q' Q := fun b W2 H2 μ2 l2 => h b W2 H2 μ2 (l.trans l2)
theorem AOk.le (l : Le W W') {Q' : List Sl → Mu → Prop} {Q : List V → Hp → Prop} (h : AOk K W Q' Q) : AOk K W' Q' Q := fun v s W2 H2 μ2 l2 => h v s W2 H2 μ2 (l.trans l2)
theorem NOk.le (l : Le W W') {Q' : Rho → Mu → Prop} {Q : L2.St → Hp → Prop} (h : NOk K W Q' Q) : NOk K W' Q' Q := fun v s W2 H2 μ2 l2 => h v s W2 H2 μ2 (l.trans l2)
theorem EndsOk.le (l : Le W W') {D' : DEnds} {D : Ends} (h : EndsOk K W D' D) : EndsOk K W' D' D := ⟨h.nx.le l, h.rt.le l, h.bk.le l, h.ct.le l⟩
end
structure PD (X : Cx) (e : Expr) (d : DE) : Prop where
  ex : ∃ t, PE X e t ∧ LE X.K t d
structure PDT (X : Cx) (e : Expr) (d : DT) : Prop where
  ex : ∃ t, PT X e t ∧ LT X.K t d
structure PDW (X : Cx) (e : Expr) (d : DT) : Prop where
  ex : ∃ t, PW X e t ∧ LT X.K t d
structure PDA (X : Cx) (es : List Expr) (d : DA) : Prop where
  ex : ∃ t, PA X es t ∧ LA X.K t d
structure PDS (X : Cx) (st : Stmt) (d : DS) : Prop where
  ex : ∃ t, PS X st t ∧ LS X.K t d
structure PDSs (X : Cx) (st : List Stmt) (d : DS) : Prop where
  ex : ∃ t, PSs X st t ∧ LS X.K t d
section
variable {K : PySem.W.Frag} {W : Wd} {H : Hp} {μ : Mu} {Q' : DQ} {Q : VK}
theorem VOk.dat (h : VOk K W Q' Q) (r : Rep K W H μ) {v : V} {d : PyData} (hd : Dv K W.G v d) (q : Q' (.dat d) μ) : Q v H := h v (.dat d) W H μ (Le.refl W) r hd q
theorem VOk.int (h : VOk K W Q' Q) (r : Rep K W H μ) {i : Int} (q : Q' (.dat (.int i)) μ) : Q (.int i) H := h.dat r (.int i) q
theorem VOk.bl (h : VOk K W Q' Q) (r : Rep K W H μ) {i : Bool} (q : Q' (.dat (.bool i)) μ) : Q (.bl i) H := h.dat r (.bl i) q
theorem VOk.str (h : VOk K W Q' Q) (r : Rep K W H μ) {i : Str} (q : Q' (.dat (.str i)) μ) : Q (.str i) H := h.dat r (.str i) q
theorem VOk.here (h : VOk K W Q' Q) (r : Rep K W H μ) {v : V} {s : Sl} (hs : SlOk K W v s) (q : Q' s μ) : Q v H := h v s W H μ (Le.refl W) r hs q
theorem VOk.newT (h : VOk K W Q' Q) (r : Rep K W H μ) {b : Bool} {xs : List V} {ds : List PyData} (hx : DvAll K (bh W b) xs ds) (q : Q' (mk b (.tuple ds)) μ) (p : Addr) (hp : H p = none) : Q (.ref p) (upd H p (.tup xs)) := by
  refine h _ _ (W.new p (.tup xs)) _ μ (Le.new r hp) (r.new hp) (slOk_mk ?_) q
  have l : Le W (W.new p (.tup xs)) := Le.new r hp
  refine .tup ?_ (hx.mono (bh_le l b))
  cases b with
  | true => exact upd_same
  | false => exact upd_same
theorem VOk.newL (h : VOk K W Q' Q) (r : Rep K W H μ) {b : Bool} {xs : List V} {ds : List PyData} (hx : DvAll K (bh W b) xs ds) (q : Q' (mk b (.list ds)) μ) (p : Addr) (hp : H p = none) : Q (.ref p) (upd H p (.lst xs)) := by
  refine h _ _ (W.new p (.lst xs)) _ μ (Le.new r hp) (r.new hp) (slOk_mk ?_) q
  have l : Le W (W.new p (.lst xs)) := Le.new r hp
  refine .lst (.inl (.inl ?_)) (hx.mono (bh_le l b))
  cases b with
  | true => exact upd_same
  | false => exact upd_same
def Wd.cellNew (W : Wd) (p : Addr) : Wd := ⟨W.G, W.F, W.ad ++ [p]⟩
theorem Le.cellNew (W : Wd) (p : Addr) : Le W (W.cellNew p) := ⟨Ex.refl _, Ex.refl _, fun _ _ h _ => h, fun k x h => by
  show (W.ad ++ [p])[k]? = some x
  rw [List.getElem?_append_left (List.getElem?_eq_some_iff.mp h).1]
  exact h⟩
theorem Rep.cellNew (r : Rep K W H μ) {p : Addr} (hp : H p = none) {o : HO} {c : Cell} (hc : CellOk K W.G o c) (hn : c.isTab = false := by rfl) : Rep K (W.cellNew p) (upd H p o) (μ ++ [c]) := by
  obtain ⟨h1, h2⟩ := r.fresh hp
  refine ⟨r.gf, r.fh.trans (Ex.new hp), ?_, ?_, ?_, fun k P q hk => ?_⟩
  · show (W.ad ++ [p]).length = (μ ++ [c]).length
    rw [List.length_append, List.length_append, r.len]
    rfl
  · have old : ∀ (k : Nat), W.ad[k]? = some p → False := fun k hk => by
      have hl : k < μ.length := by rw [← r.len]; exact (List.getElem?_eq_some_iff.mp hk).1
      obtain ⟨_, o', q, _⟩ := r.cell k p _ hk (List.getElem?_eq_getElem hl)
      rw [hp] at q; cases q
    intro i j a hi hj
    have split : ∀ (k : Nat) (a : Addr), (W.ad ++ [p])[k]? = some a → (W.ad[k]? = some a) ∨ (k = W.ad.length ∧ a = p) := fun k a hk => by
      by_cases hl : k < W.ad.length
      · rw [List.getElem?_append_left hl] at hk; exact .inl hk
      · rw [List.getElem?_append_right (by omega)] at hk
        have e := (List.getElem?_eq_some_iff.mp hk).1
        have e' : k - W.ad.length = 0 := by simpa using e
        rw [e'] at hk
        exact .inr ⟨by omega, (Option.some.inj hk).symm⟩
    rcases split i a hi with q1 | ⟨q1, q2⟩
    · rcases split j a hj with q3 | ⟨q3, q4⟩
      · exact r.nd i j a q1 q3
      · subst q4; exact (old i q1).elim
    · subst q2
      rcases split j a hj with q3 | ⟨q3, q4⟩
      · exact (old j q3).elim
      · omega
  · intro k a c' ha hc'
    by_cases hl : k < W.ad.length
    · rw [show (W.cellNew p).ad = W.ad ++ [p] from rfl, List.getElem?_append_left hl] at ha
      rw [List.getElem?_append_left (by rw [← r.len]; exact hl)] at hc'
      obtain ⟨q1, o', q2, q3⟩ := r.cell k a c' ha hc'
      have ne : a ≠ p := fun z => by rw [z, hp] at q2; cases q2
      exact ⟨q1, o', by rw [upd_ne ne]; exact q2, q3⟩
    · rw [show (W.cellNew p).ad = W.ad ++ [p] from rfl, List.getElem?_append_right (by omega)] at ha
      rw [List.getElem?_append_right (by rw [← r.len]; omega)] at hc'
      have e := (List.getElem?_eq_some_iff.mp ha).1
      have e' : k - W.ad.length = 0 := by simpa using e
      rw [e'] at ha
      rw [show k - μ.length = 0 by rw [← r.len]; exact e'] at hc'
      have ea : p = a := Option.some.inj ha
      have ec : c = c' := Option.some.inj hc'
      subst ea; subst ec
      exact ⟨h1, o, upd_same, hc⟩
  · by_cases hl : k < μ.length
    · rw [List.getElem?_append_left hl] at hk
      show (W.ad ++ [p])[k]? = some P
      rw [List.getElem?_append_left (by rw [r.len]; exact hl)]
      exact r.tab k P q hk
    · rw [List.getElem?_append_right (by omega)] at hk
      have e := (List.getElem?_eq_some_iff.mp hk).1
      rw [show k - μ.length = 0 by simpa using e] at hk
      cases hk
      cases hn
theorem VOk.newCell (h : VOk K W Q' Q) (r : Rep K W H μ) {xs : List V} {ds : List PyData} (hx : DvAll K W.G xs ds) (q : Q' (.cell μ.length) (μ ++ [.lst ds])) (p : Addr) (hp : H p = none) : Q (.ref p) (upd H p (.lst xs)) := by
  refine h _ (.cell μ.length) (W.cellNew p) _ (μ ++ [.lst ds]) (Le.cellNew W p) (r.cellNew hp (show CellOk K W.G (.lst xs) (.lst ds) from hx)) ⟨p, ?_, rfl⟩ q
  show (W.ad ++ [p])[μ.length]? = some p
  rw [List.getElem?_append_right (by rw [r.len]; exact Nat.le_refl _), r.len, Nat.sub_self]
  rfl
theorem Rep.write (r : Rep K W H μ) {k : Nat} {a : Addr} (ha : W.ad[k]? = some a) {o : HO} {c : Cell} (hc : CellOk K W.G o c) (hn : c.isTab = false := by rfl) : Rep K W (upd H a o) (μ.set k c) := by
  have hk : k < μ.length := by rw [← r.len]; exact (List.getElem?_eq_some_iff.mp ha).1
  obtain ⟨q1, o1, q2, _⟩ := r.cell k a _ ha (List.getElem?_eq_getElem hk)
  refine ⟨r.gf, Ex.mut r.fh q1, by rw [List.length_set]; exact r.len, r.nd, fun j b c' hb hc' => ?_, fun j P q hj => ?_⟩
  rotate_left
  · by_cases e : k = j
    · subst e
      rw [List.getElem?_set_self hk] at hj
      cases hj
      cases hn
    · rw [List.getElem?_set_ne e] at hj
      exact r.tab j P q hj
  by_cases hj : k = j
  · subst hj
    rw [ha] at hb; cases hb
    rw [List.getElem?_set_self hk] at hc'; cases hc'
    exact ⟨q1, o, upd_same, hc⟩
  · rw [List.getElem?_set_ne hj] at hc'
    obtain ⟨q3, o3, q4, q5⟩ := r.cell j b c' hb hc'
    have ne : b ≠ a := fun z => hj (r.nd k j a ha (z ▸ hb))
    exact ⟨q3, o3, by rw [upd_ne ne]; exact q4, q5⟩
end
section
variable {X : Cx} {K : PySem.W.Frag}
def dVar (i : Nat) : DE := fun ρ μ Q => match ρ[i]? with
  | some (some s) => Q s μ
  | _ => False
def dC (d : PyData) : DE := fun _ μ Q => Q (.dat d) μ
theorem le_var (i : Nat) : LE K (tVar i) (dVar i) := fun ρ μ Q' h W σ H he r Q q => by
  unfold dVar at h
  cases e : ρ[i]? with
  | none => rw [e] at h; exact h.elim
  | some o =>
    rw [e] at h
    cases o with
    | none => exact h.elim
    | some s =>
      obtain ⟨v, h1, h2⟩ := he.get i s e
      exact ⟨v, h1, q.here r h2 h⟩
theorem pd_var (i : Nat) {x : Str} {pos : Pos} (hN : X.N[i]? = some x := by rfl) (hv : Vis X.env.scope x := by first | exact Or.inl rfl | exact Or.inr (Or.inl rfl) | exact Or.inr (Or.inr rfl)) (hd : (x == ("__debug__" : Str)) = false := by decide)
    (hcd : (x == ("__classdict__" : Str)) = false := by decide) : PD X (.Name x pos) (dVar i) := ⟨_, pe_var hN hv hd hcd, le_var i⟩
theorem le_c {v : V} {d : PyData} (hd : ∀ G, Dv K G v d) : LE K (tC v) (dC d) := fun ρ μ Q' h W σ H he r Q q => q.dat r (hd _) h
theorem pd_int {i : Int} {j pos} : PD X (.Constant (.int i) j pos) (dC (.int i)) := ⟨_, pe_int, le_c fun _ => .int i⟩
theorem pd_bl {b : Bool} {j pos} : PD X (.Constant (.bool b) j pos) (dC (.bool b)) := ⟨_, pe_bl, le_c fun _ => .bl b⟩
theorem pd_non {j pos} : PD X (.Constant .none j pos) (dC .none) := ⟨_, pe_non, le_c fun _ => .non⟩
theorem pd_str {x : String} {j pos} : PD X (.Constant (.str x) j pos) (dC (.str x)) := ⟨_, pe_str, le_c fun _ => .str _⟩
end
section
variable {X : Cx} {K : PySem.W.Frag}
def aNil : DA := fun _ μ Q => Q [] μ
def aCons (d : DE) (a : DA) : DA := fun ρ μ Q => d ρ μ fun s μ1 => a ρ μ1 fun ss μ2 => Q (s :: ss) μ2
theorem la_nil : LA K tNil aNil := fun ρ μ Q' h W σ H he r Q q => q [] [] W H μ (Le.refl W) r .nil h
theorem la_cons {te : TE} {ta : TA} {d : DE} {a : DA} (h1 : LE K te d) (h2 : LA K ta a) : LA K (tCons te ta) (aCons d a) := fun ρ μ Q' h W σ H he r Q q =>
  h1 ρ μ _ h W σ H he r _ fun v s W1 H1 μ1 l1 r1 hs h' => h2 ρ μ1 _ h' W1 σ H1 (he.mono l1) r1 _ fun vs ss W2 H2 μ2 l2 r2 hss h'' =>
    q (v :: vs) (s :: ss) W2 H2 μ2 (l1.trans l2) r2 (.cons (hs.mono l2) hss) h''
theorem pda_nil : PDA X [] aNil := ⟨_, pa_nil, la_nil⟩
theorem pda_cons {e : Expr} {es : List Expr} {d : DE} {a : DA} (h1 : PD X e d) (h2 : PDA X es a) (hs : starEach (e :: es) X.env = (false, eval e X.env) :: starEach es X.env := by rfl) : PDA X (e :: es) (aCons d a) := by
  obtain ⟨t1, p1, l1⟩ := h1
  obtain ⟨t2, p2, l2⟩ := h2
  exact ⟨_, pa_cons p1 p2 hs, la_cons l1 l2⟩
end
abbrev DR2 := Sl → Sl → Mu → DQ → Prop
abbrev DR1 := Sl → Mu → DQ → Prop
abbrev DRA := List Sl → Mu → DQ → Prop
def LR2 (K : PySem.W.Frag) (r : R2) (d : DR2) : Prop := ∀ x y μ Q', d x y μ Q' → ∀ W H vx vy, Rep K W H μ → SlOk K W vx x → SlOk K W vy y → ∀ Q : VK, VOk K W Q' Q → r vx vy H Q
def LR1 (K : PySem.W.Frag) (r : V → Hp → VK → Prop) (d : DR1) : Prop := ∀ x μ Q', d x μ Q' → ∀ W H vx, Rep K W H μ → SlOk K W vx x → ∀ Q : VK, VOk K W Q' Q → r vx H Q
def LRA (K : PySem.W.Frag) (r : List V → Hp → VK → Prop) (d : DRA) : Prop := ∀ xs μ Q', d xs μ Q' → ∀ W H vs, Rep K W H μ → SlAll K W vs xs → ∀ Q : VK, VOk K W Q' Q → r vs H Q
section
variable {X : Cx} {K : PySem.W.Frag} {a b : Expr} {pos : Pos}
def dOp (r : DR2) (da db : DE) : DE := fun ρ μ Q => da ρ μ fun x μ1 => db ρ μ1 fun y μ2 => r x y μ2 Q
def dUn (r : DR1) (da : DE) : DE := fun ρ μ Q => da ρ μ fun x μ1 => r x μ1 Q
def dCB (r : DRA) (da : DA) : DE := fun ρ μ Q => da ρ μ fun xs μ1 => r xs μ1 Q
theorem le_op {r : R2} {d : DR2} {ta tb : TE} {da db : DE} (hr : LR2 K r d) (ha : LE K ta da) (hb : LE K tb db) : LE K (tOp r ta tb) (dOp d da db) := fun ρ μ Q' h W σ H he rp Q q =>
  ha ρ μ _ h W σ H he rp _ fun vx x W1 H1 μ1 l1 r1 hx h1 => hb ρ μ1 _ h1 W1 σ H1 (he.mono l1) r1 _ fun vy y W2 H2 μ2 l2 r2 hy h2 =>
    hr x y μ2 Q' h2 W2 H2 vx vy r2 (hx.mono l2) hy Q (q.le (l1.trans l2))
theorem le_un {r : V → Hp → VK → Prop} {d : DR1} {ta : TE} {da : DE} (hr : LR1 K r d) (ha : LE K ta da) : LE K (tUn r ta) (dUn d da) := fun ρ μ Q' h W σ H he rp Q q =>
  ha ρ μ _ h W σ H he rp _ fun vx x W1 H1 μ1 l1 r1 hx h1 => hr x μ1 Q' h1 W1 H1 vx r1 hx Q (q.le l1)
theorem le_cb {r : List V → Hp → VK → Prop} {d : DRA} {ta : TA} {da : DA} (hr : LRA K r d) (ha : LA K ta da) : LE K (tCB r ta) (dCB d da) := fun ρ μ Q' h W σ H he rp Q q =>
  ha ρ μ _ h W σ H he rp _ fun vs xs W1 H1 μ1 l1 r1 hx h1 => hr xs μ1 Q' h1 W1 H1 vs r1 hx Q (q.le l1)
theorem pd_op {op : Operator} {r : R2} {d : DR2} {da db : DE} (ho : OpR X (binaryOp op) r) (hr : LR2 X.K r d) (ha : PD X a da) (hb : PD X b db) : PD X (.BinOp a op b pos) (dOp d da db) := by
  obtain ⟨ta, p1, l1⟩ := ha
  obtain ⟨tb, p2, l2⟩ := hb
  exact ⟨_, pe_op ho p1 p2, le_op hr l1 l2⟩
theorem pd_un {op : UnaryOp} {r : V → Hp → VK → Prop} {d : DR1} {da : DE} (ho : UnR X (unaryOp op) r) (hr : LR1 X.K r d) (ha : PD X a da) : PD X (.UnaryOp op a pos) (dUn d da) := by
  obtain ⟨ta, p1, l1⟩ := ha
  exact ⟨_, pe_un ho p1, le_un hr l1⟩
theorem pd_cmp {op : CmpOp} {r : R2} {d : DR2} {da db : DE} (ho : OpR X (compareOp op) r) (hr : LR2 X.K r d) (ha : PD X a da) (hb : PD X b db) (hm : behindInMarks op b = false) : PD X (.Compare a [op] [b] pos) (dOp d da db) := by
  obtain ⟨ta, p1, l1⟩ := ha
  obtain ⟨tb, p2, l2⟩ := hb
  exact ⟨_, pe_cmpR ho p1 p2 hm, le_op hr l1 l2⟩
def dTest (d : DE) : DT := fun ρ μ Q => d ρ μ fun x μ1 => match x with
  | .dat (.bool b) => Q b μ1
  | _ => False
theorem lt_test {t : TE} {d : DE} (h : LE K t d) : LT K (tTest t) (dTest d) := fun ρ μ Q' hd W σ H he rp Q q =>
  h ρ μ _ hd W σ H he rp _ fun vx x W1 H1 μ1 l1 r1 hx h1 => by
    cases x with
    | dat d' =>
      cases d' with
      | bool b =>
        cases (show Dv K W1.G vx (.bool b) from hx)
        exact ⟨b, rfl, q b W1 H1 μ1 l1 r1 h1⟩
      | _ => exact False.elim h1
    | _ => exact False.elim h1
theorem pdt_cmp {op : CmpOp} {r : R2} {d : DR2} {da db : DE} (ho : OpR X (compareOp op) r) (hr : LR2 X.K r d) (ha : PD X a da) (hb : PD X b db) (hm : behindInMarks op b = false) : PDT X (.Compare a [op] [b] pos) (dTest (dOp d da db)) := by
  obtain ⟨ta, p1, l1⟩ := ha
  obtain ⟨tb, p2, l2⟩ := hb
  exact ⟨_, pt_cmpR ho p1 p2 hm, lt_test (le_op hr l1 l2)⟩
def dChain (r r' : DR2) (da db dc : DE) : DE := fun ρ μ Q => da ρ μ fun x μ1 => db ρ μ1 fun y μ2 => r x y μ2 fun z μ3 => match z with
  | .dat (.bool k) => if k = true then dc ρ μ3 (fun w μ4 => r' y w μ4 Q) else Q (.dat (.bool false)) μ3
  | _ => False
theorem le_chain {r r' : R2} {d d' : DR2} {ta tb tc : TE} {da db dc : DE} (hr : LR2 K r d) (hr' : LR2 K r' d') (ha : LE K ta da) (hb : LE K tb db) (hc : LE K tc dc) : LE K (tChain r r' ta tb tc) (dChain d d' da db dc) := fun ρ μ Q' h W σ H he rp Q q =>
  ha ρ μ _ h W σ H he rp _ fun vx x W1 H1 μ1 l1 r1 hx h1 => hb ρ μ1 _ h1 W1 σ H1 (he.mono l1) r1 _ fun vy y W2 H2 μ2 l2 r2 hy h2 =>
    hr x y μ2 _ h2 W2 H2 vx vy r2 (hx.mono l2) hy _ fun vz z W3 H3 μ3 l3 r3 hz h3 => by
      cases z with
      | dat d' =>
        cases d' with
        | bool b =>
          cases (show Dv K W3.G vz (.bool b) from hz)
          refine ⟨b, rfl, ?_⟩
          cases b with
          | true =>
            exact hc ρ μ3 _ h3 W3 σ H3 (he.mono ((l1.trans l2).trans l3)) r3 _ fun vw w W4 H4 μ4 l4 r4 hw h4 =>
              hr' y w μ4 Q' h4 W4 H4 vy vw r4 ((hy.mono l3).mono l4) hw Q (q.le (((l1.trans l2).trans l3).trans l4))
          | false => exact (q.le ((l1.trans l2).trans l3)).bl r3 h3
        | _ => exact False.elim h3
      | _ => exact False.elim h3
theorem pdt_chain {c : Expr} {op op' : CmpOp} {r r' : R2} {d d' : DR2} {da db dc : DE} (ho : OpR X (compareOp op) r) (ho' : OpR X (compareOp op') r') (hr : LR2 X.K r d) (hr' : LR2 X.K r' d') (ha : PD X a da) (hb : PD X b db) (hc : PD X c dc)
    (hm : lastMarks [op, op'] [b, c] = false := by with_unfolding_all rfl) : PDT X (.Compare a [op, op'] [b, c] pos) (dTest (dChain d d' da db dc)) := by
  obtain ⟨ta, p1, l1⟩ := ha
  obtain ⟨tb, p2, l2⟩ := hb
  obtain ⟨tc, p3, l3⟩ := hc
  exact ⟨_, pt_chain ho ho' p1 p2 p3 hm, lt_test (le_chain hr hr' l1 l2 l3)⟩
end
end DL
namespace DL
open PySem PySem.Spec PyProof.Rows L2 Evl
section
variable {X : Cx} {K : PySem.W.Frag}
def ints2 (f : Int → Int → PyData) (c : Int → Int → Prop) : DR2 := fun x y μ Q => match rd μ x, rd μ y with
  | some (.int i), some (.int j) => c i j ∧ Q (.dat (f i j)) μ
  | _, _ => False
theorem ints2_of {f : Int → Int → PyData} {c : Int → Int → Prop} {x y : Sl} {μ : Mu} {Q : DQ} (h : ints2 f c x y μ Q) : ∃ i j, rd μ x = some (.int i) ∧ rd μ y = some (.int j) ∧ c i j ∧ Q (.dat (f i j)) μ := by
  unfold ints2 at h
  split at h
  · rename_i i j e1 e2
    exact ⟨i, j, e1, e2, h.1, h.2⟩
  · exact h.elim
theorem lr_I {C : Int → Int → Prop} {g : Int → Int → V} {f : Int → Int → PyData} (hd : ∀ i j G, Dv K G (g i j) (f i j)) : LR2 K (rI C g) (ints2 f C) := fun x y μ Q' h W H vx vy r hx hy Q q => by
  obtain ⟨i, j, e1, e2, hc, h⟩ := ints2_of h
  cases rd_int r hx e1
  cases rd_int r hy e2
  exact ⟨i, j, rfl, rfl, hc, q.dat r (hd i j _) h⟩
theorem lr_I0 {g : Int → Int → V} {f : Int → Int → PyData} (hd : ∀ i j G, Dv K G (g i j) (f i j)) : LR2 K (rI0 g) (ints2 f fun _ _ => True) := fun x y μ Q' h W H vx vy r hx hy Q q => by
  obtain ⟨i, j, e1, e2, hc, h⟩ := ints2_of h
  cases rd_int r hx e1
  cases rd_int r hy e2
  exact ⟨i, j, rfl, rfl, q.dat r (hd i j _) h⟩
def CDv (_ j : Int) : Prop := j ≠ 0 ∧ j.natAbs.log2 < 9000
theorem op_dv : OpR X (binaryOp .FloorDiv) (rI CDv fun i j => .int (i.fdiv j)) := opI fun _ _ _ _ _ _ _ hc q => floordiv_int hc.1 q (.inl (PyProof.noPylong_of_log2 hc.2))
def rSub : DR2 := ints2 (fun i j => .int (i - j)) fun _ _ => True
def rDv : DR2 := ints2 (fun i j => .int (i.fdiv j)) CDv
def rMd : DR2 := ints2 (fun i j => .int (i.fmod j)) fun _ j => j ≠ 0
def rPw : DR2 := ints2 (fun i j => .int (i ^ j.toNat)) CPow
section
variable {a b : Expr} {da db : DE} {pos : Pos}
theorem pd_sub (ha : PD X a da) (hb : PD X b db) : PD X (.BinOp a .Sub b pos) (dOp rSub da db) := pd_op op_sub (lr_I0 fun _ _ _ => .int _) ha hb
theorem pd_dv (ha : PD X a da) (hb : PD X b db) : PD X (.BinOp a .FloorDiv b pos) (dOp rDv da db) := pd_op op_dv (lr_I fun _ _ _ => .int _) ha hb
theorem pd_md (ha : PD X a da) (hb : PD X b db) : PD X (.BinOp a .Mod b pos) (dOp rMd da db) := pd_op op_modN (lr_I fun _ _ _ => .int _) ha hb
theorem pd_pw (ha : PD X a da) (hb : PD X b db) : PD X (.BinOp a .Pow b pos) (dOp rPw da db) := pd_op op_pow (lr_I fun _ _ _ => .int _) ha hb
end
def rAdd : DR2 := fun x y μ Q => match rd μ x, rd μ y with
  | some (.int i), some (.int j) => Q (.dat (.int (i + j))) μ
  | some (.str i), some (.str j) => i.length + j.length ≤ sizeLine ∧ Q (.dat (.str (i ++ j))) μ
  | some (.tuple xs), some (.tuple ys) => xs.length + ys.length ≤ sizeLine ∧ Q (mk (isV x || isV y) (.tuple (xs ++ ys))) μ
  | some (.list xs), some (.list ys) => xs.length + ys.length ≤ sizeLine ∧ Q (mk (isV x || isV y) (.list (xs ++ ys))) μ
  | _, _ => False
def rCatS (K : PySem.W.Frag) : R2 := fun x y H Q => ∃ l b xs zs, x = .ref l ∧ y = .ref b ∧ SqL K H l xs ∧ SqL K H b zs ∧ xs.length + zs.length ≤ sizeLine ∧ ∀ p, H p = none → Q (.ref p) (upd H p (.lst (xs ++ zs)))
theorem op_catS : OpR X (binaryOp .Add) (rCatS X.K) := by
  intro pins s σ H x y v u Q I rx ry h
  obtain ⟨l, b, xs, zs, rfl, rfl, hH, hB, hz, q⟩ := h
  cases rx
  cases ry
  obtain ⟨its, r, ⟨⟨c1, d1, dt1, s1⟩, n, e, hc, hdn, hdt⟩, hl⟩ := I.list hH
  obtain ⟨its2, r2, ⟨⟨c2, d2, dt2, s2⟩, n2, e2, hc2, hdn2, hdt2⟩, hl2⟩ := I.list hB
  simp only at hc hdn hdt hc2 hdn2 hdt2
  subst hc hdn hdt hc2 hdn2 hdt2
  have z1 := r.length
  have z2 := r2.length
  have fits : its.toArray.size + its2.toArray.size ≤ sizeLine := by rw [List.size_toArray, List.size_toArray]; omega
  refine concat_meets ⟨_, e, rfl⟩ ⟨_, e2, rfl⟩ noFill_list_add seq_list_add PySem.F.slot_list_add PySem.F.entry_list_add (PySem.F.args_list_add_2 _ _)
    (list_addW l b its.toArray its2.toArray n n2 none none s1 s2 fits) ⟨e, e2, ?_⟩
  have ea : its.toArray ++ its2.toArray = (its ++ its2).toArray := by simp
  rw [ea]
  exact ⟨.ref _, _, I.lnew (t' := s.toks) (r.append r2) (by rw [List.length_append]; omega), rfl, q _ I.fresh⟩
abbrev rAddV (K : PySem.W.Frag) : R2 := fun x y H Q => rI0 (fun i j => .int (i + j)) x y H Q ∨ ((∃ i j, x = .str i ∧ y = .str j ∧ i.length + j.length ≤ sizeLine ∧ Q (.str (i ++ j)) H) ∨ (rCatA K x y H Q ∨ rCatS K x y H Q))
theorem op_addV : OpR X (binaryOp .Add) (rAddV X.K) := op_add.or (op_add_str.or (op_catA.or op_catS))
theorem its_app {W : Wd} {H : Hp} {μ : Mu} {s t : Sl} {xs ys : List V} {ds es : List PyData} (r : Rep K W H μ) (h1 : Its K W s xs ds) (h2 : Its K W t ys es) : DvAll K (bh W (isV s || isV t)) (xs ++ ys) (ds ++ es) :=
  (DvAll.mono h1 (bh_or1 r.gf)).app (DvAll.mono h2 (bh_or2 r.gf))
theorem lr_add : LR2 K (rAddV K) rAdd := fun x y μ Q' h W H vx vy r hx hy Q q => by
  unfold rAdd at h
  split at h
  · rename_i i j e1 e2
    cases rd_int r hx e1
    cases rd_int r hy e2
    exact .inl ⟨i, j, rfl, rfl, q.int r h⟩
  · rename_i i j e1 e2
    cases rd_str r hx e1
    cases rd_str r hy e2
    exact .inr (.inl ⟨i, j, rfl, rfl, h.1, q.str r h.2⟩)
  · rename_i ds es e1 e2
    obtain ⟨a, xs, rfl, ha, ia⟩ := rd_tup r hx e1
    obtain ⟨b, ys, rfl, hb, ib⟩ := rd_tup r hy e2
    have app := its_app r ia ib
    have l1 := ia.length
    have l2 := ib.length
    refine .inr (.inr (.inl ⟨a, b, xs, ys, rfl, rfl, ha, hb, by rw [l1, l2]; exact h.1, fun z => ?_, fun _ z => ?_, fun _ _ p hp => q.newT r app h.2 p hp⟩))
    · subst z
      have z0 : ds = [] := List.length_eq_zero_iff.mp (by rw [← l1]; rfl)
      subst z0
      refine q _ _ W H μ (Le.refl W) r (slOk_mk ?_) h.2
      rw [List.nil_append]
      have hd := rd_dp r hy e2
      cases y with
      | dat d' => cases e2; exact Dv.mono (show Dv K W.G _ _ from hy) (bh_or2 (b := isV x) (c := false) r.gf)
      | vw d' => cases e2; exact Dv.mono (show Dv K W.F _ _ from hy) (bh_or2 (b := isV x) (c := true) r.gf)
      | raw w => cases e2
      | rtup w => cases e2
      | cell k =>
        replace e2 : rdC μ[k]? = _ := e2
        cases qq : μ[k]? with
        | none => rw [qq] at e2; cases e2
        | some c => rw [qq] at e2; cases c <;> cases e2
    · subst z
      have z0 : es = [] := List.length_eq_zero_iff.mp (by rw [← l2]; rfl)
      subst z0
      refine q _ _ W H μ (Le.refl W) r (slOk_mk ?_) h.2
      rw [List.append_nil]
      cases x with
      | dat d' => cases e1; exact Dv.mono (show Dv K W.G _ _ from hx) (bh_or1 (b := false) (c := isV y) r.gf)
      | vw d' => cases e1; exact Dv.mono (show Dv K W.F _ _ from hx) (bh_or1 (b := true) (c := isV y) r.gf)
      | raw w => cases e1
      | rtup w => cases e1
      | cell k =>
        replace e1 : rdC μ[k]? = _ := e1
        cases qq : μ[k]? with
        | none => rw [qq] at e1; cases e1
        | some c => rw [qq] at e1; cases c <;> cases e1
  · rename_i ds es e1 e2
    obtain ⟨a, xs, rfl, ha, ia⟩ := rd_lst r hx e1
    obtain ⟨b, ys, rfl, hb, ib⟩ := rd_lst r hy e2
    refine .inr (.inr (.inr ⟨a, b, xs, ys, rfl, rfl, ha, hb, by rw [ia.length, ib.length]; exact h.1, fun p hp => q.newL r (its_app r ia ib) h.2 p hp⟩))
  · exact h.elim
theorem pd_add {a b : Expr} {da db : DE} {pos : Pos} (ha : PD X a da) (hb : PD X b db) : PD X (.BinOp a .Add b pos) (dOp rAdd da db) := pd_op op_addV lr_add ha hb
def rMul : DR2 := fun x y μ Q => match rd μ x, rd μ y with
  | some (.int i), some (.int j) => CMulW i j ∧ Q (.dat (.int (i * j))) μ
  | some (.tuple xs), some (.int k) => (xs ≠ [] ∧ 2 ≤ k ∧ k ≤ 1000 ∧ xs.length ≤ 1000) ∧ Q (mk (isV x) (.tuple (List.replicate k.toNat xs).flatten)) μ
  | _, _ => False
theorem dpAll_rep {H : Hp} {xs : List V} {ds : List PyData} (h : DvAll K H xs ds) : ∀ n : Nat, DvAll K H (List.replicate n xs).flatten (List.replicate n ds).flatten
  | 0 => .nil
  | n + 1 => by
    rw [List.replicate_succ, List.replicate_succ, List.flatten_cons, List.flatten_cons]
    exact h.app (dpAll_rep h n)
abbrev rMulV (K : PySem.W.Frag) : R2 := fun x y H Q => rI CMulW (fun i j => .int (i * j)) x y H Q ∨ rRepT K x y H Q
theorem lr_mul : LR2 K (rMulV K) rMul := fun x y μ Q' h W H vx vy r hx hy Q q => by
  unfold rMul at h
  split at h
  · rename_i i j e1 e2
    cases rd_int r hx e1
    cases rd_int r hy e2
    exact .inl ⟨i, j, rfl, rfl, h.1, q.int r h.2⟩
  · rename_i ds k e1 e2
    obtain ⟨a, xs, rfl, ha, ia⟩ := rd_tup r hx e1
    cases rd_int r hy e2
    obtain ⟨⟨h1, h2, h3, h4⟩, h5⟩ := h
    refine .inr ⟨a, k, xs, rfl, rfl, ha, fun z => h1 ?_, h2, h3, by rw [ia.length]; exact h4, fun p hp => q.newT r (dpAll_rep ia k.toNat) h5 p hp⟩
    subst z
    exact List.length_eq_zero_iff.mp (by rw [← ia.length]; rfl)
  · exact h.elim
theorem pd_mul {a b : Expr} {da db : DE} {pos : Pos} (ha : PD X a da) (hb : PD X b db) : PD X (.BinOp a .Mult b pos) (dOp rMul da db) := pd_op (op_mulW.or op_repT) lr_mul ha hb
def rNeg : DR1 := fun x μ Q => match rd μ x with
  | some (.int i) => Q (.dat (.int (-i))) μ
  | _ => False
theorem lr_neg : LR1 K (rU fun i => .int (-i)) rNeg := fun x μ Q' h W H vx r hx Q q => by
  unfold rNeg at h
  split at h
  · rename_i i e
    cases rd_int r hx e
    exact ⟨i, rfl, q.int r h⟩
  · exact h.elim
theorem pd_neg {a : Expr} {da : DE} {pos : Pos} (ha : PD X a da) : PD X (.UnaryOp .USub a pos) (dUn rNeg da) := pd_un un_neg lr_neg ha
def eqD (f : Bool → Bool) : DR2 := fun x y μ Q => match rd μ x, rd μ y with
  | some (.int i), some (.int j) => Q (.dat (.bool (f (decide (i = j))))) μ
  | some (.str i), some (.str j) => Q (.dat (.bool (f (decide (i = j))))) μ
  | some (.bool i), some (.bool j) => Q (.dat (.bool (f (decide (i = j))))) μ
  | some d, some e => (SeqAt.shaped d = true ∧ SeqAt.shaped e = true) ∧ Q (.dat (.bool (f (PyData.eqv d e)))) μ
  | _, _ => False
def rEq : DR2 := eqD fun b => b
def rNe : DR2 := eqD fun b => !b
theorem eqD_of {f : Bool → Bool} {W : Wd} {H : Hp} {μ : Mu} {x y : Sl} {vx vy : V} {Q' : DQ} (h : eqD f x y μ Q') (r : Rep K W H μ) (hx : SlOk K W vx x) (hy : SlOk K W vy y) :
    (scal vx vy = true ∧ Q' (.dat (.bool (f (decide (vx = vy))))) μ) ∨ ∃ d e, Dv K H vx d ∧ Dv K H vy e ∧ (SeqAt.shaped d = true ∧ SeqAt.shaped e = true) ∧ Q' (.dat (.bool (f (PyData.eqv d e)))) μ := by
  unfold eqD at h
  split at h
  · rename_i i j e1 e2
    cases rd_int r hx e1
    cases rd_int r hy e2
    refine .inl ⟨rfl, ?_⟩
    rw [show decide (V.int i = V.int j) = decide (i = j) from decide_eq_decide.mpr ⟨V.int.inj, congrArg V.int⟩]
    exact h
  · rename_i i j e1 e2
    cases rd_str r hx e1
    cases rd_str r hy e2
    refine .inl ⟨rfl, ?_⟩
    rw [show decide (V.str i = V.str j) = decide (i = j) from decide_eq_decide.mpr ⟨V.str.inj, congrArg V.str⟩]
    exact h
  · rename_i i j e1 e2
    cases rd_bool r hx e1
    cases rd_bool r hy e2
    refine .inl ⟨rfl, ?_⟩
    rw [show decide (V.bl i = V.bl j) = decide (i = j) from decide_eq_decide.mpr ⟨V.bl.inj, congrArg V.bl⟩]
    exact h
  · rename_i d e _ _ _ e1 e2
    exact .inr ⟨d, e, rd_dp r hx e1, rd_dp r hy e2, h.1, h.2⟩
  · exact h.elim
theorem lr_eq : LR2 K (fun x y H Q => L2.rEq x y H Q ∨ rEqD K x y H Q) rEq := fun x y μ Q' h W H vx vy r hx hy Q q => by
  rcases eqD_of h r hx hy with ⟨h1, h2⟩ | ⟨d, e, h1, h2, h3, h4⟩
  · exact .inl ⟨h1, q.bl r h2⟩
  · exact .inr ⟨d, e, h1.dpS h3.1, h2.dpS h3.2, h3.1, h3.2, q.bl r h4⟩
theorem lr_ne : LR2 K (fun x y H Q => L2.rNe x y H Q ∨ rNeD K x y H Q) rNe := fun x y μ Q' h W H vx vy r hx hy Q q => by
  rcases eqD_of h r hx hy with ⟨h1, h2⟩ | ⟨d, e, h1, h2, h3, h4⟩
  · exact .inl ⟨h1, q.bl r h2⟩
  · exact .inr ⟨d, e, h1.dpS h3.1, h2.dpS h3.2, h3.1, h3.2, q.bl r h4⟩
theorem op_eqV (hu : X.A.units + 64 < cLine) : OpR X (compareOp .Eq) (fun x y H Q => L2.rEq x y H Q ∨ rEqD X.K x y H Q) := op_eq.or (op_eqD hu)
theorem op_neV (hu : X.A.units + 64 < cLine) : OpR X (compareOp .NotEq) (fun x y H Q => L2.rNe x y H Q ∨ rNeD X.K x y H Q) := op_ne.or (op_neD hu)
theorem op_isV : OpR X (compareOp .Is) (fun x y H Q => (y = .non ∧ Q (.bl (decide (x = .non))) H) ∨ (∃ a b, x = .bl a ∧ y = .bl b ∧ Q (.bl (decide (a = b))) H)) := op_isN.or op_is_bl
def ltS (i j : Str) : Bool := decide (i.cps.toList < j.cps.toList)
def ord2 (f : Int → Int → Bool) (g : Str → Str → Bool) : DR2 := fun x y μ Q => match rd μ x, rd μ y with
  | some (.int i), some (.int j) => Q (.dat (.bool (f i j))) μ
  | some (.str i), some (.str j) => Q (.dat (.bool (g i j))) μ
  | _, _ => False
def rLt : DR2 := ord2 (fun i j => decide (i < j)) ltS
def rLe : DR2 := ord2 (fun i j => decide (i ≤ j)) fun i j => !ltS j i
def rGt : DR2 := ord2 (fun i j => decide (j < i)) fun i j => ltS j i
def rGe : DR2 := ord2 (fun i j => decide (j ≤ i)) fun i j => !ltS i j
theorem op_ltV : OpR X (compareOp .Lt) (fun x y H Q => rI0 (fun i j => .bl (decide (i < j))) x y H Q ∨ ∃ i j, x = .str i ∧ y = .str j ∧ Q (.bl (ltS i j)) H) := op_lt.or op_lt_str
theorem op_leV : OpR X (compareOp .LtE) (fun x y H Q => rI0 (fun i j => .bl (decide (i ≤ j))) x y H Q ∨ ∃ i j, x = .str i ∧ y = .str j ∧ Q (.bl (!ltS j i)) H) := op_le.or op_le_str
theorem op_gtV : OpR X (compareOp .Gt) (fun x y H Q => rI0 (fun i j => .bl (decide (j < i))) x y H Q ∨ ∃ i j, x = .str i ∧ y = .str j ∧ Q (.bl (ltS j i)) H) := op_gt.or op_gt_str
theorem op_geV : OpR X (compareOp .GtE) (fun x y H Q => rI0 (fun i j => .bl (decide (j ≤ i))) x y H Q ∨ ∃ i j, x = .str i ∧ y = .str j ∧ Q (.bl (!ltS i j)) H) := op_ge.or op_ge_str
def isNon : PyData → Bool
  | .none => true
  | _ => false
def rIs (neg : Bool) : DR2 := fun x y μ Q => match rd μ x, y with
  | some d, .dat .none => Q (.dat (.bool (neg != isNon d))) μ
  | some (.bool b), .dat (.bool c) => Q (.dat (.bool (neg != decide (b = c)))) μ
  | _, _ => False
theorem dp_non {H : Hp} {v : V} {d : PyData} (h : Dv K H v d) : decide (v = .non) = isNon d := by
  cases h <;> rfl
theorem lr_is : LR2 K (fun x y H Q => (y = .non ∧ Q (.bl (decide (x = .non))) H) ∨ (∃ a b, x = .bl a ∧ y = .bl b ∧ Q (.bl (decide (a = b))) H)) (rIs false) := fun x y μ Q' h W H vx vy r hx hy Q q => by
  unfold rIs at h
  split at h
  · rename_i d e1
    have hd := rd_dp r hx e1
    cases (show Dv K W.G vy .none from hy)
    refine .inl ⟨rfl, ?_⟩
    rw [dp_non hd]
    have := q.bl r h
    simpa using this
  · rename_i b c e1
    cases rd_bool r hx e1
    cases (show Dv K W.G vy (.bool c) from hy)
    refine .inr ⟨b, c, rfl, rfl, ?_⟩
    have := q.bl r h
    simpa using this
  · exact h.elim
end
end DL
namespace DL
open PySem PySem.Spec PyProof.Rows L2 Evl
def truD : PyData → Bool
  | .none => false
  | .bool b => b
  | .int i => i != 0
  | .str y => (y.length : Int) != 0
  | .list xs => !xs.isEmpty
  | .tuple xs => !xs.isEmpty
  | .dict _ => true
def okT : PyData → Prop
  | .str y => y.length ≤ sizeLine
  | .dict _ => False
  | _ => True
def dTru (d : DE) : DT := fun ρ μ Q => d ρ μ fun x μ1 => match rd μ1 x with
  | some z => okT z ∧ Q (truD z) μ1
  | _ => False
def dAnd (t u : DT) : DT := fun ρ μ Q => t ρ μ fun c μ1 => if c = true then u ρ μ1 Q else Q false μ1
def dOr (t u : DT) : DT := fun ρ μ Q => t ρ μ fun c μ1 => if c = true then Q true μ1 else u ρ μ1 Q
def dNot (t : DT) : DT := fun ρ μ Q => t ρ μ fun c μ1 => Q (!c) μ1
def dIf (t : DT) (a b : DE) : DE := fun ρ μ Q => t ρ μ fun c μ1 => if c = true then a ρ μ1 Q else b ρ μ1 Q
def dAndV (a b : DE) : DE := fun ρ μ Q => a ρ μ fun x μ1 => match x with
  | .dat (.bool c) => if c = true then b ρ μ1 Q else Q (.dat (.bool false)) μ1
  | _ => False
def dOrV (a b : DE) : DE := fun ρ μ Q => a ρ μ fun x μ1 => match x with
  | .dat (.bool c) => if c = true then Q (.dat (.bool true)) μ1 else b ρ μ1 Q
  | _ => False
def dNotV (a : DE) : DE := fun ρ μ Q => a ρ μ fun x μ1 => match x with
  | .dat (.bool c) => Q (.dat (.bool (!c))) μ1
  | _ => False
theorem bool_of {K : PySem.W.Frag} {W : Wd} {v : V} {c : Bool} (h : SlOk K W v (.dat (.bool c))) : v = .bl c := by
  cases (show Dv K W.G v (.bool c) from h)
  rfl
section
variable {X : Cx} {K : PySem.W.Frag} {a b : Expr} {pos : Pos} {rest : List Expr}
theorem isEmpty_len {α β : Type} {xs : List α} {ys : List β} (h : xs.length = ys.length) : xs.isEmpty = ys.isEmpty := by
  cases xs <;> cases ys <;> first | rfl | simp at h
theorem truV_of {W : Wd} {H : Hp} {μ : Mu} {v : V} {s : Sl} {z : PyData} (r : Rep K W H μ) (h : SlOk K W v s) (e : rd μ s = some z) (ho : okT z) : TruV K v H (truD z) := by
  cases z with
  | none => cases rd_none r h e; exact (rfl : false = false)
  | bool b => cases rd_bool r h e; exact (rfl : b = b)
  | int i => cases rd_int r h e; exact (rfl : (i != 0) = (i != 0))
  | str y => cases rd_str r h e; exact ⟨ho, rfl⟩
  | list ds =>
    obtain ⟨p, xs, rfl, hx, hi⟩ := rd_lst r h e
    exact .inl ⟨xs, hx, by rw [isEmpty_len hi.length]; rfl⟩
  | tuple ds =>
    obtain ⟨p, xs, rfl, hx, hi⟩ := rd_tup r h e
    exact .inr (.inl ⟨xs, hx, by rw [isEmpty_len hi.length]; rfl⟩)
  | dict kvs => exact ho.elim
theorem lt_tru {t : TE} {d : DE} (h : LE K t d) : LT K (fun σ H Q => t σ H fun x H' => ∃ k, TruV K x H' k ∧ Q k H') (dTru d) := fun ρ μ Q' hd W σ H he rp Q q =>
  h ρ μ _ hd W σ H he rp _ fun vx x W1 H1 μ1 l1 r1 hx h1 => by
    replace h1 : (match rd μ1 x with | some z => okT z ∧ Q' (truD z) μ1 | _ => False) := h1
    cases e : rd μ1 x with
    | none => rw [e] at h1; exact h1.elim
    | some z =>
      rw [e] at h1
      exact ⟨truD z, truV_of r1 hx e h1.1, q _ W1 H1 μ1 l1 r1 h1.2⟩
theorem pdt_tru {d : DE} (h : PD X a d) (he : ∀ whole, isTrue a X.env whole = (do let v ← whole; standAt a.pos; holding [v] (truthy v)) := by exact fun _ => rfl) : PDT X a (dTru d) := by
  obtain ⟨t, p, l⟩ := h
  exact ⟨_, pt_truth p he, lt_tru l⟩
theorem lt_and {t u : TT} {d e : DT} (h1 : LT K t d) (h2 : LT K u e) : LT K (tAnd t u) (dAnd d e) := fun ρ μ Q' hd W σ H he rp Q q =>
  h1 ρ μ _ hd W σ H he rp _ fun b W1 H1 μ1 l1 r1 q1 => by
    cases b with
    | true => exact h2 ρ μ1 Q' q1 W1 σ H1 (he.mono l1) r1 Q (q.le l1)
    | false => exact q false W1 H1 μ1 l1 r1 q1
theorem lt_or {t u : TT} {d e : DT} (h1 : LT K t d) (h2 : LT K u e) : LT K (tOr t u) (dOr d e) := fun ρ μ Q' hd W σ H he rp Q q =>
  h1 ρ μ _ hd W σ H he rp _ fun b W1 H1 μ1 l1 r1 q1 => by
    cases b with
    | false => exact h2 ρ μ1 Q' q1 W1 σ H1 (he.mono l1) r1 Q (q.le l1)
    | true => exact q true W1 H1 μ1 l1 r1 q1
theorem pdw_and1 {d : DT} (h : PDT X a d) : PDW X (.BoolOp .And [a] pos) d := by
  obtain ⟨t, p, l⟩ := h
  exact ⟨_, pw_and1 p, l⟩
theorem pdw_or1 {d : DT} (h : PDT X a d) : PDW X (.BoolOp .Or [a] pos) d := by
  obtain ⟨t, p, l⟩ := h
  exact ⟨_, pw_or1 p, l⟩
theorem pdw_and {d e : DT} (h : PDT X a d) (h2 : PDW X (.BoolOp .And (b :: rest) pos) e) : PDW X (.BoolOp .And (a :: b :: rest) pos) (dAnd d e) := by
  obtain ⟨t, p, l⟩ := h
  obtain ⟨t2, p2, l2⟩ := h2
  exact ⟨_, pw_and p p2, lt_and l l2⟩
theorem pdw_or {d e : DT} (h : PDT X a d) (h2 : PDW X (.BoolOp .Or (b :: rest) pos) e) : PDW X (.BoolOp .Or (a :: b :: rest) pos) (dOr d e) := by
  obtain ⟨t, p, l⟩ := h
  obtain ⟨t2, p2, l2⟩ := h2
  exact ⟨_, pw_or p p2, lt_or l l2⟩
theorem PDW.pdt {d : DT} (h : PDW X a d) : PDT X a d := by
  obtain ⟨t, p, l⟩ := h
  exact ⟨_, p.pt, l⟩
theorem pdt_not {d : DT} (h : PDT X a d) : PDT X (.UnaryOp .Not a pos) (dNot d) := by
  obtain ⟨t, p, l⟩ := h
  exact ⟨_, pt_not p, fun ρ μ Q' hd W σ H he rp Q q => l ρ μ _ hd W σ H he rp _ fun b W1 H1 μ1 l1 r1 q1 => q _ W1 H1 μ1 l1 r1 q1⟩
theorem pd_ifExp {c : Expr} {d : DT} {da db : DE} (hc : PDT X c d) (ha : PD X a da) (hb : PD X b db) : PD X (.IfExp c a b pos) (dIf d da db) := by
  obtain ⟨t, p, l⟩ := hc
  obtain ⟨ta, p1, l1⟩ := ha
  obtain ⟨tb, p2, l2⟩ := hb
  refine ⟨_, pe_ifExp p p1 p2, fun ρ μ Q' hd W σ H he rp Q q => l ρ μ _ hd W σ H he rp _ fun b W1 H1 μ1 le1 r1 q1 => ?_⟩
  cases b with
  | true => exact l1 ρ μ1 Q' q1 W1 σ H1 (he.mono le1) r1 Q (q.le le1)
  | false => exact l2 ρ μ1 Q' q1 W1 σ H1 (he.mono le1) r1 Q (q.le le1)
theorem pd_one {op} {d : DE} (h : PD X a d) : PD X (.BoolOp op [a] pos) d := by
  obtain ⟨t, p, l⟩ := h
  exact ⟨_, pe_one p, l⟩
theorem pd_and {da db : DE} (ha : PD X a da) (hb : PD X (.BoolOp .And (b :: rest) pos) db) : PD X (.BoolOp .And (a :: b :: rest) pos) (dAndV da db) := by
  obtain ⟨ta, p1, l1⟩ := ha
  obtain ⟨tb, p2, l2⟩ := hb
  refine ⟨_, pe_and p1 p2, fun ρ μ Q' hd W σ H he rp Q q => l1 ρ μ _ hd W σ H he rp _ fun v s W1 H1 μ1 le1 r1 hs h1 => ?_⟩
  cases s with
  | dat d =>
    cases d with
    | bool c =>
      cases bool_of hs
      refine ⟨c, rfl, ?_⟩
      cases c with
      | true => exact l2 ρ μ1 Q' h1 W1 σ H1 (he.mono le1) r1 Q (q.le le1)
      | false => exact (q.le le1).bl r1 h1
    | _ => exact False.elim h1
  | _ => exact False.elim h1
theorem pd_not {da : DE} (ha : PD X a da) : PD X (.UnaryOp .Not a pos) (dNotV da) := by
  obtain ⟨ta, p1, l1⟩ := ha
  refine ⟨_, pe_not p1, fun ρ μ Q' hd W σ H he rp Q q => l1 ρ μ _ hd W σ H he rp _ fun v s W1 H1 μ1 le1 r1 hs h1 => ?_⟩
  cases s with
  | dat d =>
    cases d with
    | bool c =>
      cases bool_of hs
      exact ⟨c, rfl, (q.le le1).bl r1 h1⟩
    | _ => exact False.elim h1
  | _ => exact False.elim h1
def datsOf : List Sl → Option (Bool × List PyData)
  | [] => some (false, [])
  | .dat d :: r => match datsOf r with
    | some (b, ds) => some (b, d :: ds)
    | none => none
  | .vw d :: r => match datsOf r with
    | some (_, ds) => some (true, d :: ds)
    | none => none
  | _ :: _ => none
theorem datsOf_ok {W : Wd} (e : Ex W.G W.F) : ∀ {ss : List Sl} {vs : List V} {b : Bool} {ds : List PyData}, SlAll K W vs ss → datsOf ss = some (b, ds) → DvAll K (bh W b) vs ds
  | [], _, _, _, h, e1 => by
    cases h
    cases e1
    exact .nil
  | .dat d :: r, _, b, ds, h, e1 => by
    cases h with
    | cons h1 h2 =>
      unfold datsOf at e1
      cases q : datsOf r with
      | none => rw [q] at e1; cases e1
      | some z =>
        rw [q] at e1
        obtain ⟨b', ds'⟩ := z
        cases e1
        exact .cons (Dv.mono (show Dv K W.G _ d from h1) (bh_or1 (b := false) (c := b) e)) (datsOf_ok e h2 q)
  | .vw d :: r, _, b, ds, h, e1 => by
    cases h with
    | cons h1 h2 =>
      unfold datsOf at e1
      cases q : datsOf r with
      | none => rw [q] at e1; cases e1
      | some z =>
        rw [q] at e1
        obtain ⟨b', ds'⟩ := z
        cases e1
        exact .cons h1 (DvAll.mono (datsOf_ok e h2 q) (bh_ff e))
  | .cell k :: r, _, _, _, _, e1 => by cases e1
  | .raw v :: r, _, _, _, _, e1 => by cases e1
  | .rtup v :: r, _, _, _, _, e1 => by cases e1
def dTup (a : DA) : DE := fun ρ μ Q => a ρ μ fun ss μ1 => match datsOf ss with
  | some (b, ds) => ds.length ≤ sizeLine ∧ Q (mk b (.tuple ds)) μ1
  | none => False
def dLst (a : DA) : DE := fun ρ μ Q => a ρ μ fun ss μ1 => match datsOf ss with
  | some (b, ds) => ds.length ≤ sizeLine ∧ Q (mk b (.list ds)) μ1
  | none => False
def dLstC (a : DA) : DE := fun ρ μ Q => a ρ μ fun ss μ1 => match datsOf ss with
  | some (false, ds) => ds.length ≤ sizeLine ∧ Q (.cell μ1.length) (μ1 ++ [.lst ds])
  | _ => False
variable {es : List Expr}
theorem pd_tup {x1} {a : DA} (h : PDA X es a) : PD X (.Tuple es x1 pos) (dTup a) := by
  obtain ⟨t, p, l⟩ := h
  refine ⟨_, pe_tup p, fun ρ μ Q' hd W σ H he rp Q q => l ρ μ _ hd W σ H he rp _ fun vs ss W1 H1 μ1 l1 r1 hs h1 => ?_⟩
  replace h1 : (match datsOf ss with | some (b, ds) => ds.length ≤ sizeLine ∧ Q' (mk b (.tuple ds)) μ1 | none => False) := h1
  cases e : datsOf ss with
  | none => rw [e] at h1; exact h1.elim
  | some z =>
    rw [e] at h1
    obtain ⟨b, ds⟩ := z
    have hx := datsOf_ok r1.gf hs e
    exact ⟨by rw [hx.length]; exact h1.1, (q.le l1).newT r1 hx h1.2⟩
theorem pd_lst {a : DA} (h : PDA X es a) : PD X (.List es pos) (dLst a) := by
  obtain ⟨t, p, l⟩ := h
  refine ⟨_, pe_lst p, fun ρ μ Q' hd W σ H he rp Q q => l ρ μ _ hd W σ H he rp _ fun vs ss W1 H1 μ1 l1 r1 hs h1 => ?_⟩
  replace h1 : (match datsOf ss with | some (b, ds) => ds.length ≤ sizeLine ∧ Q' (mk b (.list ds)) μ1 | none => False) := h1
  cases e : datsOf ss with
  | none => rw [e] at h1; exact h1.elim
  | some z =>
    rw [e] at h1
    obtain ⟨b, ds⟩ := z
    have hx := datsOf_ok r1.gf hs e
    exact ⟨by rw [hx.length]; exact h1.1, (q.le l1).newL r1 hx h1.2⟩
theorem pd_lstC {a : DA} (h : PDA X es a) : PD X (.List es pos) (dLstC a) := by
  obtain ⟨t, p, l⟩ := h
  refine ⟨_, pe_lst p, fun ρ μ Q' hd W σ H he rp Q q => l ρ μ _ hd W σ H he rp _ fun vs ss W1 H1 μ1 l1 r1 hs h1 => ?_⟩
  replace h1 : (match datsOf ss with | some (false, ds) => ds.length ≤ sizeLine ∧ Q' (.cell μ1.length) (μ1 ++ [.lst ds]) | _ => False) := h1
  cases e : datsOf ss with
  | none => rw [e] at h1; exact h1.elim
  | some z =>
    rw [e] at h1
    obtain ⟨b, ds⟩ := z
    cases b with
    | true => exact False.elim h1
    | false =>
      have hx := datsOf_ok r1.gf hs e
      exact ⟨by rw [hx.length]; exact h1.1, (q.le l1).newCell r1 hx h1.2⟩
def rIx : DR2 := fun x y μ Q => match rd μ x, rd μ y with
  | some (.list ds), some (.int i) => ∃ d, atI ds i = some d ∧ Q (elt x d) μ
  | some (.tuple ds), some (.int i) => ∃ d, atI ds i = some d ∧ Q (elt x d) μ
  | some (.str z), some (.int i) => z.length ≤ sizeLine ∧ ∃ c, atI z.cps.toList i = some c ∧ Q (.dat (.str ⟨#[c]⟩)) μ
  | _, _ => False
theorem its_at {W : Wd} {s : Sl} {xs : List V} {ds : List PyData} {i : Int} {d : PyData} (h : Its K W s xs ds) (e : atI ds i = some d) : ∃ v, atI xs i = some v ∧ SlOk K W v (elt s d) := by
  unfold atI at e ⊢
  rw [h.length]
  cases q : ixN ds.length i with
  | none => rw [q] at e; cases e
  | some j =>
    rw [q] at e
    exact h.get e
theorem lr_ix : LR2 K (fun x y H Q => rIxL K x y H Q ∨ (rIxT K x y H Q ∨ rIxS x y H Q)) rIx := fun x y μ Q' h W H vx vy r hx hy Q q => by
  unfold rIx at h
  split at h
  · rename_i ds i e1 e2
    obtain ⟨d, h1, h2⟩ := h
    obtain ⟨p, xs, rfl, hp, hi⟩ := rd_lst r hx e1
    cases rd_int r hy e2
    obtain ⟨v, hv, hs⟩ := its_at hi h1
    exact .inl ⟨p, xs, i, v, rfl, rfl, hp, hv, q.here r hs h2⟩
  · rename_i ds i e1 e2
    obtain ⟨d, h1, h2⟩ := h
    obtain ⟨p, xs, rfl, hp, hi⟩ := rd_tup r hx e1
    cases rd_int r hy e2
    obtain ⟨v, hv, hs⟩ := its_at hi h1
    exact .inr (.inl ⟨p, xs, i, v, rfl, rfl, hp, hv, q.here r hs h2⟩)
  · rename_i z i e1 e2
    obtain ⟨hz, c, h1, h2⟩ := h
    cases rd_str r hx e1
    cases rd_int r hy e2
    exact .inr (.inr ⟨z, i, c, rfl, rfl, hz, h1, q.str r h2⟩)
  · exact h.elim
theorem pd_ix {da db : DE} (ha : PD X a da) (hb : PD X b db) (hs : PlainIx b := by exact fun _ _ => rfl) : PD X (.Subscript a b pos) (dOp rIx da db) := by
  obtain ⟨ta, p1, l1⟩ := ha
  obtain ⟨tb, p2, l2⟩ := hb
  exact ⟨_, pe_ix (ix_list.or (ix_tup.or ix_str)) p1 p2 hs, le_op lr_ix l1 l2⟩
abbrev DO := Rho → Mu → (Option Int → Mu → Prop) → Prop
def LO (K : PySem.W.Frag) (t : TO) (d : DO) : Prop := ∀ ρ μ Q', d ρ μ Q' → ∀ W σ H, EnvOk K W σ ρ → Rep K W H μ → ∀ Q : Option Int → Hp → Prop, (∀ o W' H' μ', Le W W' → Rep K W' H' μ' → Q' o μ' → Q o H') → t σ H Q
structure PDO (X : Cx) (e : Option Expr) (d : DO) : Prop where
  ex : ∃ t, PO X e t ∧ LO X.K t d
def oNone : DO := fun _ μ Q => Q none μ
def oSome (d : DE) : DO := fun ρ μ Q => d ρ μ fun x μ1 => match x with
  | .dat (.int i) => Q (some i) μ1
  | _ => False
theorem pdo_none : PDO X none oNone := ⟨_, po_none, fun ρ μ Q' h W σ H he r Q q => q none W H μ (Le.refl W) r h⟩
theorem pdo_some {d : DE} (h : PD X a d) : PDO X (some a) (oSome d) := by
  obtain ⟨t, p, l⟩ := h
  refine ⟨_, po_some p, fun ρ μ Q' hd W σ H he rp Q q => l ρ μ _ hd W σ H he rp _ fun v s W1 H1 μ1 l1 r1 hs h1 => ?_⟩
  cases s with
  | dat d =>
    cases d with
    | int i =>
      cases (show Dv X.K W1.G v (.int i) from hs)
      exact ⟨i, rfl, q _ W1 H1 μ1 l1 r1 h1⟩
    | _ => exact False.elim h1
  | _ => exact False.elim h1
def cutD (ds : List PyData) (lo hi : Option Int) : List PyData := (ds.drop (HT.sIx ds.length 0 lo)).take (HT.sIx ds.length ds.length hi - HT.sIx ds.length 0 lo)
def rSl (x : Sl) (lo hi : Option Int) (μ : Mu) (Q : DQ) : Prop := match rd μ x with
  | some (.tuple ds) => Q (mk (isV x) (.tuple (cutD ds lo hi))) μ
  | some (.list ds) => Q (mk (isV x) (.list (cutD ds lo hi))) μ
  | some (.str z) => z.length ≤ sizeLine ∧ Q (.dat (.str (cutS z lo hi))) μ
  | _ => False
def dSl (da : DE) (dl dh : DO) : DE := fun ρ μ Q => da ρ μ fun x μ1 => dl ρ μ1 fun l μ2 => dh ρ μ2 fun u μ3 => rSl x l u μ3 Q
theorem its_cut {W : Wd} {s : Sl} {xs : List V} {ds : List PyData} (h : Its K W s xs ds) (lo hi : Option Int) : DvAll K (bh W (isV s)) (cutV xs lo hi) (cutD ds lo hi) := by
  unfold cutV cutD
  rw [h.length]
  exact (DvAll.drop _ h).take _
theorem rd_tup_v {W : Wd} {v : V} {μ : Mu} {s : Sl} {ds : List PyData} (h : SlOk K W v s) (e : rd μ s = some (.tuple ds)) : Dv K (bh W (isV s)) v (.tuple ds) := by
  cases s with
  | dat d' => cases e; exact h
  | vw d' => cases e; exact h
  | raw w => cases e
  | rtup w => cases e
  | cell k =>
    replace e : rdC μ[k]? = _ := e
    cases qq : μ[k]? with
    | none => rw [qq] at e; cases e
    | some c => rw [qq] at e; cases c <;> cases e
theorem pd_sl {lo hi : Option Expr} {p2 : Pos} {da : DE} {dl dh : DO} (ha : PD X a da) (hl : PDO X lo dl) (hh : PDO X hi dh) : PD X (.Subscript a (.Slice lo hi none p2) pos) (dSl da dl dh) := by
  obtain ⟨ta, p1, l1⟩ := ha
  obtain ⟨tl, p2, l2⟩ := hl
  obtain ⟨th, p3, l3⟩ := hh
  refine ⟨_, pe_slice (sl_list.or (sl_tupA.or sl_str)) p1 p2 p3, fun ρ μ Q' hd W σ H he rp Q q => l1 ρ μ _ hd W σ H he rp _ fun v x W1 H1 μ1 le1 r1 hx h1 =>
    l2 ρ μ1 _ h1 W1 σ H1 (he.mono le1) r1 _ fun l W2 H2 μ2 le2 r2 h2 => l3 ρ μ2 _ h2 W2 σ H2 (he.mono (le1.trans le2)) r2 _ fun u W3 H3 μ3 le3 r3 h3 => ?_⟩
  have hx3 := (hx.mono le2).mono le3
  have q3 := q.le ((le1.trans le2).trans le3)
  unfold rSl at h3
  split at h3
  · rename_i ds e
    obtain ⟨p, xs, rfl, hp, hi⟩ := rd_tup r3 hx3 e
    refine .inr (.inl ⟨p, xs, rfl, hp, fun z => ?_, fun _ a ha => q3.newT r3 (its_cut hi l u) h3 a ha⟩)
    have hc : cutD ds l u = ds := by
      unfold cutD
      rw [hi.length] at z
      rw [z.1, z.2, List.drop_zero, Nat.sub_zero, List.take_length]
    rw [hc] at h3
    exact q3 _ _ W3 H3 μ3 (Le.refl _) r3 (slOk_mk (rd_tup_v hx3 e)) h3
  · rename_i ds e
    obtain ⟨p, xs, rfl, hp, hi⟩ := rd_lst r3 hx3 e
    exact .inl ⟨p, xs, rfl, hp, fun a ha => q3.newL r3 (its_cut hi l u) h3 a ha⟩
  · rename_i z e
    cases rd_str r3 hx3 e
    exact .inr (.inr ⟨z, rfl, h3.1, q3.str r3 h3.2⟩)
  · exact h3.elim
end
end DL
namespace DL
open PySem PySem.Spec PyProof.Rows L2 Evl
section
variable {X : Cx} {K : PySem.W.Frag} {e : Expr} {es : List Expr} {x : Str} {p pos : Pos}
theorem pd_cb {id : String} {r : List V → Hp → VK → Prop} {d : DRA} {a : DA} (hc : CallR X (.builtin id) r) (hr : LRA X.K r d) (hv : bootBuiltins x = some (.builtin id)) (ha : PDA X (e :: es) a) (hm : X.mg x = none) (hg : Gl X x := by rfl)
    (hn : x ≠ "__name__" := by decide) (hdb : (x == ("__debug__" : Str)) = false := by decide)
    (he : starEach (e :: es) X.env = (false, eval e X.env) :: starEach es X.env := by rfl) (hpl : (backTo pos (starEach es X.env)).any (·.1) = false := by rfl) : PD X (.Call (.Name x p) (e :: es) [] pos) (dCB d a) := by
  obtain ⟨t, p1, l1⟩ := ha
  exact ⟨_, pe_callB hc hg hm hv p1 hn hdb he hpl, le_cb hr l1⟩
theorem pd_ct {T : String} {r : List V → Hp → VK → Prop} {d : DRA} {a : DA} (hc : CallR X (.type T) r) (hr : LRA X.K r d) (hv : bootBuiltins x = some (.type T)) (ha : PDA X (e :: es) a) (hm : X.mg x = none) (hg : Gl X x := by rfl)
    (hn : x ≠ "__name__" := by decide) (hdb : (x == ("__debug__" : Str)) = false := by decide)
    (he : starEach (e :: es) X.env = (false, eval e X.env) :: starEach es X.env := by rfl) (hpl : (backTo pos (starEach es X.env)).any (·.1) = false := by rfl) : PD X (.Call (.Name x p) (e :: es) [] pos) (dCB d a) := by
  obtain ⟨t, p1, l1⟩ := ha
  exact ⟨_, pe_callTy hc hg hm hv p1 hn hdb he hpl, le_cb hr l1⟩
theorem pd_cf {id : String} {r : List V → Hp → VK → Prop} {d : DRA} {a : DA} (hc : CallR X (.builtin id) r) (hr : LRA X.K r d) (ha : PDA X (e :: es) a) (hm : X.mg x = some (.builtin id)) (hg : Gl X x := by rfl)
    (hdb : (x == ("__debug__" : Str)) = false := by decide)
    (he : starEach (e :: es) X.env = (false, eval e X.env) :: starEach es X.env := by rfl) (hpl : (backTo pos (starEach es X.env)).any (·.1) = false := by rfl) : PD X (.Call (.Name x p) (e :: es) [] pos) (dCB d a) := by
  obtain ⟨t, p1, l1⟩ := ha
  exact ⟨_, pe_callBfun hc hg hm p1 hdb he hpl, le_cb hr l1⟩
def arg1 (f : PyData → Sl → Mu → DQ → Prop) : DRA := fun xs μ Q => match xs with
  | [x] => match rd μ x with
    | some d => f d x μ Q
    | none => False
  | _ => False
theorem arg1_of {f : PyData → Sl → Mu → DQ → Prop} {xs : List Sl} {μ : Mu} {Q : DQ} (h : arg1 f xs μ Q) : ∃ x d, xs = [x] ∧ rd μ x = some d ∧ f d x μ Q := by
  unfold arg1 at h
  split at h
  · rename_i x
    split at h
    · rename_i d e
      exact ⟨x, d, rfl, e, h⟩
    · exact h.elim
  · exact h.elim
theorem slAll1 {W : Wd} {vs : List V} {x : Sl} (h : SlAll K W vs [x]) : ∃ v, vs = [v] ∧ SlOk K W v x := by
  cases h with
  | cons a t =>
    cases t
    exact ⟨_, rfl, a⟩
theorem slAll2 {W : Wd} {vs : List V} {x y : Sl} (h : SlAll K W vs [x, y]) : ∃ v u, vs = [v, u] ∧ SlOk K W v x ∧ SlOk K W u y := by
  cases h with
  | cons a t =>
    obtain ⟨u, rfl, b⟩ := slAll1 t
    exact ⟨_, _, rfl, a, b⟩
def ints2A (f : Int → Int → PyData) (c : Int → Int → Prop) : DRA := fun xs μ Q => match xs with
  | [x, y] => ints2 f c x y μ Q
  | _ => False
theorem ints2A_of {f : Int → Int → PyData} {c : Int → Int → Prop} {xs : List Sl} {μ : Mu} {Q : DQ} (h : ints2A f c xs μ Q) {W : Wd} {H : Hp} {vs : List V} (r : Rep K W H μ) (hs : SlAll K W vs xs) : ∃ i j, vs = [.int i, .int j] ∧ c i j ∧ Q (.dat (f i j)) μ := by
  unfold ints2A at h
  split at h
  · obtain ⟨i, j, e1, e2, hc, h⟩ := ints2_of h
    obtain ⟨v, u, rfl, h1, h2⟩ := slAll2 hs
    cases rd_int r h1 e1
    cases rd_int r h2 e2
    exact ⟨i, j, rfl, hc, h⟩
  · exact h.elim
def fLen : DRA := arg1 fun d _ μ Q => match d with
  | .list ds => Q (.dat (.int ds.length)) μ
  | .tuple ds => Q (.dat (.int ds.length)) μ
  | .str z => z.length ≤ sizeLine ∧ Q (.dat (.int z.length)) μ
  | _ => False
theorem pd_len {a : DA} (ha : PDA X (e :: es) a) (hm : X.mg "len" = none) (hg : Gl X "len" := by rfl)
    (he : starEach (e :: es) X.env = (false, eval e X.env) :: starEach es X.env := by rfl) (hpl : (backTo pos (starEach es X.env)).any (·.1) = false := by rfl) : PD X (.Call (.Name "len" p) (e :: es) [] pos) (dCB fLen a) := by
  refine pd_cb (call_len_seq.or call_len_str) (fun xs μ Q' h W H vs r hs Q q => ?_) PySem.boot_len ha hm hg (by decide) (by decide) he hpl
  obtain ⟨x, d, rfl, e1, h⟩ := arg1_of h
  obtain ⟨v, rfl, hx⟩ := slAll1 hs
  cases d with
  | list ds =>
    obtain ⟨a, ys, rfl, hl, hi⟩ := rd_lst r hx e1
    exact .inl ⟨a, ys, rfl, .inl hl, by rw [hi.length]; exact q.int r h⟩
  | tuple ds =>
    obtain ⟨a, ys, rfl, hl, hi⟩ := rd_tup r hx e1
    exact .inl ⟨a, ys, rfl, .inr hl, by rw [hi.length]; exact q.int r h⟩
  | str z =>
    cases rd_str r hx e1
    exact .inr ⟨z, rfl, h.1, q.int r h.2⟩
  | _ => exact False.elim h
def fAbs : DRA := arg1 fun d _ μ Q => match d with
  | .int i => Q (.dat (.int (if i < 0 then -i else i))) μ
  | _ => False
theorem pd_abs {a : DA} (ha : PDA X (e :: es) a) (hm : X.mg "abs" = none) (hg : Gl X "abs" := by rfl)
    (he : starEach (e :: es) X.env = (false, eval e X.env) :: starEach es X.env := by rfl) (hpl : (backTo pos (starEach es X.env)).any (·.1) = false := by rfl) : PD X (.Call (.Name "abs" p) (e :: es) [] pos) (dCB fAbs a) := by
  refine pd_cb call_abs (fun xs μ Q' h W H vs r hs Q q => ?_) (by decide +kernel) ha hm hg (by decide) (by decide) he hpl
  obtain ⟨x, d, rfl, e1, h⟩ := arg1_of h
  obtain ⟨v, rfl, hx⟩ := slAll1 hs
  cases d with
  | int i =>
    cases rd_int r hx e1
    exact ⟨i, rfl, q.int r h⟩
  | _ => exact False.elim h
def fMax2 : DRA := ints2A (fun i j => .int (if j > i then j else i)) fun _ _ => True
theorem pd_max2 {a : DA} (hc : X.calm = true) (ha : PDA X (e :: es) a) (hm : X.mg "max" = none) (hg : Gl X "max" := by rfl)
    (he : starEach (e :: es) X.env = (false, eval e X.env) :: starEach es X.env := by rfl) (hpl : (backTo pos (starEach es X.env)).any (·.1) = false := by rfl) : PD X (.Call (.Name "max" p) (e :: es) [] pos) (dCB fMax2 a) :=
  pd_cb (call_max2 hc) (fun xs μ Q' h W H vs r hs Q q => let ⟨i, j, e1, _, h⟩ := ints2A_of h r hs; ⟨i, j, e1, q.int r h⟩) (by decide +kernel) ha hm hg (by decide) (by decide) he hpl
def fInt : DRA := arg1 fun d _ μ Q => match d with
  | .int i => Q (.dat (.int i)) μ
  | .bool b => Q (.dat (.int (if b then 1 else 0))) μ
  | .str a => ∃ n, PySem.intText? a = some n ∧ a.length ≤ 640 ∧ Q (.dat (.int n)) μ
  | _ => False
theorem pd_intc {a : DA} (ha : PDA X (e :: es) a) (hm : X.mg "int" = none) (hg : Gl X "int" := by rfl)
    (he : starEach (e :: es) X.env = (false, eval e X.env) :: starEach es X.env := by rfl) (hpl : (backTo pos (starEach es X.env)).any (·.1) = false := by rfl) : PD X (.Call (.Name "int" p) (e :: es) [] pos) (dCB fInt a) := by
  refine pd_ct (call_int1.or call_int_str) (fun xs μ Q' h W H vs r hs Q q => ?_) (by decide +kernel) ha hm hg (by decide) (by decide) he hpl
  obtain ⟨x, d, rfl, e1, h⟩ := arg1_of h
  obtain ⟨v, rfl, hx⟩ := slAll1 hs
  cases d with
  | int i =>
    cases rd_int r hx e1
    exact .inl (.inl ⟨i, rfl, q.int r h⟩)
  | bool b =>
    cases rd_bool r hx e1
    exact .inl (.inr ⟨b, rfl, q.int r h⟩)
  | str z =>
    cases rd_str r hx e1
    obtain ⟨n, h1, h2, h3⟩ := h
    exact .inr ⟨z, n, rfl, h1, h2, q.int r h3⟩
  | _ => exact False.elim h
def CDm (_ j : Int) : Prop := 0 < j ∧ j.natAbs.log2 < 9000
def fDm : DRA := ints2A (fun i j => .tuple [.int (i / j), .int (i % j)]) CDm
theorem pd_dm {a : DA} (ha : PDA X (e :: es) a) (hm : X.mg "divmod" = none) (hg : Gl X "divmod" := by rfl)
    (he : starEach (e :: es) X.env = (false, eval e X.env) :: starEach es X.env := by rfl) (hpl : (backTo pos (starEach es X.env)).any (·.1) = false := by rfl) : PD X (.Call (.Name "divmod" p) (e :: es) [] pos) (dCB fDm a) := by
  refine pd_cb call_divmodW (fun xs μ Q' h W H vs r hs Q q => ?_) (by decide +kernel) ha hm hg (by decide) (by decide) he hpl
  obtain ⟨i, j, rfl, hc, h⟩ := ints2A_of h r hs
  exact ⟨i, j, rfl, ⟨hc.1, PyProof.noPylong_of_log2 hc.2⟩, q.newT (b := false) r (.cons (.int _) (.cons (.int _) .nil)) h⟩
def fGcd : DRA := ints2A (fun i j => .int ((Nat.gcd i.natAbs j.natAbs : Nat) : Int)) fun _ _ => True
theorem pd_gcd {a : DA} (ha : PDA X (e :: es) a) (hm : X.mg x = some (.builtin "math.gcd")) (hg : Gl X x := by rfl) (hdb : (x == ("__debug__" : Str)) = false := by decide)
    (he : starEach (e :: es) X.env = (false, eval e X.env) :: starEach es X.env := by rfl) (hpl : (backTo pos (starEach es X.env)).any (·.1) = false := by rfl) : PD X (.Call (.Name x p) (e :: es) [] pos) (dCB fGcd a) :=
  pd_cf cr_gcd (fun xs μ Q' h W H vs r hs Q q => let ⟨i, j, e1, _, h⟩ := ints2A_of h r hs; ⟨i, j, e1, q.int r h⟩) ha hm hg hdb he hpl
end
end DL
namespace DL
open PySem PySem.Spec PyProof.Rows L2 Evl
section
variable {X : Cx} {K : PySem.W.Frag} {e : Expr} {es : List Expr} {x : Str} {p pos : Pos}
def intsOf : List PyData → Option (List Int)
  | [] => some []
  | .int i :: r => (intsOf r).map (i :: ·)
  | _ :: _ => none
def boolsOf : List PyData → Option (List Bool)
  | [] => some []
  | .bool i :: r => (boolsOf r).map (i :: ·)
  | _ :: _ => none
def fSum : DRA := arg1 fun d _ μ Q => match d with
  | .list ds => match intsOf ds with
    | some is => Q (.dat (.int is.sum)) μ
    | none => False
  | _ => False
def fBools (f : List Bool → Bool) : DRA := arg1 fun d _ μ Q => match d with
  | .list ds => match boolsOf ds with
    | some is => Q (.dat (.bool (f is))) μ
    | none => False
  | _ => False
def fAll : DRA := fBools fun bs => bs.all id
def fTuple : DRA := arg1 fun d x μ Q => match d with
  | .list ds => Q (mk (isV x) (.tuple ds)) μ
  | .tuple ds => Q (mk (isV x) (.tuple ds)) μ
  | _ => False
def fList : DRA := arg1 fun d x μ Q => match d with
  | .list ds => Q (mk (isV x) (.list ds)) μ
  | .tuple ds => Q (mk (isV x) (.list ds)) μ
  | _ => False
inductive Ty5 where
  | int | bool | str | tup | lst
def Ty5.nm : Ty5 → String
  | .int => "int"
  | .bool => "bool"
  | .str => "str"
  | .tup => "tuple"
  | .lst => "list"
def isTy : Ty5 → PyData → Bool
  | .int, .int _ => true
  | .int, .bool _ => true
  | .bool, .bool _ => true
  | .str, .str _ => true
  | .tup, .tuple _ => true
  | .lst, .list _ => true
  | _, _ => false
def tyN : PyData → String
  | .none => "NoneType"
  | .bool _ => "bool"
  | .int _ => "int"
  | .str _ => "str"
  | .list _ => "list"
  | .tuple _ => "tuple"
  | .dict _ => "dict"
theorem kit_of5 (T : Ty5) (d : PyData) : PySem.W.kitOne K (.type (tyN d)) (.type T.nm) = some (isTy T d) := by
  cases T <;> cases d <;> refine kit_ty ?_ <;> simp only [tyN, Ty5.nm, isTy] <;> decide +kernel
theorem tyX_of {H : Hp} {v : V} {d : PyData} (h : Dv K H v d) : TyX K H v (.type (tyN d)) := by
  cases h with
  | non => exact .base .non
  | bl b => exact .base (.bl b)
  | int i => exact .base (.int i)
  | str z => exact .base (.str z)
  | lst hs _ =>
    rcases hs with (hs | ⟨o, hs⟩) | ⟨o, its, n, hk, hc, _⟩
    · exact .base (.lst hs)
    · exact .base (.frz hs)
    · exact .kList hk hc
  | tup hs _ => exact .base (.tup hs)
  | emp hs => exact .base (.dK hs)
def fIsi (T : Ty5) : DR1 := fun x μ Q => match rd μ x with
  | some d => Q (.dat (.bool (isTy T d))) μ
  | none => False
theorem pd_isi (T : Ty5) {c : Str} {cp : Pos} {d : DE} (ha : PD X e d) (hm : X.mg "isinstance" = none) (hmc : X.mg c = none) (hv : bootBuiltins c = some (.type T.nm)) (hg : Gl X "isinstance" := by rfl) (hgc : Gl X c := by rfl)
    (hn : c ≠ "__name__" := by decide) (hdb : (c == ("__debug__" : Str)) = false := by decide)
    (he : starEach [e, .Name c cp] X.env = (false, eval e X.env) :: starEach [.Name c cp] X.env := by rfl) (he2 : starEach [.Name c cp] X.env = (false, eval (.Name c cp) X.env) :: starEach [] X.env := by rfl)
    (hpl : (backTo pos (starEach [.Name c cp] X.env)).any (·.1) = false := by rfl) : PD X (.Call (.Name "isinstance" p) [e, .Name c cp] [] pos) (dUn (fIsi T) d) := by
  obtain ⟨t, p1, l1⟩ := ha
  refine ⟨_, pe_callB call_isi hg hm (by decide +kernel) (pa_cons p1 (pa_cons (pe_bltn (v := .ty T.nm) hgc hmc hv rfl hn hdb) pa_nil he2) he) (by decide) (by decide) he hpl, fun ρ μ Q' h W σ H henv rp Q q =>
    l1 ρ μ _ h W σ H henv rp _ fun v s W1 H1 μ1 le1 r1 hs h1 => ?_⟩
  replace h1 : (match rd μ1 s with | some d => Q' (.dat (.bool (isTy T d))) μ1 | none => False) := h1
  cases ee : rd μ1 s with
  | none => rw [ee] at h1; exact h1.elim
  | some z =>
    rw [ee] at h1
    exact ⟨v, .ty T.nm, .type (tyN z), .type T.nm, isTy T z, rfl, .ty _, tyX_of (rd_dp r1 hs ee), kit_of5 T z, (q.le le1).bl r1 h1⟩
end
end DL
namespace DL
open PySem PySem.Spec PyProof.Rows L2 Evl
def dNext : DS := fun D ρ μ => D.nx ρ μ
def dSeq (a b : DS) : DS := fun D ρ μ => a { D with nx := b D } ρ μ
def dAsg (d : DE) (i : Nat) : DS := fun D ρ μ => d ρ μ fun s μ1 => D.nx (ρ.set i (some s)) μ1
def dRet (d : DE) : DS := fun D ρ μ => d ρ μ D.rt
def dRetN : DS := fun D _ μ => D.rt (.dat .none) μ
def dIfS (t : DT) (a b : DS) : DS := fun D ρ μ => t ρ μ fun c μ1 => if c = true then a D ρ μ1 else b D ρ μ1
def dDrop (d : DE) : DS := fun D ρ μ => d ρ μ fun _ μ1 => D.nx ρ μ1
def dNever : DS := fun _ _ _ => False
def dCont : DS := fun D ρ μ => D.ct ρ μ
def dBreak : DS := fun D ρ μ => D.bk ρ μ
def dAug (i : Nat) (r : DR2) (d : DE) : DS := fun D ρ μ => dVar i ρ μ fun x μ0 => d ρ μ0 fun y μ1 => r x y μ1 fun z μ2 => D.nx (ρ.set i (some z)) μ2
def dPar (i j : Nat) (a : DA) : DS := fun D ρ μ => a ρ μ fun ss μ1 => match ss with
  | [s, t] => D.nx ((ρ.set i (some s)).set j (some t)) μ1
  | _ => False
section
variable {K : PySem.W.Frag} {W : Wd}
theorem EndsOk.with_nx {D' : DEnds} {D : Ends} (h : EndsOk K W D' D) {nx' : Rho → Mu → Prop} {nx : L2.St → Hp → Prop} (hn : NOk K W nx' nx) : EndsOk K W { D' with nx := nx' } { D with nx := nx } := ⟨hn, h.rt, h.bk, h.ct⟩
end
section
variable {X : Cx} {K : PySem.W.Frag} {st : Stmt} {rest : List Stmt} {e : Expr} {pos : Pos} {d : DE} {t : DT} {a b : DS}
theorem pds_nil : PDSs X [] dNext := ⟨_, pss_nil, fun D' ρ μ h W σ H he r D hd => hd.nx σ ρ W H μ (Le.refl W) r he h⟩
theorem pds_cons (h1 : PDS X st a) (h2 : PDSs X rest b) : PDSs X (st :: rest) (dSeq a b) := by
  obtain ⟨t1, p1, l1⟩ := h1
  obtain ⟨t2, p2, l2⟩ := h2
  exact ⟨_, pss_cons p1 p2, fun D' ρ μ h W σ H he r D hd => l1 _ ρ μ h W σ H he r _ (hd.with_nx fun σ1 ρ1 W1 H1 μ1 le1 r1 he1 q => l2 D' ρ1 μ1 q W1 σ1 H1 he1 r1 D (hd.le le1))⟩
theorem pds_one (h1 : PDS X st a) : PDSs X [st] a := by
  obtain ⟨t1, p1, l1⟩ := h1
  exact ⟨_, pss_one p1, l1⟩
theorem pd_never : PDS X st dNever := ⟨_, ps_never, fun D' ρ μ h W σ H he r D hd => h.elim⟩
theorem pd_ret (h : PD X e d) : PDS X (.Return (some e) pos) (dRet d) := by
  obtain ⟨t, p, l⟩ := h
  exact ⟨_, ps_ret p, fun D' ρ μ h W σ H he r D hd => l ρ μ _ h W σ H he r _ hd.rt⟩
theorem pd_expr (h : PD X e d) (hs : swapsWith e none pos.line X.env = pure false := by rfl) : PDS X (.Expr e pos) (dDrop d) := by
  obtain ⟨t, p, l⟩ := h
  exact ⟨_, ps_expr p hs, fun D' ρ μ h W σ H he r D hd => l ρ μ _ h W σ H he r _ fun v s W1 H1 μ1 le1 r1 hs q => hd.nx σ ρ W1 H1 μ1 le1 r1 (he.mono le1) q⟩
theorem pd_set {i : Nat} {x : Str} {pos' : Pos} (hN : X.N.Nodup) (h : PD X e d) (hi : X.N[i]? = some x := by rfl) (hx : Loc X.env.scope x := by exact Or.inl rfl) (hs : swapsWith e (some (.Name x pos')) pos.line X.env = pure false := by rfl)
    (hf : X.fn x = true ∨ X.env.scope.names.lookup x = some .local := by exact .inl rfl) : PDS X (.Assign [.Name x pos'] e pos) (dAsg d i) := by
  obtain ⟨t, p, l⟩ := h
  exact ⟨_, ps_set hN hi hx p hs hf, fun D' ρ μ h W σ H he r D hd => l ρ μ _ h W σ H he r _ fun v s W1 H1 μ1 le1 r1 hs q => hd.nx _ _ W1 H1 μ1 le1 r1 ((he.mono le1).set i hs) q⟩
theorem pd_if {c : Expr} {sa sb : List Stmt} (hc : PDT X c t) (ha : PDSs X sa a) (hb : PDSs X sb b) : PDS X (.If c sa sb pos) (dIfS t a b) := by
  obtain ⟨tc, p, l⟩ := hc
  obtain ⟨t1, p1, l1⟩ := ha
  obtain ⟨t2, p2, l2⟩ := hb
  refine ⟨_, ps_if p p1 p2, fun D' ρ μ h W σ H he r D hd => l ρ μ _ h W σ H he r _ fun k W1 H1 μ1 le1 r1 q => ?_⟩
  cases k with
  | true => exact l1 D' ρ μ1 q W1 σ H1 (he.mono le1) r1 D (hd.le le1)
  | false => exact l2 D' ρ μ1 q W1 σ H1 (he.mono le1) r1 D (hd.le le1)
theorem pd_par {i j : Nat} {x y : Str} {e1 e2 : Expr} {ar : DA} {px py pt : Pos} {kt k2 pt2} (hc : X.calm = true) (hN : X.N.Nodup) (ha : PDA X [e1, e2] ar) (hi : X.N[i]? = some x := by rfl) (hj : X.N[j]? = some y := by rfl) (hij : i ≠ j := by decide)
    (hx : X.env.scope.names.lookup x = some .local := by rfl) (hy : X.env.scope.names.lookup y = some .local := by rfl)
    (hw : swappedStores [.Tuple [.Name x px, .Name y py] kt pt] (.Tuple [e1, e2] k2 pt2) X.env = pure (some [x, y]) := by rfl)
    (hs : swapsWithSole [.Tuple [.Name x px, .Name y py] kt pt] (.Tuple [e1, e2] k2 pt2) pos.line X.env = pure false := by rfl) :
    PDS X (.Assign [.Tuple [.Name x px, .Name y py] kt pt] (.Tuple [e1, e2] k2 pt2) pos) (dPar i j ar) := by
  obtain ⟨t, p, l⟩ := ha
  refine ⟨_, ps_par hc hN hi hj hij hx hy p hw hs, fun D' ρ μ h W σ H he r D hd => l ρ μ _ h W σ H he r _ fun vs ss W1 H1 μ1 le1 r1 hss q => ?_⟩
  match ss, hss, q with
  | [s, t], hss, q =>
    obtain ⟨v, u, rfl, h1, h2⟩ := slAll2 hss
    exact ⟨v, u, rfl, hd.nx _ _ W1 H1 μ1 le1 r1 (((he.mono le1).set i h1).set j h2) q⟩
theorem pd_aug {i : Nat} {x : Str} {op : Operator} {pos' : Pos} {r : R2} {dr : DR2} (ho : OpR X (inplaceOp op) r) (hr : LR2 X.K r dr) (hN : X.N.Nodup) (h : PD X e d) (hi : X.N[i]? = some x := by rfl) (hx : Loc X.env.scope x := by exact Or.inl rfl)
    (hf : X.fn x = true ∨ X.env.scope.names.lookup x = some .local := by exact .inl rfl) : PDS X (.AugAssign (.Name x pos') op e pos) (dAug i dr d) := by
  obtain ⟨t, p, l⟩ := h
  refine ⟨_, ps_aug hN hi hx p ho hf, fun D' ρ μ h W σ H he rp D hd => ?_⟩
  replace h : dVar i ρ μ _ := h
  unfold dVar at h
  cases e1 : ρ[i]? with
  | none => rw [e1] at h; exact h.elim
  | some o =>
    rw [e1] at h
    cases o with
    | none => exact h.elim
    | some s =>
      obtain ⟨v, h1, h2⟩ := he.get i s e1
      exact ⟨v, h1, l ρ μ _ h W σ H he rp _ fun u y W1 H1 μ1 le1 r1 hy q => hr s y μ1 _ q W1 H1 v u r1 (h2.mono le1) hy _ fun w z W2 H2 μ2 le2 r2 hz q2 =>
        hd.nx _ _ W2 H2 μ2 (le1.trans le2) r2 ((he.mono (le1.trans le2)).set i hz) q2⟩
theorem iop_addV : OpR X (inplaceOp .Add) (fun x y H Q => rI0 (fun i j => .int (i + j)) x y H Q ∨ ∃ i j, x = .str i ∧ y = .str j ∧ i.length + j.length ≤ sizeLine ∧ Q (.str (i ++ j)) H) := iop_add.or iop_add_str
def rIadd : DR2 := fun x y μ Q => match rd μ x, rd μ y with
  | some (.int i), some (.int j) => Q (.dat (.int (i + j))) μ
  | some (.str i), some (.str j) => i.length + j.length ≤ sizeLine ∧ Q (.dat (.str (i ++ j))) μ
  | _, _ => False
theorem lr_iadd : LR2 K (fun x y H Q => rI0 (fun i j => .int (i + j)) x y H Q ∨ ∃ i j, x = .str i ∧ y = .str j ∧ i.length + j.length ≤ sizeLine ∧ Q (.str (i ++ j)) H) rIadd := fun x y μ Q' h W H vx vy r hx hy Q q => by
  unfold rIadd at h
  split at h
  · rename_i i j e1 e2
    cases rd_int r hx e1
    cases rd_int r hy e2
    exact .inl ⟨i, j, rfl, rfl, q.int r h⟩
  · rename_i i j e1 e2
    cases rd_str r hx e1
    cases rd_str r hy e2
    exact .inr ⟨i, j, rfl, rfl, h.1, q.str r h.2⟩
  · exact h.elim
theorem pd_augAdd {i : Nat} {x : Str} {pos' : Pos} (hN : X.N.Nodup) (h : PD X e d) (hi : X.N[i]? = some x := by rfl) (hx : Loc X.env.scope x := by exact Or.inl rfl)
    (hf : X.fn x = true ∨ X.env.scope.names.lookup x = some .local := by exact .inl rfl) : PDS X (.AugAssign (.Name x pos') .Add e pos) (dAug i rIadd d) := pd_aug iop_addV lr_iadd hN h hi hx hf
end
abbrev DG := Sl → Rho → Mu → (Rho → Mu → Prop) → Prop
abbrev DGs := List Sl → Rho → Mu → (Rho → Mu → Prop) → Prop
def LG (K : PySem.W.Frag) (g : TG) (d : DG) : Prop := ∀ s ρ μ Q', d s ρ μ Q' → ∀ W σ H v, EnvOk K W σ ρ → Rep K W H μ → SlOk K W v s → ∀ Q, NOk K W Q' Q → g v σ H Q
def LGs (K : PySem.W.Frag) (g : TGs) (d : DGs) : Prop := ∀ ss ρ μ Q', d ss ρ μ Q' → ∀ W σ H vs, EnvOk K W σ ρ → Rep K W H μ → SlAll K W vs ss → ∀ Q, NOk K W Q' Q → g vs σ H Q
structure PDG (X : Cx) (t : Expr) (d : DG) : Prop where
  ex : ∃ g, PG X t g ∧ LG X.K g d
structure PDGs (X : Cx) (ts : List Expr) (d : DGs) : Prop where
  ex : ∃ g, PGs X ts g ∧ LGs X.K g d
def gN (i : Nat) : DG := fun s ρ μ Q => Q (ρ.set i (some s)) μ
def gsNil : DGs := fun ss ρ μ Q => match ss with
  | [] => Q ρ μ
  | _ => False
def gsCons (g : DG) (gs : DGs) : DGs := fun ss ρ μ Q => match ss with
  | s :: r => g s ρ μ fun ρ1 μ1 => gs r ρ1 μ1 Q
  | [] => False
def gT (n : Nat) (gs : DGs) : DG := fun s ρ μ Q => match rd μ s with
  | some (.tuple ds) => ds.length = n ∧ gs (ds.map (elt s)) ρ μ Q
  | _ => False
def wrL (o i v : Sl) (μ : Mu) (Q : Mu → Prop) : Prop := match o, i, v with
  | .cell k, .dat (.int j), .dat d => match μ[k]? with
    | some (.lst ds) => ∃ m, ixN ds.length j = some m ∧ Q (μ.set k (.lst (ds.set m d)))
    | _ => False
  | _, _, _ => False
def gS (o i : DE) : DG := fun s ρ μ Q => o ρ μ fun x μ1 => i ρ μ1 fun y μ2 => wrL x y s μ2 fun μ3 => Q ρ μ3
def dAsgG (d : DE) (g : DG) : DS := fun D ρ μ => d ρ μ fun s μ1 => g s ρ μ1 D.nx
section
variable {X : Cx} {K : PySem.W.Frag} {pos : Pos} {e : Expr} {es : List Expr} {d : DE}
theorem its_sl {W : Wd} {s : Sl} : ∀ {xs : List V} {ds : List PyData}, DvAll K (bh W (isV s)) xs ds → SlAll K W xs (ds.map (elt s))
  | _, _, .nil => .nil
  | _, _, .cons a t => .cons (slOk_mk a) (its_sl t)
theorem pdg_name {i : Nat} {x : Str} (hN : X.N.Nodup) (hi : X.N[i]? = some x := by rfl) (hx : Loc X.env.scope x := by exact Or.inl rfl) (hf : X.fn x = true ∨ X.env.scope.names.lookup x = some .local := by first | exact .inl rfl | exact .inr rfl) : PDG X (.Name x pos) (gN i) :=
  ⟨_, pg_name hN hi hx hf, fun s ρ μ Q' h W σ H v he r hs Q q => q _ _ W H μ (Le.refl W) r (he.set i hs) h⟩
theorem pdgs_nil : PDGs X [] gsNil := ⟨_, pgs_nil, fun ss ρ μ Q' h W σ H vs he r hs Q q => by
  cases ss with
  | nil => cases hs; exact ⟨rfl, q _ _ W H μ (Le.refl W) r he h⟩
  | cons s r => exact False.elim h⟩
theorem pdgs_cons {g : DG} {gs : DGs} (h1 : PDG X e g) (h2 : PDGs X es gs) (hs : (assignEach (e :: es) X.env).map (·.2) = assign e X.env :: (assignEach es X.env).map (·.2) := by rfl) : PDGs X (e :: es) (gsCons g gs) := by
  obtain ⟨t1, p1, l1⟩ := h1
  obtain ⟨t2, p2, l2⟩ := h2
  refine ⟨_, pgs_cons p1 p2 hs, fun ss ρ μ Q' h W σ H vs he r hss Q q => ?_⟩
  cases hss with
  | nil => exact False.elim h
  | cons a t =>
    exact ⟨_, _, rfl, l1 _ ρ μ _ h W σ H _ he r a _ fun σ1 ρ1 W1 H1 μ1 le1 r1 he1 h1 => l2 _ ρ1 μ1 Q' h1 W1 σ1 H1 _ he1 r1 (SlAll.mono le1 t) Q (q.le le1)⟩
theorem pdg_tup {k n : Nat} {gs : DGs} (hc : X.calm = true) (h : PDGs X es gs) (hn : (assignEach es X.env).length = n := by rfl) (hst : (assignEach es X.env).findIdx? (·.1) = none := by rfl) : PDG X (.Tuple es k pos) (gT n gs) := by
  obtain ⟨t1, p1, l1⟩ := h
  refine ⟨_, pg_tup hc p1 hn hst, fun s ρ μ Q' h W σ H v he r hs Q q => ?_⟩
  unfold gT at h
  split at h
  · rename_i ds e1
    obtain ⟨a, xs, rfl, hx, hi⟩ := rd_tup r hs e1
    exact ⟨a, xs, rfl, hx, by rw [hi.length]; exact h.1, l1 _ ρ μ Q' h.2 W σ H xs he r (its_sl hi) Q q⟩
  · exact h.elim
theorem pdg_sub {o i : Expr} {od id : DE} (ho : PD X o od) (hi : PD X i id) (ha : ∀ v, assign (.Subscript o i pos) X.env v = (do
      let ov ← holding [v] (eval o X.env)
      let iv ← holding [v, ov] (eval i X.env)
      standAt pos
      holding [v, ov, iv] (setItem ov iv v)
      release [v, ov, iv] []) := by intro _; rfl) : PDG X (.Subscript o i pos) (gS od id) := by
  obtain ⟨t1, p1, l1⟩ := ho
  obtain ⟨t2, p2, l2⟩ := hi
  refine ⟨_, pg_sub p1 p2 set_list ha, fun s ρ μ Q' h W σ H v he r hs Q q => l1 ρ μ _ h W σ H he r _ fun ov o1 W1 H1 μ1 le1 r1 h1 q1 => l2 ρ μ1 _ q1 W1 σ H1 (he.mono le1) r1 _ fun iv i1 W2 H2 μ2 le2 r2 h2 q2 => ?_⟩
  replace q2 : wrL o1 i1 s μ2 (fun μ3 => Q' ρ μ3) := q2
  unfold wrL at q2
  split at q2
  · rename_i k j dd
    split at q2
    · rename_i ds e1
      obtain ⟨m, hm, hq⟩ := q2
      obtain ⟨a, ha, rfl⟩ := h1.mono le2
      obtain ⟨_, ob, hob, hc⟩ := r2.cell k a _ ha e1
      cases ob <;> first | exact False.elim hc | skip
      rename_i xs
      replace hc : DvAll X.K W2.G xs ds := hc
      cases (show Dv X.K W2.G iv (.int j) from h2)
      have hv : Dv X.K W2.G v dd := (hs.mono (le1.trans le2))
      refine ⟨a, xs, j, m, rfl, rfl, hob, by rw [hc.length]; exact hm, ?_⟩
      exact q _ _ W2 _ _ (le1.trans le2) (r2.write ha (show CellOk X.K W2.G (.lst (xs.set m v)) (.lst (ds.set m dd)) from hc.set m hv)) (he.mono (le1.trans le2)) hq
    · exact q2.elim
  · exact q2.elim
theorem pd_asgG {tg : Expr} {g : DG} (he : PD X e d) (hg : PDG X tg g) (hs : swapsWithSole [tg] e pos.line X.env = pure false := by rfl) (hw : swappedStores [tg] e X.env = pure none := by rfl)
    (h1 : (assignEach [tg] X.env).map (·.2) = [assign tg X.env] := by rfl) : PDS X (.Assign [tg] e pos) (dAsgG d g) := by
  obtain ⟨t1, p1, l1⟩ := he
  obtain ⟨t2, p2, l2⟩ := hg
  exact ⟨_, ps_asg p1 p2 hs hw h1, fun D' ρ μ h W σ H he r D hd => l1 ρ μ _ h W σ H he r _ fun v s W1 H1 μ1 le1 r1 hs q => l2 s ρ μ1 _ q W1 σ H1 v (he.mono le1) r1 hs _ (hd.nx.le le1)⟩
end
end DL
namespace DL
open PySem PySem.Spec PyProof.Rows L2 Evl
def whileD (c : DT) (b : DS) (D : DEnds) : Nat → Rho → Mu → Prop
  | 0, _, _ => False
  | n + 1, ρ, μ => c ρ μ fun t μ1 => if t = true then b { D with nx := whileD c b D n, ct := whileD c b D n, bk := D.nx } ρ μ1 else D.nx ρ μ1
def dWhile (c : DT) (b : DS) : DS := fun D ρ μ => ∃ n, whileD c b D n ρ μ
section
variable {X : Cx} {K : PySem.W.Frag} {pos : Pos}
theorem ls_while {tc : TT} {tb : TS} {c : DT} {b : DS} (hc : LT K tc c) (hb : LS K tb b) : LS K (tWhile tc tb) (dWhile c b) := fun D' ρ μ h W σ H he r D hd => by
  obtain ⟨n, h⟩ := h
  refine ⟨fun m σ' H' => ∃ ρ' μ' W', Le W W' ∧ EnvOk K W' σ' ρ' ∧ Rep K W' H' μ' ∧ whileD c b D' m ρ' μ', ⟨n, ρ, μ, W, Le.refl W, he, r, h⟩, fun m σ' H' hW => ?_⟩
  obtain ⟨ρ', μ', W', le, he', r', h'⟩ := hW
  cases m with
  | zero => exact h'.elim
  | succ m =>
    refine hc ρ' μ' _ h' W' σ' H' he' r' _ fun k W1 H1 μ1 le1 r1 q => ?_
    cases k with
    | true =>
      refine ⟨fun σ2 H2 => ∃ ρ2 μ2 W2, Le W W2 ∧ EnvOk K W2 σ2 ρ2 ∧ Rep K W2 H2 μ2 ∧ whileD c b D' m ρ2 μ2, fun σ2 H2 h2 => ⟨m, Nat.lt_succ_self m, h2⟩, ?_⟩
      have turn : NOk K W1 (whileD c b D' m) (fun σ2 H2 => ∃ ρ2 μ2 W2, Le W W2 ∧ EnvOk K W2 σ2 ρ2 ∧ Rep K W2 H2 μ2 ∧ whileD c b D' m ρ2 μ2) := fun σ2 ρ2 W2 H2 μ2 le2 r2 he2 q2 => ⟨ρ2, μ2, W2, (le.trans le1).trans le2, he2, r2, q2⟩
      have hd1 := hd.le (le.trans le1)
      exact hb _ ρ' μ1 q W1 σ' H1 (he'.mono le1) r1 _ ⟨turn, hd1.rt, hd1.nx, turn⟩
    | false => exact hd.nx σ' ρ' W1 H1 μ1 (le.trans le1) r1 (he'.mono le1) q
theorem pd_while {c : Expr} {body : List Stmt} {dc : DT} {b : DS} (hp : PassesOwn (model X.prog X.w) X.A X.env X.xe) (hc : PDT X c dc) (hb : PDSs X body b) : PDS X (.While c body [] pos) (dWhile dc b) := by
  obtain ⟨t1, p1, l1⟩ := hc
  obtain ⟨t2, p2, l2⟩ := hb
  exact ⟨_, ps_while hp p1 p2, ls_while l1 l2⟩
end
def ItOk (K : PySem.W.Frag) (W : Wd) (J : It) (ss : List Sl) (C : Mu → Prop) : Prop :=
  ∀ W2 H2 μ2, Le W W2 → Rep K W2 H2 μ2 → C μ2 → ∀ i : Nat,
    (ss.length ≤ i → J.stop i H2) ∧ (∀ s, ss[i]? = some s → J.go i H2 ∧ ∀ x H', J.yld i H2 x H' → ∃ W3, Le W2 W3 ∧ Rep K W3 H' μ2 ∧ SlOk K W3 x s)
theorem ItOk.le {K : PySem.W.Frag} {W W' : Wd} (l : Le W W') {J : It} {ss : List Sl} {C : Mu → Prop} (h : ItOk K W J ss C) : ItOk K W' J ss C := fun W2 H2 μ2 l2 => h W2 H2 μ2 (l.trans l2)
abbrev DI := Rho → Mu → (List Sl → (Mu → Prop) → Mu → Prop) → Prop
def LI (K : PySem.W.Frag) (t : TI) (d : DI) : Prop := ∀ ρ μ R', d ρ μ R' → ∀ W σ H, EnvOk K W σ ρ → Rep K W H μ → ∀ R : It → Hp → Prop,
  (∀ J ss C W' H' μ', Le W W' → Rep K W' H' μ' → ItOk K W' J ss C → R' ss C μ' → R J H') → t σ H R
structure PDI (X : Cx) (tg iter : Expr) (d : DI) : Prop where
  ex : ∃ t, PI X tg iter t ∧ LI X.K t d
def iSeq (d : DE) : DI := fun ρ μ R => d ρ μ fun x μ1 => match rd μ1 x with
  | some (.list ds) => R (ds.map (elt x)) (fun ν => rd ν x = some (.list ds)) μ1
  | some (.tuple ds) => R (ds.map (elt x)) (fun _ => True) μ1
  | _ => False
section
variable {X : Cx} {K : PySem.W.Frag} {tg l : Expr} {d : DE} {p pos : Pos}
theorem rd_tup_keep {W W' : Wd} {v : V} {μ μ' : Mu} {s : Sl} {ds : List PyData} (h : SlOk K W v s) (e : rd μ s = some (.tuple ds)) : rd μ' s = some (.tuple ds) := by
  cases s with
  | dat d' => exact e
  | vw d' => exact e
  | raw w => exact e
  | rtup w => exact e
  | cell k =>
    replace e : rdC μ[k]? = _ := e
    cases qq : μ[k]? with
    | none => rw [qq] at e; cases e
    | some c => rw [qq] at e; cases c <;> cases e
def iAny (K : PySem.W.Frag) (tl : TE) : TI := fun σ H R => tl σ H fun x H1 => ∃ a, x = .ref a ∧ (((∃ xs, SqL K H1 a xs) ∧ R (Itl K a) H1) ∨ ((∃ xs, SqT K H1 a xs) ∧ R (Itt K a) H1))
theorem pi_any {tl : TE} (hl : PE X l tl) : PI X tg l (iAny X.K tl) := by
  refine ⟨fun pins s σ H R I h => ?_⟩
  refine thn (hl.run pins s σ H _ I h) fun v s1 ⟨x, H1, I1, r1, q1⟩ => ?_
  obtain ⟨a, e, q1⟩ := q1
  subst e
  cases r1
  have old : s1.heap.objs.size ≤ s1.heap.objs.size := Nat.le_refl _
  rcases q1 with ⟨⟨xs, hq⟩, q⟩ | ⟨⟨xs, hq⟩, q⟩
  · obtain ⟨its, rv, p, hz⟩ := I1.list hq
    refine wpAny_pyIter_list p.isList ⟨s1.heap.objs.size, [s1.heap.objs.size], _, _, H1, rfl, I1.kept (t' := s1.toks) fun b o e => Heap.get?_push_of_some _ e, turn_list a _, ⟨_, Heap.get?_push_size _ rfl, rfl, rfl⟩, fun b hb => ?_, q⟩
    cases List.mem_singleton.mp hb
    exact I1.fpOk old (I1.hok.fresh old)
  · obtain ⟨its, rv, p, hz⟩ := I1.tuple hq
    refine wpAny_pyIter_tuple (show s1.heap.IsTuple a its.toArray from p) ⟨s1.heap.objs.size, [s1.heap.objs.size], _, _, H1, rfl, I1.kept (t' := s1.toks) fun b o e => Heap.get?_push_of_some _ e, turn_tuple a _, ⟨_, Heap.get?_push_size _ rfl, rfl, rfl⟩, fun b hb => ?_, q⟩
    cases List.mem_singleton.mp hb
    exact I1.fpOk old (I1.hok.fresh old)
theorem li_any {tl : TE} (h : LE K tl d) : LI K (iAny K tl) (iSeq d) := fun ρ μ R' hd W σ H he r R q => h ρ μ _ hd W σ H he r _ fun v x W1 H1 μ1 le1 r1 hs h1 => by
  replace h1 : (match rd μ1 x with | some (.list ds) => R' (ds.map (elt x)) (fun ν => rd ν x = some (.list ds)) μ1 | some (.tuple ds) => R' (ds.map (elt x)) (fun _ => True) μ1 | _ => False) := h1
  split at h1
  · rename_i ds e1
    obtain ⟨a, xs, rfl, hl, hi⟩ := rd_lst r1 hs e1
    refine ⟨a, rfl, .inl ⟨⟨xs, hl⟩, q _ _ _ W1 H1 μ1 le1 r1 (fun W2 H2 μ2 le2 r2 hC i => ?_) h1⟩⟩
    obtain ⟨a', ys, ea, hl2, hi2⟩ := rd_lst r2 (hs.mono le2) hC
    cases ea
    refine ⟨fun hle => ⟨ys, hl2, by rw [hi2.length]; simpa using hle⟩, fun s es => ?_⟩
    rw [List.getElem?_map] at es
    cases ed : ds[i]? with
    | none => rw [ed] at es; cases es
    | some dd =>
      rw [ed] at es
      cases es
      obtain ⟨w, hw, hok⟩ := hi2.get ed
      refine ⟨⟨ys, w, hl2, hw⟩, fun y H' hy => ?_⟩
      obtain ⟨rfl, fy⟩ := hy
      have := (fy _ hl2).symm.trans hw
      cases this
      exact ⟨W2, Le.refl W2, r2, hok⟩
  · rename_i ds e1
    obtain ⟨a, xs, rfl, hl, hi⟩ := rd_tup r1 hs e1
    refine ⟨a, rfl, .inr ⟨⟨xs, hl⟩, q _ _ _ W1 H1 μ1 le1 r1 (fun W2 H2 μ2 le2 r2 hC i => ?_) h1⟩⟩
    obtain ⟨a', ys, ea, hl2, hi2⟩ := rd_tup r2 (hs.mono le2) (rd_tup_keep (W' := W2) (μ' := μ2) hs e1)
    cases ea
    refine ⟨fun hle => ⟨ys, hl2, by rw [hi2.length]; simpa using hle⟩, fun s es => ?_⟩
    rw [List.getElem?_map] at es
    cases ed : ds[i]? with
    | none => rw [ed] at es; cases es
    | some dd =>
      rw [ed] at es
      cases es
      obtain ⟨w, hw, hok⟩ := hi2.get ed
      refine ⟨⟨ys, w, hl2, hw⟩, fun y H' hy => ?_⟩
      obtain ⟨rfl, fy⟩ := hy
      have := (fy _ hl2).symm.trans hw
      cases this
      exact ⟨W2, Le.refl W2, r2, hok⟩
  · exact h1.elim
theorem pdi_seq (h : PD X l d) : PDI X tg l (iSeq d) := by
  obtain ⟨t, p, lh⟩ := h
  exact ⟨_, pi_any p, li_any lh⟩
def rgI (lo : Int) (n : Nat) : List Sl := (List.range n).map fun (i : Nat) => Sl.dat (.int (lo + (i : Int)))
def iRg1 (a : DA) : DI := fun ρ μ R => a ρ μ fun ss μ1 => match ss with
  | [.dat (.int j)] => (-(2 ^ 62) ≤ j ∧ j < 2 ^ 62) ∧ R (rgI 0 j.toNat) (fun _ => True) μ1
  | _ => False
theorem itOk_rg {W : Wd} (lo : Int) (n : Nat) : ItOk K W (Itr lo n) (rgI lo n) (fun _ => True) := fun W2 H2 μ2 le2 r2 _ i => by
  refine ⟨fun h => show n ≤ i by simpa [rgI] using h, fun s es => ?_⟩
  unfold rgI at es
  rw [List.getElem?_map] at es
  cases ed : (List.range n)[i]? with
  | none => rw [ed] at es; cases es
  | some j =>
    rw [ed] at es
    cases es
    obtain ⟨hl, e⟩ := List.getElem?_eq_some_iff.mp ed
    have hi : i < n := by simpa using hl
    have ej : j = i := by rw [List.getElem_range] at e; exact e.symm
    subst ej
    exact ⟨hi, fun x H' hy => by obtain ⟨rfl, rfl⟩ := hy; exact ⟨W2, Le.refl W2, r2, Dv.int _⟩⟩
theorem pdi_range1 {a : Expr} {da : DA} (ha : PDA X [a] da) (hm : X.mg "range" = none) (hg : Gl X "range" := by rfl) (hs : starEach [a] X.env = [(false, eval a X.env)] := by rfl) : PDI X tg (.Call (.Name "range" p) [a] [] pos) (iRg1 da) := by
  obtain ⟨t, p1, l1⟩ := ha
  refine ⟨_, pi_range1 hg hm p1 hs, fun ρ μ R' hd W σ H he r R q => l1 ρ μ _ hd W σ H he r _ fun vs ss W1 H1 μ1 le1 r1 hss h1 => ?_⟩
  match ss, hss, h1 with
  | [.dat (.int j)], hss, h1 =>
    obtain ⟨v, rfl, hv⟩ := slAll1 hss
    cases (show Dv X.K W1.G v (.int j) from hv)
    exact ⟨j, rfl, h1.1.1, h1.1.2, q _ _ _ W1 H1 μ1 le1 r1 (itOk_rg 0 j.toNat) h1.2⟩
end
def forD (C : Mu → Prop) (g : DG) (b : DS) (D : DEnds) : List Sl → Rho → Mu → Prop
  | [], ρ, μ => C μ ∧ D.nx ρ μ
  | s :: ss, ρ, μ => C μ ∧ g s ρ μ fun ρ1 μ1 => b { D with nx := forD C g b D ss, ct := forD C g b D ss, bk := D.nx } ρ1 μ1
def dFor (i : DI) (g : DG) (b : DS) : DS := fun D ρ μ => i ρ μ fun ss C μ1 => forD C g b D ss ρ μ1
section
variable {X : Cx} {K : PySem.W.Frag} {pos : Pos}
theorem ls_for {ti : TI} {tg : TG} {tb : TS} {i : DI} {g : DG} {b : DS} (hi : LI K ti i) (hg : LG K tg g) (hb : LS K tb b) : LS K (tFor ti tg tb) (dFor i g b) := fun D' ρ μ h W σ H he r D hd =>
  hi ρ μ _ h W σ H he r _ fun J ss C W0 H0 μ0 le0 r0 hJ h0 => by
    refine ⟨fun j m σ' H' => ∃ ρ' μ' W', Le W0 W' ∧ EnvOk K W' σ' ρ' ∧ Rep K W' H' μ' ∧ j + m = ss.length ∧ forD C g b D' (ss.drop j) ρ' μ', ⟨ss.length, ρ, μ0, W0, Le.refl W0, he.mono le0, r0, Nat.zero_add _, h0⟩, fun j m σ' H' hW => ?_⟩
    obtain ⟨ρ', μ', W', le, he', r', em, h'⟩ := hW
    cases hs : ss.drop j with
    | nil =>
      rw [hs] at h'
      have hl : ss.length ≤ j := by
        have := congrArg List.length hs
        rw [List.length_drop] at this
        simp at this
        omega
      exact .inl ⟨(hJ W' H' μ' le r' h'.1 j).1 hl, hd.nx σ' ρ' W' H' μ' (le0.trans le) r' he' h'.2⟩
    | cons s rest =>
      rw [hs] at h'
      have hl : j < ss.length := by
        have := congrArg List.length hs
        rw [List.length_drop] at this
        simp at this
        omega
      have hget : ss[j]? = some s := by
        have := congrArg (fun l => l[0]?) hs
        simpa [List.getElem?_drop] using this
      have hrest : ss.drop (j + 1) = rest := by
        rw [← List.drop_drop, hs]
        rfl
      obtain ⟨hgo, hy⟩ := (hJ W' H' μ' le r' h'.1 j).2 s hget
      refine .inr ⟨hgo, fun σ2 H2 => ∃ ρ2 μ2 W2, Le W0 W2 ∧ EnvOk K W2 σ2 ρ2 ∧ Rep K W2 H2 μ2 ∧ forD C g b D' rest ρ2 μ2, fun σ2 H2 h2 => ?_, fun x H1 hx => ?_⟩
      · obtain ⟨ρ2, μ2, W2, a1, a2, a3, a4⟩ := h2
        exact ⟨m - 1, by omega, ρ2, μ2, W2, a1, a2, a3, by omega, by rw [hrest]; exact a4⟩
      · obtain ⟨W3, le3, r3, hs3⟩ := hy x H1 hx
        refine hg s ρ' μ' _ h'.2 W3 σ' H1 x (he'.mono le3) r3 hs3 _ fun σ4 ρ4 W4 H4 μ4 le4 r4 he4 q4 => ?_
        have turn : NOk K W4 (forD C g b D' rest) (fun σ2 H2 => ∃ ρ2 μ2 W2, Le W0 W2 ∧ EnvOk K W2 σ2 ρ2 ∧ Rep K W2 H2 μ2 ∧ forD C g b D' rest ρ2 μ2) := fun σ2 ρ2 W2 H2 μ2 le2 r2 he2 q2 => ⟨ρ2, μ2, W2, ((le.trans le3).trans le4).trans le2, he2, r2, q2⟩
        have hd1 := hd.le (((le0.trans le).trans le3).trans le4)
        exact hb _ ρ4 μ4 q4 W4 σ4 H4 he4 r4 _ ⟨turn, hd1.rt, hd1.nx, turn⟩
theorem pd_for {tg iter : Expr} {body : List Stmt} {i : DI} {g : DG} {b : DS} (hp : PassesOwn (model X.prog X.w) X.A X.env X.xe) (hc : X.calm = true) (hi : PDI X tg iter i) (hg : PDG X tg g) (hb : PDSs X body b)
    (hs : ∀ x, foldedSetIterable iter X.env x = pure x := by intro _; rfl) : PDS X (.For tg iter body [] pos) (dFor i g b) := by
  obtain ⟨t1, p1, l1⟩ := hi
  obtain ⟨t2, p2, l2⟩ := hg
  obtain ⟨t3, p3, l3⟩ := hb
  exact ⟨_, ps_for hp hc p1 p2 p3 hs, ls_for l1 l2 l3⟩
end
end DL
namespace DL
open PySem PySem.Spec PyProof.Rows L2 Evl
section
variable {K : PySem.W.Frag} {W : Wd} {H : Hp} {μ : Mu}
def Wd.cut (W : Wd) (n : Nat) : Wd := ⟨W.G, W.F, W.ad.take n⟩
def Wd.frz (W : Wd) (a : Addr) (o : HO) (n : Nat) : Wd := ⟨upd W.G a o, upd W.F a o, W.ad.take n⟩
theorem take_some {α : Type} {l : List α} {n k : Nat} {x : α} (h : (l.take n)[k]? = some x) : l[k]? = some x ∧ k < n := by
  have hk : k < (l.take n).length := (List.getElem?_eq_some_iff.mp h).1
  rw [List.length_take] at hk
  have hn : k < n := by omega
  rw [List.getElem?_take_of_lt hn] at h
  exact ⟨h, hn⟩
theorem Rep.cut (r : Rep K W H μ) (n : Nat) : Rep K (W.cut n) H (μ.take n) :=
  ⟨r.gf, r.fh, by show (W.ad.take n).length = _; rw [List.length_take, List.length_take, r.len], fun i j a hi hj => r.nd i j a (take_some hi).1 (take_some hj).1, fun k a c ha hc => r.cell k a c (take_some ha).1 (take_some hc).1, fun k P q h => by
    obtain ⟨h1, h2⟩ := take_some h
    show (W.ad.take n)[k]? = some P
    rw [List.getElem?_take_of_lt h2]
    exact r.tab k P q h1⟩
theorem Le.cut {W0 : Wd} (l : Le W0 W) {n : Nat} (hn : W0.ad.length ≤ n) : Le W0 (W.cut n) := ⟨l.g, l.f, l.n, fun k x h => by
  have hk : k < W0.ad.length := (List.getElem?_eq_some_iff.mp h).1
  show (W.ad.take n)[k]? = some x
  rw [List.getElem?_take_of_lt (by omega)]
  exact l.a k x h⟩
theorem Rep.frz (r : Rep K W H μ) {k : Nat} {a : Addr} {xs : List V} (ha : W.ad[k]? = some a) (hH : H a = some (.lst xs)) (n : Nat) (hn : n ≤ k) : Rep K (W.frz a (.lst xs) n) H (μ.take n) := by
  have hk : k < μ.length := by rw [← r.len]; exact (List.getElem?_eq_some_iff.mp ha).1
  obtain ⟨q1, _, _, _⟩ := r.cell k a _ ha (List.getElem?_eq_getElem hk)
  refine ⟨ex_upd r.gf, fun b o e => ?_, by show (W.ad.take n).length = _; rw [List.length_take, List.length_take, r.len], fun i j a hi hj => r.nd i j a (take_some hi).1 (take_some hj).1, fun j b c hb hc => ?_, fun j P q h => by
    obtain ⟨h1, h2⟩ := take_some h
    show (W.ad.take n)[j]? = some P
    rw [List.getElem?_take_of_lt h2]
    exact r.tab j P q h1⟩
  · by_cases q : b = a
    · subst q
      rw [show (W.frz b (.lst xs) n).F = upd W.F b (.lst xs) from rfl, upd_same] at e
      cases e
      exact hH
    · rw [show (W.frz a (.lst xs) n).F = upd W.F a (.lst xs) from rfl, upd_ne q] at e
      exact r.fh b o e
  · obtain ⟨hb1, hjn⟩ := take_some hb
    obtain ⟨z1, o, z2, z3⟩ := r.cell j b c hb1 (take_some hc).1
    have ne : b ≠ a := fun z => by
      subst z
      have := r.nd j k b hb1 ha
      omega
    refine ⟨?_, o, z2, z3.mono (Ex.new (fresh_back r.gf q1))⟩
    show upd W.F a (.lst xs) b = none
    rw [upd_ne ne]
    exact z1
theorem Le.frz {W0 : Wd} (l : Le W0 W) (r : Rep K W H μ) {k : Nat} {a : Addr} {xs : List V} (ha : W.ad[k]? = some a) {n : Nat} (hn : W0.ad.length ≤ n) (hF : W0.F a = none) : Le W0 (W.frz a (.lst xs) n) := by
  have hk : k < μ.length := by rw [← r.len]; exact (List.getElem?_eq_some_iff.mp ha).1
  obtain ⟨q1, _, _, _⟩ := r.cell k a _ ha (List.getElem?_eq_getElem hk)
  refine ⟨l.g.trans (Ex.new (fresh_back r.gf q1)), l.f.trans (Ex.new q1), fun b h1 h2 h3 => ?_, fun j x h => ?_⟩
  · show upd W.G a (.lst xs) b = none
    rw [upd_ne (show b ≠ a from fun z => h1 (z ▸ hF))]
    exact l.n b h1 h2 h3
  · have hj : j < W0.ad.length := (List.getElem?_eq_some_iff.mp h).1
    show (W.ad.take n)[j]? = some x
    rw [List.getElem?_take_of_lt (by omega)]
    exact l.a j x h
theorem fNone {W0 : Wd} (l : Le W0 W) (r : Rep K W H μ) {k : Nat} {a : Addr} (ha : W.ad[k]? = some a) : W0.F a = none := by
  have hk : k < μ.length := by rw [← r.len]; exact (List.getElem?_eq_some_iff.mp ha).1
  obtain ⟨q1, _, _, _⟩ := r.cell k a _ ha (List.getElem?_eq_getElem hk)
  exact fresh_back l.f q1
def frzQ (k : Nat) (Q : DQ) (μ : Mu) : Prop := match μ[k]? with
  | some (.lst ds) => Q (.dat (.list ds)) (μ.take k)
  | _ => False
theorem frz_ok {W0 : Wd} (l : Le W0 W) (r : Rep K W H μ) {k n : Nat} {a : Addr} {ds : List PyData} (ha : W.ad[k]? = some a) (hc : μ[k]? = some (.lst ds)) (hn : W0.ad.length ≤ n) (hk : n ≤ k) {Q' : DQ} {Q : VK} (q : VOk K W0 Q' Q) (h : Q' (.dat (.list ds)) (μ.take n)) : Q (.ref a) H := by
  obtain ⟨_, o, ho, hd⟩ := r.cell k a _ ha hc
  cases o <;> first | exact False.elim hd | skip
  rename_i xs
  replace hd : DvAll K W.G xs ds := hd
  refine q _ (.dat (.list ds)) (W.frz a (.lst xs) n) H _ (l.frz r ha hn (fNone l r ha)) (r.frz ha ho n hk) ?_ h
  exact .lst (.inl (.inl upd_same)) (hd.mono (Ex.new (fresh_back r.gf (r.cell k a _ ha hc).1)))
end
def wipeD (ρ : Rho) : List Nat → Rho
  | [] => ρ
  | v :: vs => (wipeD ρ vs).set v none
def addTo (k : Nat) (v : Sl) (μ : Mu) (Q : Mu → Prop) : Prop := match v, μ[k]? with
  | .dat d, some (.lst ds) => ds.length < sizeLine ∧ Q (μ.set k (.lst (ds ++ [d])))
  | _, _ => False
def lcD (C : Mu → Prop) (g : DG) (t : DT) (e : DE) (k : Nat) (Q : Mu → Prop) (ρ : Rho) : List Sl → Mu → Prop
  | [], μ => C μ ∧ Q μ
  | s :: ss, μ => C μ ∧ g s ρ μ fun ρ1 μ1 => t ρ1 μ1 fun b μ2 => if b = true then e ρ1 μ2 fun v μ3 => addTo k v μ3 (lcD C g t e k Q ρ ss) else lcD C g t e k Q ρ ss μ2
def dLcQ (F : Nat → DQ → Mu → Prop) (i : DI) (g : DG) (t : DT) (e : DE) (vs : List Nat) : DE := fun ρ μ Q => i ρ μ fun ss C μ1 => lcD C g t e μ1.length (F μ1.length Q) (wipeD ρ vs) ss (μ1 ++ [.lst []])
def dLc : DI → DG → DT → DE → List Nat → DE := dLcQ frzQ
def dYes : DT := fun _ μ Q => Q true μ
def teOf (K : PySem.W.Frag) (d : DE) : TE := fun σ H Q => ∃ W ρ μ Q', EnvOk K W σ ρ ∧ Rep K W H μ ∧ d ρ μ Q' ∧ VOk K W Q' Q
def ttOf (K : PySem.W.Frag) (d : DT) : TT := fun σ H Q => ∃ W ρ μ Q', EnvOk K W σ ρ ∧ Rep K W H μ ∧ d ρ μ Q' ∧ BOk K W Q' Q
theorem PD.of {X : Cx} {e : Expr} {d : DE} (h : PD X e d) : PE X e (teOf X.K d) := by
  obtain ⟨t, p, l⟩ := h
  exact ⟨fun pins s σ H Q I ⟨W, ρ, μ, Q', he, r, hd, q⟩ => p.run pins s σ H Q I (l ρ μ Q' hd W σ H he r Q q)⟩
theorem PDT.of {X : Cx} {e : Expr} {d : DT} (h : PDT X e d) : PT X e (ttOf X.K d) := by
  obtain ⟨t, p, l⟩ := h
  exact ⟨fun pins s σ H Q I ⟨W, ρ, μ, Q', he, r, hd, q⟩ => p.run pins s σ H Q I (l ρ μ Q' hd W σ H he r Q q)⟩
def Keeps (g : TG) (vs : List Nat) : Prop := ∀ v σ H Q Q2 σ0, wipe σ vs = wipe σ0 vs → (∀ σ2 H2, wipe σ2 vs = wipe σ0 vs → Q σ2 H2 → Q2 σ2 H2) → g v σ H Q → g v σ H Q2
def KeepsS (g : TGs) (vs : List Nat) : Prop := ∀ v σ H Q Q2 σ0, wipe σ vs = wipe σ0 vs → (∀ σ2 H2, wipe σ2 vs = wipe σ0 vs → Q σ2 H2 → Q2 σ2 H2) → g v σ H Q → g v σ H Q2
section
variable {X : Cx} {K : PySem.W.Frag}
structure CTg (X : Cx) (scope : Scope) (t : Expr) (vs : List Nat) (d : DG) : Prop where
  ex : ∃ g, (∀ (s : Shared) (H : Hp) (C : Addr) (cl : List (Str × Addr)) (fp : List Addr), PG (X.blk s H scope (compEnvC scope cl C X.env) fp) t g) ∧ LG X.K g d ∧ Keeps g vs
structure CTgs (X : Cx) (scope : Scope) (ts : List Expr) (vs : List Nat) (d : DGs) : Prop where
  ex : ∃ g, (∀ (s : Shared) (H : Hp) (C : Addr) (cl : List (Str × Addr)) (fp : List Addr), PGs (X.blk s H scope (compEnvC scope cl C X.env) fp) ts g) ∧ LGs X.K g d ∧ KeepsS g vs
structure CTst (X : Cx) (scope : Scope) (ifs : List Expr) (d : DT) : Prop where
  ex : ∃ t, (∀ (s : Shared) (H : Hp) (C : Addr) (cl : List (Str × Addr)) (fp : List Addr), PTs (X.blk s H scope (compEnvC scope cl C X.env) fp) ifs t) ∧ LT X.K t d
variable {elt tg iter : Expr} {ifs : List Expr} {scope : Scope} {own : List (Str × Nat)} {pos : Pos} {i : DI} {g : DG} {t : DT} {e : DE}
end
end DL
namespace DL
open PySem PySem.Spec PyProof.Rows L2 Evl
def zipS (x y : Sl) : List PyData → List PyData → List Sl
  | d :: ds, e :: es => mk (isV x || isV y) (.tuple [d, e]) :: zipS x y ds es
  | _, _ => []
def iZp (a : DA) : DI := fun ρ μ R => a ρ μ fun ss μ1 => match ss with
  | [x, y] => match rd μ1 x, rd μ1 y with
    | some (.list ds), some (.list es) => R (zipS x y ds es) (fun ν => rd ν x = some (.list ds) ∧ rd ν y = some (.list es)) μ1
    | some (.tuple ds), some (.tuple es) => R (zipS x y ds es) (fun _ => True) μ1
    | _, _ => False
  | _ => False
section
variable {X : Cx} {K : PySem.W.Frag} {p pos : Pos}
abbrev DM := Sl → List Sl → Mu → DQ → Prop
def mApp : DM := fun o vs μ Q => match o, vs with
  | .cell k, [.dat d] => match μ[k]? with
    | some (.lst ds) => ds.length < sizeLine ∧ Q (.dat .none) (μ.set k (.lst (ds ++ [d])))
    | _ => False
  | _, _ => False
theorem tyV_cell {W : Wd} {H : Hp} {μ : Mu} {v : V} {k : Nat} {ds : List PyData} (r : Rep K W H μ) (h : SlOk K W v (.cell k)) (e : μ[k]? = some (.lst ds)) : ∃ a xs, v = .ref a ∧ W.ad[k]? = some a ∧ H a = some (.lst xs) ∧ DvAll K W.G xs ds := by
  obtain ⟨a, ha, rfl⟩ := h
  obtain ⟨_, o, ho, hc⟩ := r.cell k a _ ha e
  cases o <;> first | exact False.elim hc | skip
  exact ⟨a, _, rfl, ha, ho, hc⟩
def dMtL (m : DM) (o : DE) (a : DA) : DE := fun ρ μ Q => o ρ μ fun x μ1 => (∃ ds, rd μ1 x = some (.list ds)) ∧ a ρ μ1 fun ss μ2 => m x ss μ2 Q
theorem le_bm {r : V → List V → Hp → VK → Prop} {m : DM} {to : TE} {ta : TA} {o : DE} {a : DA} (ho : LE K to o) (ha : LA K ta a)
    (hr : ∀ x xs μ Q', m x xs μ Q' → ∀ W H v vs, Rep K W H μ → SlOk K W v x → SlAll K W vs xs → ∀ Q, VOk K W Q' Q → r v vs H Q) : LE K (tBM K "list" r to ta) (dMtL m o a) := fun ρ μ Q' h W σ H he rp Q q =>
  ho ρ μ _ h W σ H he rp _ fun v x W1 H1 μ1 le1 r1 hx h1 => by
    obtain ⟨⟨ds, hds⟩, h1⟩ := h1
    obtain ⟨p, xs, rfl, hl, _⟩ := rd_lst r1 hx hds
    exact ⟨.inl ⟨rfl, xs, hl⟩, ha ρ μ1 _ h1 W1 σ H1 (he.mono le1) r1 _ fun vs ss W2 H2 μ2 le2 r2 hss h2 => hr x ss μ2 Q' h2 W2 H2 _ vs r2 (hx.mono le2) hss Q (q.le (le1.trans le2))⟩
theorem pd_append {o e : Expr} {od : DE} {ed : DE} {apos cpos : Pos} (ho : PD X o od) (he : PD X e ed) (hs1 : starEach [e] X.env = (false, eval e X.env) :: starEach [] X.env := by rfl)
    (hbase : attributeBase o "append" X.env (eval o X.env) = eval o X.env := by rfl)
    (hfew : ((backTo cpos (starEach [e] X.env)).all (fun x => !x.1) && (backToKw cpos (keywordEach [] X.env)).all (fun x => x.1.isSome) && decide ([e].length + ([] : List Keyword).length + (if ([] : List Keyword).isEmpty then 0 else 1) < 30)) = true := by rfl)
    (hline : (apos.endLine == cpos.line) = true := by rfl) (hplain : (backTo cpos (starEach [] X.env)).any (·.1) = false := by rfl) : PD X (.Call (.Attribute o "append" apos) [e] [] cpos) (dMtL mApp od (aCons ed aNil)) := by
  obtain ⟨t1, p1, l1⟩ := ho
  obtain ⟨t2, p2, l2⟩ := he
  refine ⟨_, pe_bm PySem.F.plainAttrs_list PySem.F.slot_list_append PySem.F.type_list_append mt_append p1 (pa_cons p2 pa_nil hs1) hbase hfew hline hs1 hplain, le_bm l1 (la_cons l2 la_nil) fun x xs μ Q' h W H v vs r hx hss Q q => ?_⟩
  unfold mApp at h
  split at h
  · rename_i k d
    split at h
    · rename_i ds e1
      obtain ⟨a, ys, rfl, ha, hH, hd⟩ := tyV_cell r hx e1
      obtain ⟨u, rfl, hu⟩ := slAll1 hss
      refine ⟨a, ys, u, rfl, rfl, hH, by rw [hd.length]; exact h.1, ?_⟩
      exact q.dat (r.write ha (show CellOk X.K W.G (.lst (ys ++ [u])) (.lst (ds ++ [d])) from hd.app (.cons hu .nil))) .non h.2
    · exact h.elim
  · exact h.elim
end
end DL
namespace DL
open PySem PySem.Spec PyProof.Rows L2 Evl
structure RoomG (k : Nat) (A : Around) : Prop where
  r : Room k A
  g : A.guards = some []
theorem RoomG.mono {j k : Nat} {A : Around} (h : RoomG k A) (hj : j ≤ k) : RoomG j A := ⟨h.r.mono hj, h.g⟩
theorem RoomG.deeper {k : Nat} {A : Around} (h : RoomG (k + 1) A) (env : Env) : RoomG k (A.deeper env) := ⟨h.r.deeper env, h.g⟩
structure FnG (P : Program) (w : World) (K : PySem.W.Frag) (mg : Str → Option Value) (base : Heap) (CX : CXT) (k : Nat) (f : Addr) (fd : FuncData) (ps : List Str) (sp : Sp) : Prop where
  len : ∀ vs H Q E, sp vs H Q E → vs.length = ps.length
  run : ∀ (A : Around) (outer : List Env) (s : Shared) (H : Hp) (args : Args) (us : List Value) (vs : List V) (Q : VK) (E : XK), RoomG k A → Env0 P w K mg base A outer s H →
    BindsTo s fd args (ps.zip us) → Vals vs us → sp vs H Q E → codeAny (model P w) A (.call (.ref f) args) (CR CX outer P w H s Q E) s
section
variable {CX : CXT} {P : Program} {w : World} {K : PySem.W.Frag} {mg : Str → Option Value} {base : Heap} {k : Nat} {f : Addr} {ps : List Str} {sp : Sp}
theorem fnG_of {x qual : Str} {st : Stmt} {fd : FuncData} {N : List Str} (F : Fun K x qual st f fd) (S : FnScope N ps (defScope st)) (len : ∀ vs H Q E, sp vs H Q E → vs.length = ps.length)
    (body : ∀ (cdv : Value) (A : Around) (outer : List Env) (s : Shared) (H : Hp) (vs : List V) (Q : VK) (E : XK), RoomG k (A.deeper (envOfC qual (defScope st) s.heap.objs.size f cdv)) → sp vs H Q E →
      ∃ t, PSs (cxOf CX P w K mg base N qual (defScope st) f cdv A outer s H E) (defBody st) t ∧ t { nx := fun _ H' => Q .non H', rt := Q } (L2.start N vs) H) : FnG P w K mg base CX (k + 1) f fd ps sp := by
  obtain ⟨oc, od, kV, doc, pm, an, cdv, ct, osl, rfl, lk, hcd⟩ := F.ex
  refine ⟨len, fun A outer s H args us vs Q E room e0 bind rel hsp => ?_⟩
  have keep : ∀ b o, base.get? b = some o → s.heap.get? b = some o := fun b o e => (e0.bs b o e).1
  have par : ∀ y ∈ ps.zip us, (defScope st).names.lookup y.1 = some .local ∨ ((defScope st).names.lookup y.1 = some .cell ∧ ((cellsFrom (s.heap.objs.size + 1) (defScope st).names []).lookup y.1).isSome = true) := by
    rintro ⟨n, v⟩ hy
    cases S.par n (List.of_mem_zip hy).1 with
    | inl q => exact .inl q
    | inr q => exact .inr ⟨q, PySem.W.cellsFrom_some _ _ _ (.inl q)⟩
  refine codeAny_call_function room.r.depth (e0.mod.kin.keeps keep _ _ lk) rfl S.co S.gen rfl (PySem.W.codeRec_of (e0.mod.kin.keeps keep) hcd) (bind _ _ _ _ ?_)
  refine wpAny_newFunctionEnv_cells S.kind par fun env he s1 x => ?_
  subst he
  refine ⟨(e0.mod.nolimit.keeps keep).keeps x.toInCall.keep, codeAny_func ?_⟩
  obtain ⟨t, ht, hq⟩ := body cdv A outer s H vs Q E (room.deeper _) hsp
  have I := inv_start (CX := CX) (E := E) (f := f) (qual := qual) (cd := cdv) S room.r.hd e0 (len _ _ _ _ hsp) rel x
  refine wpAny_mono (ht.run [] s1 _ H _ I hq) (fun fl s' hs => ?_) (fun _ _ z => z)
  cases fl with
  | ret u =>
    obtain ⟨v, σ', H', J, rv, q⟩ := hs
    exact ⟨v, H', J.os, J.bare, J.base, J.hok, rv, q⟩
  | next =>
    obtain ⟨σ', H', J, q⟩ := hs
    exact ⟨.non, H', J.os, J.bare, J.base, J.hok, rfl, q⟩
  | brk => exact hs.elim fun _ z => z.elim fun _ z => False.elim z.2
  | cont => exact hs.elim fun _ z => z.elim fun _ z => False.elim z.2
end
section
variable {X : Cx} {CX : CXT} {k : Nat} {f : Addr} {fd : FuncData} {ps ks : List Str} {sp : Sp} {E : XK} {x : Str} {p pos : Pos} {e : Expr} {es : List Expr} {t : TA}
theorem runG {pins : List (Addr × Obj)} {σ : L2.St} {H : Hp} {s : Shared} {Q : VK} {args : Args} {us : List Value} {vs : List V} (F : FnG X.prog X.w X.K X.mg X.base CX k f fd ps sp) (hr : RoomG k X.A) (hx : Passes CX X E)
    (I : L2.Inv X pins σ H s) (r : Vals vs us) (hb : BindsTo s fd args (ps.zip us)) (h : sp vs H Q E) : wpAny (model X.prog X.w) X.A (call (.ref f) args.pos args.kw) (EP X pins σ Q) X.xe s := by
  refine wpAny_call (codeAny_mono (F.run X.A X.stack s H args us vs Q E hr I.env0 hb r h) fun r s' hq => ?_)
  cases r with
  | error e => exact hx pins σ H s e s' I hq
  | ok fl => cases fl <;> first | exact I.after hq | exact False.elim hq
theorem pe_callG (F : FnG X.prog X.w X.K X.mg X.base CX k f fd ps sp) (hr : RoomG k X.A) (hg : Gl X x) (hm : X.mg x = some (.ref f)) (hk : PySem.W.keepIn X.K (.ref f) = true) (hb : Binds X.K fd ps []) (hx : Passes CX X E)
    (ha : PA X (e :: es) t) (hdb : (x == ("__debug__" : Str)) = false) (he : starEach (e :: es) X.env = (false, eval e X.env) :: starEach es X.env) (hpl : (backTo pos (starEach es X.env)).any (·.1) = false) :
    PE X (.Call (.Name x p) (e :: es) [] pos) (fun σ H Q => t σ H fun vs H1 => sp vs H1 Q E) := by
  refine ⟨fun pins s σ H Q I h => wpAny_Call_Name_kw (ld_glob I hg hm ?_ hdb)⟩
  refine PySem.W.callWith_K (h₀ := X.base) I.ok.mod.kin hk (thn (ha.run pos pins s σ H _ I h) fun us s1 z => ?_) he hpl
  obtain ⟨vs, H1, I1, r, q⟩ := z
  have hl : us.length = ps.length := by rw [← r.length]; exact F.len _ _ _ _ q
  have b := hb s1 us I1.kIn (by rw [List.append_nil]; exact hl)
  rw [List.append_nil] at b
  exact ⟨I1.kIn, runG (args := ⟨us, []⟩) F hr hx I1 r b q⟩
variable {kws : List Keyword} {tk : TA} {g : List Value → List Value → List Value} {gV : List V → List V → List V}
theorem pe_callGK0 (F : FnG X.prog X.w X.K X.mg X.base CX k f fd ps sp) (hr : RoomG k X.A) (hg : Gl X x) (hm : X.mg x = some (.ref f)) (hk : PySem.W.keepIn X.K (.ref f) = true) (hb : KBinds X.K fd ps ks g gV) (hx : Passes CX X E)
    (hkw : PK X kws tk) (hall : (backToKw pos (keywordEach kws X.env)).all (·.1.isSome) = true) (hks : (backToKw pos (keywordEach kws X.env)).filterMap (·.1) = ks)
    (hdb : (x == ("__debug__" : Str)) = false) (hpl : ((backTo pos (starEach [] X.env)).any (·.1) || (backToKw pos (keywordEach kws X.env)).any (·.1.isNone)) = false) :
    PE X (.Call (.Name x p) [] kws pos) (fun σ H Q => tk σ H fun zs H2 => sp (gV [] zs) H2 Q E) := by
  refine ⟨fun pins s σ H Q I h => wpAny_Call_Name_kw (ld_glob I hg hm ?_ hdb)⟩
  refine PySem.W.callWith_KW0 (h₀ := X.base) I.ok.mod.kin hk hall (thn (hkw.run pos pins s σ H _ I h) fun ws s2 z => ?_) hpl
  obtain ⟨zs, H2, I2, rz, q2⟩ := z
  rw [hks]
  have r2 := hb.rel .nil rz
  exact ⟨I2.kIn, runG (args := ⟨[], ks.zip ws⟩) F hr hx I2 r2 (hb.to s2 [] ws I2.kIn (by rw [← r2.length]; exact F.len _ _ _ _ q2)) q2⟩
end
theorem law_runG {P : Program} {w : World} {K : PySem.W.Frag} {mg mb : Str → Option Value} {k : Nat} {fa a : Addr} {fd : FuncData} {x : Str} {sp : Sp} {s₁ : Shared} {vs : List Value} {ns : List Int}
    (KX : K.In s₁.heap) (hns : s₁.heap.Ns mainGlobals mg) (hb : s₁.heap.Ns builtinsNs mb) (hbb : ∀ x : Str, x ≠ "__name__" → mb x = bootBuiltins x) (hlim : s₁.heap.NoLimit) (hg : s₁.gens = #[])
    (ha : s₁.heap.get? a = some { cls := .type "list", data := .seq vs.toArray }) (hi : IntsAre vs ns) (hl : ns.length ≤ sizeLine) (hr : RoomG k callerA)
    (F : ∀ base : Heap, K.In base → base.Ns mainGlobals mg → FnG P w K mg base CX0 k fa fd [x] sp) (hbind : ∀ (s : Shared) (u : Value), BindsTo s fd ⟨[u], []⟩ [(x, u)])
    (hsp : ∀ H : Hp, Only H → SqL K H a (ns.map V.int) → sp [.ref a] H (fun v _ => v = .bl true) E0) :
    codeAny (model P w) callerA (.call (.ref fa) ⟨[.ref a], []⟩) (fun r s' => r = .ok (.ret (.bool true)) ∧ OldK s₁.heap s'.heap ∧ s'.os = s₁.os ∧ AllBare s'.gens) s₁ := by
  have lenV := hi.length
  suffices core : ∀ H : Hp, Only H → SqL K H a (ns.map V.int) → HOk P w H s₁.heap → (∀ b, H b ≠ none → b = a) → (H a ≠ none → K.lookup a = none) →
      codeAny (model P w) callerA (.call (.ref fa) ⟨[.ref a], []⟩) (fun r s' => r = .ok (.ret (.bool true)) ∧ OldK s₁.heap s'.heap ∧ s'.os = s₁.os ∧ AllBare s'.gens) s₁ by
    cases hk : K.lookup a with
    | some o =>
      have e := KX a o hk
      rw [ha] at e
      cases e
      exact core (fun _ => none) (fun _ => .inl rfl) (.inr ⟨_, vs.toArray, _, hk, rfl, rfl, rfl, by rw [List.size_toArray, lenV]; exact hl, by simpa using vals_ints hi⟩)
        (fun b u z => nomatch (show (none : Option HO) = some u from z)) (fun b z => (z rfl).elim) (fun z => (z rfl).elim)
    | none =>
      let Hs : Hp := fun b => if b = a then some (.frz { cls := .type "list", data := .seq vs.toArray } (.lst (ns.map V.int))) else none
      have at_ : Hs a = some (.frz { cls := .type "list", data := .seq vs.toArray } (.lst (ns.map V.int))) := if_pos rfl
      have off : ∀ b, b ≠ a → Hs b = none := fun b h => if_neg h
      refine core Hs (fun b => ?_) (.inl (.inr ⟨_, at_⟩)) (fun b u z => ?_) (fun b z => ?_) (fun _ => hk)
      · by_cases h : b = a
        · exact .inr ⟨_, _, h ▸ at_⟩
        · exact .inl (off b h)
      · by_cases h : b = a
        · subst h
          rw [at_] at z
          cases z
          exact ⟨ha, by rw [List.length_map]; exact hl, vs, _, vals_ints hi, ha⟩
        · rw [off b h] at z
          cases z
      · by_cases h : b = a
        · exact h
        · exact (z (off b h)).elim
  intro H hO hS hok only hK
  have only' : ∀ {b : Addr}, b ≠ a → H b = none := fun {b} h => by
    cases q : H b with
    | none => rfl
    | some u => exact (h (only b (by rw [q]; simp))).elim
  have dicts : ∀ {b : Addr} {o : Obj} {es : Array DictEntry} {ep : Nat}, s₁.heap.get? b = some o → o.data = .dict es ep → H b = none := fun {b o es ep} e d => only' fun h => by
    subst h
    rw [ha] at e
    cases e
    cases d
  have ns_ : ∀ {b : Addr} {m : Str → Option Value}, s₁.heap.Ns b m → (hidT s₁.heap H).Ns b m := fun {b m} ⟨o, es, ep, e, d, r⟩ => ⟨o, es, ep, hidT_get e (dicts e d), d, r⟩
  have inB : K.In (hidT s₁.heap H) := fun b o e => hidT_get (KX b o e) (by
    by_cases h : b = a
    · subst h
      cases q : H b with
      | none => rfl
      | some u =>
        have := hK (by rw [q]; simp)
        rw [this] at e
        cases e
    · exact only' h)
  have md : Mod K mg (hidT s₁.heap H) := ⟨inB, ns_ hns, ⟨mb, ns_ hb, hbb⟩, by obtain ⟨mc, h1, h2⟩ := hlim; exact ⟨mc, ns_ h1, h2⟩⟩
  have e0 : Env0 P w K mg (hidT s₁.heap H) callerA [] s₁ H := ⟨rfl, md, fun b o e => of_hidT e, Nat.le_of_eq (hidT_size _ _), trivial, fun b hb => absurd (show b ∈ ([] : List Addr) from hb) (by simp), hok, .of_eq hg⟩
  refine codeAny_mono ((F _ inB (ns_ hns)).run callerA [] s₁ H ⟨[.ref a], []⟩ [.ref a] [.ref a] _ _ hr e0 (hbind s₁ (.ref a)) (.cons rfl .nil) (hsp H hO hS)) fun r s' h => ?_
  cases r with
  | error e => exact False.elim h
  | ok fl =>
    cases fl with
    | ret u =>
      obtain ⟨v, H', os, bare, un, hok', r', q⟩ := h
      cases (show v = .bl true from q)
      cases (show u = Value.bool true from r')
      refine ⟨rfl, OldK.of_keep fun b o e => ?_, os, bare⟩
      cases q : H b with
      | none => exact un.keep b o e q (fun z => nomatch z) (fun z => nomatch z)
      | some u =>
        cases hO b with
        | inl z => rw [q] at z; cases z
        | inr z =>
          obtain ⟨ob, xs, z⟩ := z
          have z1 := (hok b _ z).1
          have z2 := (hok' b _ (un.frzs b ob _ z)).1
          rw [e] at z1
          cases z1
          exact z2
    | _ => exact False.elim h
theorem walkG {l : PySem.W.OpenLaw} {n k : Nat} {q : Program} {loose : List Str} {XP : (Str → Option Value) → Heap → Prop} {YP : World → Heap → Prop} {d : DefRec} {K : Params → PySem.W.Frag} {sp : PySem.W.Frag → Sp} {x : Str}
    (hn : l.most = some n) (hn2 : n ≤ sizeLine) (hdf : d.params.defaults = []) (hr : RoomG k callerA) (hY : ∀ (w : World) (h : Heap), YP w h → (K w.params).In h)
    (F : ∀ (w : World) (mg : Str → Option Value) (fa : Addr) (h : Heap), (K w.params).In h → h.Ns mainGlobals mg → mg d.name = some (.ref fa) →
      ∃ fd : FuncData, (∀ (s : Shared) (u : Value), BindsTo s fd ⟨[u], []⟩ [(x, u)]) ∧ ∀ base : Heap, (K w.params).In base → base.Ns mainGlobals mg → FnG l.prog w (K w.params) mg base CX0 k fa fd [x] (sp (K w.params)))
    (hsp : ∀ (K : PySem.W.Frag) (H : Hp) (a : Addr) (ns : List Int), ns.length ≤ n → SqL K H a (ns.map V.int) → sp K [.ref a] H (fun v _ => v = .bl true) E0) :
    PySem.W.WalkO q loose XP YP l.row.toRowW d [] (fun f vs => PySem.call f vs) := by
  refine Att.attach_call hn hdf fun w s₀ s₁ mg mb fa o pm cd doc a vs ns G Y ho hd hcd hmg hobj hints hlen hg => ?_
  obtain ⟨fd, hb, hF⟩ := F w mg fa _ (hY w _ Y) G.T.g hmg
  exact law_runG (hY w _ Y) G.T.g G.T.b G.T.builtins G.T.nolimit hg hobj hints (Nat.le_trans hlen hn2) hr hF hb fun H _ hS => hsp _ H a ns hlen hS
end DL
namespace DL
open PySem PySem.Spec PyProof.Rows L2 Evl
abbrev DF := List Sl → Mu → DQ → Prop
def SpD (K : PySem.W.Frag) (n : Nat) (φ : DF) : Sp := fun vs H Q _ => ∃ W ss μ Q', vs.length = n ∧ SlAll K W vs ss ∧ Rep K W H μ ∧ φ ss μ Q' ∧ VOk K W Q' Q
def finQ (n : Nat) (Q' : DQ) : DQ := fun s μ' => match s with
  | .cell k => if k < n then Q' (.cell k) (μ'.take n) else match μ'[k]? with
    | some (.lst ds) => Q' (.dat (.list ds)) (μ'.take n) ∨ Q' (.cell n) (μ'.take n ++ [.lst ds])
    | some (.dct ds) => Q' (.cell n) (μ'.take n ++ [.dct ds])
    | some (.dctT ds) => Q' (.cell n) (μ'.take n ++ [.dctT ds])
    | _ => False
  | .dat d => Q' (.dat d) (μ'.take n)
  | .vw d => Q' (.vw d) (μ'.take n)
  | .raw _ => False
  | .rtup _ => False
def startD (N : List Str) (ss : List Sl) : Rho := ss.map some ++ List.replicate (N.length - ss.length) none
section
variable {K : PySem.W.Frag}
theorem at_pull {α : Type} {l : List α} {a x : α} {n i : Nat} (hn : n ≤ l.length) (h : (l.take n ++ [a])[i]? = some x) : (i < n ∧ l[i]? = some x) ∨ (i = n ∧ x = a) := by
  have hl : (l.take n).length = n := by rw [List.length_take]; omega
  by_cases hi : i < n
  · rw [List.getElem?_append_left (by omega)] at h
    exact .inl ⟨hi, (take_some h).1⟩
  · rw [List.getElem?_append_right (by omega), hl] at h
    cases q : i - n with
    | zero =>
      rw [q] at h
      exact .inr ⟨by omega, (Option.some.inj h).symm⟩
    | succ j => rw [q] at h; simp at h
theorem pull_ok {W0 W : Wd} {H : Hp} {μ : Mu} (l : Le W0 W) (r : Rep K W H μ) {k : Nat} {a : Addr} {c : Cell} (ha : W.ad[k]? = some a) (hc : μ[k]? = some c) (hk : W0.ad.length ≤ k) {Q' : DQ} {Q : VK} (q : VOk K W0 Q' Q) (h : Q' (.cell W0.ad.length) (μ.take W0.ad.length ++ [c])) : Q (.ref a) H := by
  have h1 : k < W.ad.length := (List.getElem?_eq_some_iff.mp ha).1
  have h2 : k < μ.length := (List.getElem?_eq_some_iff.mp hc).1
  have l1 : (W.ad.take W0.ad.length).length = W0.ad.length := by rw [List.length_take]; omega
  refine q _ (.cell W0.ad.length) ⟨W.G, W.F, W.ad.take W0.ad.length ++ [a]⟩ H _ ⟨l.g, l.f, l.n, fun j x e => ?_⟩ ⟨r.gf, r.fh, ?_, fun i j b hi hj => ?_, fun i b d hi hd => ?_, fun j P q hj => by
    rcases at_pull (by omega) hj with ⟨q1, q2⟩ | ⟨q1, q2⟩
    · show (W.ad.take W0.ad.length ++ [a])[j]? = some P
      rw [List.getElem?_append_left (by omega), List.getElem?_take_of_lt q1]
      exact r.tab j P q q2
    · have z := r.tab k P q (by rw [hc, q2])
      rw [ha] at z
      cases z
      show (W.ad.take W0.ad.length ++ [a])[j]? = some a
      rw [List.getElem?_append_right (by omega), l1, q1, Nat.sub_self]
      rfl⟩ ⟨a, ?_, rfl⟩ h
  · have hj : j < W0.ad.length := (List.getElem?_eq_some_iff.mp e).1
    show (W.ad.take W0.ad.length ++ [a])[j]? = some x
    rw [List.getElem?_append_left (by omega), List.getElem?_take_of_lt hj]
    exact l.a j x e
  · show (W.ad.take W0.ad.length ++ [a]).length = _
    rw [List.length_append, List.length_append, List.length_take, List.length_take, r.len]
    rfl
  · rcases at_pull (by omega) hi with ⟨q1, q2⟩ | ⟨q1, q2⟩ <;> rcases at_pull (by omega) hj with ⟨q3, q4⟩ | ⟨q3, q4⟩
    · exact r.nd i j b q2 q4
    · subst q4
      have := r.nd i k b q2 ha
      omega
    · subst q2
      have := r.nd j k b q4 ha
      omega
    · omega
  · rcases at_pull (by omega) hi with ⟨q1, q2⟩ | ⟨q1, q2⟩ <;> rcases at_pull (by omega) hd with ⟨q3, q4⟩ | ⟨q3, q4⟩
    · exact r.cell i b d q2 q4
    · omega
    · omega
    · subst q2
      subst q4
      exact r.cell k b d ha hc
  · show (W.ad.take W0.ad.length ++ [a])[W0.ad.length]? = some a
    rw [List.getElem?_append_right (by omega), l1, Nat.sub_self]
    rfl
theorem finQ_ok {W : Wd} {Q' : DQ} {Q : VK} (q : VOk K W Q' Q) : VOk K W (finQ W.ad.length Q') Q := fun v s W1 H1 μ1 l r hs h => by
  have lc := l.cut (n := W.ad.length) (Nat.le_refl _)
  have rc := r.cut W.ad.length
  cases s with
  | dat d => exact q v (.dat d) _ H1 _ lc rc (show Dv K W1.G v d from hs) h
  | vw d => exact q v (.vw d) _ H1 _ lc rc (show Dv K W1.F v d from hs) h
  | raw w => exact False.elim h
  | rtup w => exact False.elim h
  | cell k =>
    replace h : (if k < W.ad.length then Q' (.cell k) (μ1.take W.ad.length) else match μ1[k]? with | some (.lst ds) => Q' (.dat (.list ds)) (μ1.take W.ad.length) ∨ Q' (.cell W.ad.length) (μ1.take W.ad.length ++ [.lst ds]) | some (.dct ds) => Q' (.cell W.ad.length) (μ1.take W.ad.length ++ [.dct ds]) | some (.dctT ds) => Q' (.cell W.ad.length) (μ1.take W.ad.length ++ [.dctT ds]) | _ => False) := h
    obtain ⟨a, ha, rfl⟩ := hs
    by_cases hk : k < W.ad.length
    · rw [if_pos hk] at h
      refine q _ (.cell k) _ H1 _ lc rc ⟨a, ?_, rfl⟩ h
      show (W1.ad.take W.ad.length)[k]? = some a
      rw [List.getElem?_take_of_lt hk]
      exact ha
    · rw [if_neg hk] at h
      split at h
      · rename_i ds e
        cases h with
        | inl h => exact frz_ok l r ha e (Nat.le_refl _) (Nat.not_lt.mp hk) q h
        | inr h => exact pull_ok l r ha e (Nat.not_lt.mp hk) q h
      · rename_i ds e
        exact pull_ok l r ha e (Nat.not_lt.mp hk) q h
      · rename_i ds e
        exact pull_ok l r ha e (Nat.not_lt.mp hk) q h
      · exact h.elim
theorem env_start {W : Wd} {N : List Str} {vs : List V} {ss : List Sl} (h : SlAll K W vs ss) : EnvOk K W (L2.start N vs) (startD N ss) := by
  have hl := h.length
  refine ⟨?_, fun i s e => ?_⟩
  · unfold L2.start startD
    simp only [List.length_append, List.length_map, List.length_replicate, hl]
  · unfold startD at e
    unfold L2.start
    by_cases hi : i < ss.length
    · rw [List.getElem?_append_left (by simpa using hi), List.getElem?_map] at e
      cases q : ss[i]? with
      | none => rw [q] at e; cases e
      | some t =>
        rw [q] at e
        cases e
        obtain ⟨v, hv, ok⟩ := h.get q
        refine ⟨v, ?_, ok⟩
        rw [List.getElem?_append_left (by rw [List.length_map, hl]; exact hi), List.getElem?_map, hv]
        rfl
    · rw [List.getElem?_append_right (by simpa using hi), List.getElem?_replicate] at e
      split at e <;> cases e
end
section
variable {P : Program} {w : World} {K : PySem.W.Frag} {mg : Str → Option Value} {base : Heap}
theorem okD {x qual : Str} {st : Stmt} {f : Addr} {fd : FuncData} {N ps : List Str} {k n : Nat} {φ : DF} {ds : DS} (F : Fun K x qual st f fd) (S : FnScope N ps (defScope st)) (hn : n = ps.length)
    (hbody : ∀ (cdv : Value) (A : Around) (outer : List Env) (s : Shared) (H : Hp) (E : XK), RoomG k (A.deeper (envOfC qual (defScope st) s.heap.objs.size f cdv)) →
      PDSs (cxOf CX0 P w K mg base N qual (defScope st) f cdv A outer s H E).nox (defBody st) ds)
    (hφ : ∀ ss μ Q', ss.length = n → φ ss μ Q' → ds ⟨fun _ μ' => finQ μ.length Q' (.dat .none) μ', finQ μ.length Q', fun _ _ => False, fun _ _ => False⟩ (startD N ss) μ) : FnG P w K mg base CX0 (k + 1) f fd ps (SpD K n φ) := by
  refine fnG_of F S (fun vs H Q E h => ?_) (fun cdv A outer s H vs Q E hr h => ?_)
  · obtain ⟨_, _, _, _, h, _⟩ := h
    exact h.trans hn
  · obtain ⟨W, ss, μ, Q', hl, hss, r, hp, q⟩ := h
    obtain ⟨t, p, l⟩ := hbody cdv A outer s H E hr
    refine ⟨t, p.nox, l _ (startD N ss) μ (hφ ss μ Q' (by rw [← hss.length]; exact hl) hp) W _ H (env_start hss) r _ ?_⟩
    have fq := finQ_ok q
    rw [r.len] at fq
    refine ⟨fun σ1 ρ1 W1 H1 μ1 l1 r1 he1 h1 => ?_, fq, fun σ1 ρ1 W1 H1 μ1 l1 r1 he1 h1 => h1, fun σ1 ρ1 W1 H1 μ1 l1 r1 he1 h1 => h1⟩
    exact fq .non (.dat .none) W1 H1 μ1 l1 r1 .non h1
structure Own (P : Program) (w : World) (K : PySem.W.Frag) (mg : Str → Option Value) (base : Heap) (x : Str) (st : Stmt) (ps : List Str) (k n : Nat) (φ : DF) : Prop where
  ex : ∃ f fd, Fun K x x st f fd ∧ FnG P w K mg base CX0 k f fd ps (SpD K n φ) ∧ mg x = some (.ref f)
end
def dCall (n : Nat) (φ : DF) (a : DA) : DE := fun ρ μ Q => a ρ μ fun ss μ1 => ss.length = n ∧ φ ss μ1 Q
section
variable {X : Cx} {K : PySem.W.Frag} {e : Expr} {es : List Expr} {x : Str} {p pos : Pos} {st : Stmt} {ps : List Str} {k n : Nat} {φ : DF}
theorem spD_of {W : Wd} {H : Hp} {μ : Mu} {vs : List V} {ss : List Sl} {Q' : DQ} {Q : VK} {E : XK} (hs : SlAll K W vs ss) (r : Rep K W H μ) (h : ss.length = n ∧ φ ss μ Q') (q : VOk K W Q' Q) : SpD K n φ vs H Q E :=
  ⟨W, ss, μ, Q', by rw [hs.length]; exact h.1, hs, r, h.2, q⟩
theorem pd_call {a : DA} (o : Own X.prog X.w X.K X.mg X.base x st ps k n φ) (hr : RoomG k X.A)
    (hb : ∀ (kV doc pm : Value) (an : Option Addr) (cdv ct : Value) (us : List Value), us.length = ps.length → bindArgs (PySem.W.fnOf x x (defArgs st) (defBody st) (defScope st) .none kV doc pm an cdv ct) ⟨us, []⟩ = pure (ps.zip us))
    (ha : PDA X (e :: es) a) (hg : Gl X x := by rfl) (hdb : (x == ("__debug__" : Str)) = false := by decide)
    (he : starEach (e :: es) X.env = (false, eval e X.env) :: starEach es X.env := by rfl) (hpl : (backTo pos (starEach es X.env)).any (·.1) = false := by rfl) : PD X (.Call (.Name x p) (e :: es) [] pos) (dCall n φ a) := by
  obtain ⟨f, fd, F, G, hm⟩ := o
  obtain ⟨t, p1, l1⟩ := ha
  refine ⟨_, pe_callG G hr hg hm F.kp (F.binds hb) pass0 p1 hdb he hpl, fun ρ μ Q' h W σ H henv r Q q => l1 ρ μ _ h W σ H henv r _ fun vs ss W1 H1 μ1 le1 r1 hss h1 => ?_⟩
  exact spD_of (E := E0) hss r1 h1 (q.le le1)
def kp {α : Type} (np : Nat) (idx : List Nat) (us ws : List α) : List α := if us.length = np ∧ ws.length = idx.length then us ++ idx.filterMap (fun i => ws[i]?) else []
theorem slAll_fm {W : Wd} {vs : List V} {ss : List Sl} (h : SlAll K W vs ss) : ∀ idx : List Nat, SlAll K W (idx.filterMap fun i => vs[i]?) (idx.filterMap fun i => ss[i]?)
  | [] => .nil
  | i :: idx => by
    have ih := slAll_fm h idx
    rw [List.filterMap_cons, List.filterMap_cons]
    cases q : ss[i]? with
    | none =>
      have : vs[i]? = none := by
        rw [List.getElem?_eq_none_iff] at q ⊢
        rw [h.length]
        exact q
      rw [this]
      exact ih
    | some s =>
      obtain ⟨v, hv, ok⟩ := h.get q
      rw [hv]
      exact .cons ok ih
theorem slAll_app {W : Wd} : ∀ {vs us : List V} {ss ts : List Sl}, SlAll K W vs ss → SlAll K W us ts → SlAll K W (vs ++ us) (ss ++ ts)
  | _, _, _, _, .nil, h => h
  | _, _, _, _, .cons a t, h => .cons a (slAll_app t h)
theorem slAll_kp {W : Wd} {np : Nat} {idx : List Nat} {vs us : List V} {ss ts : List Sl} (h1 : SlAll K W vs ss) (h2 : SlAll K W us ts) : SlAll K W (kp np idx vs us) (kp np idx ss ts) := by
  unfold kp
  rw [h1.length, h2.length]
  split
  · exact slAll_app h1 (slAll_fm h2 idx)
  · exact .nil
theorem vals_fm {vs : List V} {us : List Value} (h : Vals vs us) : ∀ idx : List Nat, Vals (idx.filterMap fun i => vs[i]?) (idx.filterMap fun i => us[i]?)
  | [] => .nil
  | i :: idx => by
    have ih := vals_fm h idx
    rw [List.filterMap_cons, List.filterMap_cons]
    cases q : vs[i]? with
    | none =>
      rw [h.none_of q]
      exact ih
    | some s =>
      obtain ⟨v, hv, ok⟩ := h.get q
      rw [hv]
      exact .cons ok ih
theorem vals_kp {np : Nat} {idx : List Nat} {vs zs : List V} {us ws : List Value} (h1 : Vals vs us) (h2 : Vals zs ws) : Vals (kp np idx vs zs) (kp np idx us ws) := by
  unfold kp
  rw [h1.length, h2.length]
  split
  · exact h1.append (vals_fm h2 idx)
  · exact .nil
structure PDK (X : Cx) (kws : List Keyword) (d : DA) : Prop where
  ex : ∃ t, PK X kws t ∧ LA X.K t d
theorem pdk_nil : PDK X [] aNil := ⟨_, pk_nil, la_nil⟩
theorem pdk_cons {nm : Option Str} {kpos : Pos} {kws : List Keyword} {d : DE} {a : DA} (h1 : PD X e d) (h2 : PDK X kws a) : PDK X (⟨nm, e, kpos⟩ :: kws) (aCons d a) := by
  obtain ⟨t1, p1, l1⟩ := h1
  obtain ⟨t2, p2, l2⟩ := h2
  exact ⟨_, pk_cons p1 p2, la_cons l1 l2⟩
def dCallK (np : Nat) (idx : List Nat) (n : Nat) (φ : DF) (a b : DA) : DE := fun ρ μ Q => a ρ μ fun ss μ1 => b ρ μ1 fun ts μ2 => (kp np idx ss ts).length = n ∧ φ (kp np idx ss ts) μ2 Q
theorem kbinds_of {f : Addr} {fd : FuncData} {ks : List Str} {np : Nat} {idx : List Nat} (F : Fun K x x st f fd) (hps : ps ≠ [])
    (hb : ∀ (kV doc pm : Value) (an : Option Addr) (cdv ct : Value) (us ws : List Value), us.length = np → ws.length = idx.length →
      bindArgs (PySem.W.fnOf x x (defArgs st) (defBody st) (defScope st) .none kV doc pm an cdv ct) ⟨us, ks.zip ws⟩ = pure (ps.zip (us ++ idx.filterMap fun i => ws[i]?))) : KBinds K fd ps ks (kp np idx) (kp np idx) := by
  obtain ⟨oc, od, kV, doc, pm, an, cdv, ct, osl, rfl, lk, hcd⟩ := F.ex
  refine ⟨fun s us ws _ hl => ?_, fun h1 h2 => vals_kp h1 h2⟩
  by_cases hc : us.length = np ∧ ws.length = idx.length
  · have e : kp np idx us ws = us ++ idx.filterMap (fun i => ws[i]?) := if_pos hc
    rw [e]
    exact .of_eq (hb kV doc pm an cdv ct us ws hc.1 hc.2)
  · have e : kp np idx us ws = [] := if_neg hc
    rw [e] at hl
    exact absurd (List.length_eq_zero_iff.mp hl.symm) hps
theorem pd_callK0 {ks : List Str} {kws : List Keyword} (idx : List Nat) {b : DA} (o : Own X.prog X.w X.K X.mg X.base x st ps k n φ) (hr : RoomG k X.A) (hps : ps ≠ [])
    (hb : ∀ (kV doc pm : Value) (an : Option Addr) (cdv ct : Value) (us ws : List Value), us.length = 0 → ws.length = idx.length →
      bindArgs (PySem.W.fnOf x x (defArgs st) (defBody st) (defScope st) .none kV doc pm an cdv ct) ⟨us, ks.zip ws⟩ = pure (ps.zip (us ++ idx.filterMap fun i => ws[i]?)))
    (hk : PDK X kws b) (hg : Gl X x := by rfl) (hall : (backToKw pos (keywordEach kws X.env)).all (·.1.isSome) = true := by rfl) (hks : (backToKw pos (keywordEach kws X.env)).filterMap (·.1) = ks := by rfl)
    (hdb : (x == ("__debug__" : Str)) = false := by decide) (hpl : ((backTo pos (starEach [] X.env)).any (·.1) || (backToKw pos (keywordEach kws X.env)).any (·.1.isNone)) = false := by rfl) : PD X (.Call (.Name x p) [] kws pos) (dCallK 0 idx n φ aNil b) := by
  obtain ⟨f, fd, F, G, hm⟩ := o
  obtain ⟨t2, p2, l2⟩ := hk
  refine ⟨_, pe_callGK0 G hr hg hm F.kp (kbinds_of F hps hb) pass0 p2 hall hks hdb hpl, fun ρ μ Q' h W σ H henv r Q q => l2 ρ μ _ h W σ H henv r _ fun us ts W2 H2 μ2 le2 r2 hts h2 => ?_⟩
  exact spD_of (E := E0) (slAll_kp .nil hts) r2 h2 (q.le le2)
end
end DL
namespace DL
open PySem PySem.Spec PyProof.Rows L2 Evl
section
variable {X : Cx} {K : PySem.W.Frag} {e : Expr} {es : List Expr} {x : Str} {p pos : Pos}
def okR (d : PyData) : Prop := d.showable = true ∧ (d.hasDict = false ∨ d = .dict []) ∧ d.depth ≤ 64 ∧ d.shown.length ≤ sizeLine
theorem RoomG.u128 {k : Nat} {A : Around} (h : RoomG k A) : A.units + 128 < cLine := by have := h.r.un; omega
theorem RoomG.u64 {k : Nat} {A : Around} (h : RoomG k A) : A.units + 64 < cLine := by have := h.r.un; omega
end
def lawF : DF := fun ss μ Q' => ∃ ns : List Int, ns.length ≤ 63 ∧ ss = [.dat (.list (ns.map PyData.int))] ∧ μ = [] ∧ Q' (.dat (.bool true)) []
theorem law_spD (K : PySem.W.Frag) (H : Hp) (a : Addr) (ns : List Int) (hl : ns.length ≤ 63) (hS : SqL K H a (ns.map V.int)) : SpD K 1 lawF [.ref a] H (fun v _ => v = .bl true) E0 := by
  refine ⟨⟨H, H, []⟩, [.dat (.list (ns.map PyData.int))], [], fun s _ => s = .dat (.bool true), rfl, .cons (.lst hS (DvAll.ints ns)) .nil, ⟨Ex.refl _, Ex.refl _, rfl, fun i j a h => ?_, fun k a c h => ?_, fun k P q h => by simp at h⟩, ⟨ns, hl, rfl, rfl, rfl⟩, fun v s W' H' μ' l r hs e => ?_⟩
  · simp at h
  · simp at h
  · subst e
    exact bool_of hs
end DL
namespace DL
open PySem PySem.Spec PyProof.Rows L2 Evl
def Pure (N : List Str) (n : Nat) (φ : DF) (ds : DS) : Prop := ∀ ss μ Q', ss.length = n → φ ss μ Q' → ds ⟨fun _ μ' => finQ μ.length Q' (.dat .none) μ', finQ μ.length Q', fun _ _ => False, fun _ _ => False⟩ (startD N ss) μ
section
variable {ρ : Rho} {μ : Mu} {Q : DQ} {D : DEnds} {a b c d e : DE} {t u : DT} {as : DA} {r r' : DR2} {r1 : DR1} {ra : DRA} {s s' : DS}
@[simp ↓] theorem e_dVar {i : Nat} : dVar i ρ μ Q = (match ρ[i]? with | some (some s) => Q s μ | _ => False) := rfl
@[simp ↓] theorem e_dC {x : PyData} : dC x ρ μ Q = Q (.dat x) μ := rfl
@[simp ↓] theorem e_aNil {R : List Sl → Mu → Prop} : aNil ρ μ R = R [] μ := rfl
@[simp ↓] theorem e_aCons {R : List Sl → Mu → Prop} : aCons d as ρ μ R = d ρ μ fun s μ1 => as ρ μ1 fun ss μ2 => R (s :: ss) μ2 := rfl
@[simp ↓] theorem e_dOp : dOp r a b ρ μ Q = a ρ μ fun x μ1 => b ρ μ1 fun y μ2 => r x y μ2 Q := rfl
@[simp ↓] theorem e_dUn : dUn r1 a ρ μ Q = a ρ μ fun x μ1 => r1 x μ1 Q := rfl
@[simp ↓] theorem e_dCB : dCB ra as ρ μ Q = as ρ μ fun x μ1 => ra x μ1 Q := rfl
@[simp ↓] theorem e_dTest {R : Bool → Mu → Prop} : dTest d ρ μ R = d ρ μ fun x μ1 => match x with | .dat (.bool b) => R b μ1 | _ => False := rfl
@[simp ↓] theorem e_dChain : dChain r r' a b c ρ μ Q = a ρ μ fun x μ1 => b ρ μ1 fun y μ2 => r x y μ2 fun z μ3 => match z with | .dat (.bool k) => if k = true then c ρ μ3 (fun w μ4 => r' y w μ4 Q) else Q (.dat (.bool false)) μ3 | _ => False := rfl
@[simp ↓] theorem e_dTru {R : Bool → Mu → Prop} : dTru d ρ μ R = d ρ μ fun x μ1 => match rd μ1 x with | some z => okT z ∧ R (truD z) μ1 | _ => False := rfl
@[simp ↓] theorem e_dAnd {R : Bool → Mu → Prop} : dAnd t u ρ μ R = t ρ μ fun c μ1 => if c = true then u ρ μ1 R else R false μ1 := rfl
@[simp ↓] theorem e_dOr {R : Bool → Mu → Prop} : dOr t u ρ μ R = t ρ μ fun c μ1 => if c = true then R true μ1 else u ρ μ1 R := rfl
@[simp ↓] theorem e_dNot {R : Bool → Mu → Prop} : dNot t ρ μ R = t ρ μ fun c μ1 => R (!c) μ1 := rfl
@[simp ↓] theorem e_dIf : dIf t a b ρ μ Q = t ρ μ fun c μ1 => if c = true then a ρ μ1 Q else b ρ μ1 Q := rfl
@[simp ↓] theorem e_dAndV : dAndV a b ρ μ Q = a ρ μ fun x μ1 => match x with | .dat (.bool c) => if c = true then b ρ μ1 Q else Q (.dat (.bool false)) μ1 | _ => False := rfl
@[simp ↓] theorem e_dOrV : dOrV a b ρ μ Q = a ρ μ fun x μ1 => match x with | .dat (.bool c) => if c = true then Q (.dat (.bool true)) μ1 else b ρ μ1 Q | _ => False := rfl
@[simp ↓] theorem e_dNotV : dNotV a ρ μ Q = a ρ μ fun x μ1 => match x with | .dat (.bool c) => Q (.dat (.bool (!c))) μ1 | _ => False := rfl
@[simp ↓] theorem e_dTup : dTup as ρ μ Q = as ρ μ fun ss μ1 => match datsOf ss with | some (b, ds) => ds.length ≤ sizeLine ∧ Q (mk b (.tuple ds)) μ1 | none => False := rfl
@[simp ↓] theorem e_dLst : dLst as ρ μ Q = as ρ μ fun ss μ1 => match datsOf ss with | some (b, ds) => ds.length ≤ sizeLine ∧ Q (mk b (.list ds)) μ1 | none => False := rfl
@[simp ↓] theorem e_dLstC : dLstC as ρ μ Q = as ρ μ fun ss μ1 => match datsOf ss with | some (false, ds) => ds.length ≤ sizeLine ∧ Q (.cell μ1.length) (μ1 ++ [.lst ds]) | _ => False := rfl
@[simp ↓] theorem e_dNext : dNext D ρ μ = D.nx ρ μ := rfl
@[simp ↓] theorem e_dSeq : dSeq s s' D ρ μ = s { D with nx := s' D } ρ μ := rfl
@[simp ↓] theorem e_dAsg {i : Nat} : dAsg d i D ρ μ = d ρ μ fun s μ1 => D.nx (ρ.set i (some s)) μ1 := rfl
@[simp ↓] theorem e_dRet : dRet d D ρ μ = d ρ μ D.rt := rfl
@[simp ↓] theorem e_dRetN : dRetN D ρ μ = D.rt (.dat .none) μ := rfl
@[simp ↓] theorem e_dIfS : dIfS t s s' D ρ μ = t ρ μ fun c μ1 => if c = true then s D ρ μ1 else s' D ρ μ1 := rfl
@[simp ↓] theorem e_dDrop : dDrop d D ρ μ = d ρ μ fun _ μ1 => D.nx ρ μ1 := rfl
@[simp ↓] theorem e_dNever : dNever D ρ μ = False := rfl
@[simp ↓] theorem e_dCont : dCont D ρ μ = D.ct ρ μ := rfl
@[simp ↓] theorem e_dBreak : dBreak D ρ μ = D.bk ρ μ := rfl
@[simp ↓] theorem e_dAug {i : Nat} : dAug i r d D ρ μ = dVar i ρ μ fun x μ0 => d ρ μ0 fun y μ1 => r x y μ1 fun z μ2 => D.nx (ρ.set i (some z)) μ2 := rfl
@[simp ↓] theorem e_dPar {i j : Nat} : dPar i j as D ρ μ = as ρ μ fun ss μ1 => match ss with | [s, t] => D.nx ((ρ.set i (some s)).set j (some t)) μ1 | _ => False := rfl
@[simp ↓] theorem e_gN {i : Nat} {x : Sl} {R : Rho → Mu → Prop} : gN i x ρ μ R = R (ρ.set i (some x)) μ := rfl
@[simp ↓] theorem e_gsNil {R : Rho → Mu → Prop} : gsNil [] ρ μ R = R ρ μ := rfl
@[simp ↓] theorem e_gsCons {g : DG} {gs : DGs} {x : Sl} {xs : List Sl} {R : Rho → Mu → Prop} : gsCons g gs (x :: xs) ρ μ R = g x ρ μ fun ρ1 μ1 => gs xs ρ1 μ1 R := rfl
@[simp ↓] theorem e_gT {n : Nat} {gs : DGs} {ds : List PyData} {R : Rho → Mu → Prop} : gT n gs (.dat (.tuple ds)) ρ μ R = (ds.length = n ∧ gs (ds.map .dat) ρ μ R) := rfl
@[simp ↓] theorem e_gS {x : Sl} {R : Rho → Mu → Prop} : gS a b x ρ μ R = a ρ μ fun y μ1 => b ρ μ1 fun z μ2 => wrL y z x μ2 fun μ3 => R ρ μ3 := rfl
@[simp ↓] theorem e_dAsgG {g : DG} : dAsgG d g D ρ μ = d ρ μ fun s μ1 => g s ρ μ1 D.nx := rfl
@[simp ↓] theorem e_dCall {n : Nat} {φ : DF} : dCall n φ as ρ μ Q = as ρ μ fun ss μ1 => ss.length = n ∧ φ ss μ1 Q := rfl
@[simp ↓] theorem e_dCallK {np n : Nat} {idx : List Nat} {φ : DF} {bs : DA} : dCallK np idx n φ as bs ρ μ Q = as ρ μ fun ss μ1 => bs ρ μ1 fun ts μ2 => (kp np idx ss ts).length = n ∧ φ (kp np idx ss ts) μ2 Q := rfl
@[simp ↓] theorem e_rdD {x : PyData} : rd μ (.dat x) = some x := rfl
@[simp ↓] theorem e_rdV {x : PyData} : rd μ (.vw x) = some x := rfl
@[simp ↓] theorem e_rdC {k : Nat} : rd μ (.cell k) = rdC μ[k]? := rfl
@[simp ↓] theorem e_rdCl {ds : List PyData} : rdC (some (.lst ds)) = some (.list ds) := rfl
@[simp ↓] theorem e_isVd {x : PyData} : isV (.dat x) = false := rfl
@[simp ↓] theorem e_isVc {k : Nat} : isV (.cell k) = false := rfl
@[simp ↓] theorem e_mkF {x : PyData} : mk false x = .dat x := rfl
@[simp ↓] theorem e_eltD {x y : PyData} : elt (.dat x) y = .dat y := rfl
@[simp ↓] theorem e_eltC {k : Nat} {y : PyData} : elt (.cell k) y = .dat y := rfl
@[simp ↓] theorem e_eltfun {x : PyData} : elt (.dat x) = .dat := rfl
@[simp ↓] theorem e_datsNil : datsOf [] = some (false, []) := rfl
@[simp ↓] theorem e_datsCons {x : PyData} {ss : List Sl} : datsOf (.dat x :: ss) = (match datsOf ss with | some (b, ds) => some (b, x :: ds) | none => none) := rfl
@[simp ↓] theorem e_finD {n : Nat} {x : PyData} : finQ n Q (.dat x) μ = Q (.dat x) (μ.take n) := rfl
theorem e_wrL {k : Nat} {j : Int} {x : PyData} {R : Mu → Prop} : wrL (.cell k) (.dat (.int j)) (.dat x) μ R = (match μ[k]? with | some (.lst ds) => ∃ m, ixN ds.length j = some m ∧ R (μ.set k (.lst (ds.set m x))) | _ => False) := rfl
@[simp ↓] theorem e_sz2 : 2 ≤ sizeLine := by decide
theorem small_sz {n : Nat} (h : n ≤ 1000) : n ≤ sizeLine := Nat.le_trans h (by decide)
end
theorem fact_of {K : PySem.W.Frag} {h : Heap} {mg : Str → Option Value} {x : Str} {st : Stmt} {f : Addr} (X : K.In h) (G : h.Ns mainGlobals mg) {od an : Option Addr} {sl : Array (Option Value)} {oc kV dc pm cd ct : Value}
    (a : PySem.W.nsIn K mainGlobals x = some (some (.ref f))) (l : K.lookup f = some ⟨oc, od, .func (PySem.W.fnOf x x (defArgs st) (defBody st) (defScope st) .none kV dc pm an cd ct), sl⟩) (c : PySem.W.codeIn K cd x = true) (k : PySem.W.keepIn K (.ref f) = true) :
    ∃ f fd, Fun K x x st f fd ∧ mg x = some (.ref f) := ⟨f, _, fun_mk l c k, PySem.W.mg_of X G a⟩
theorem step_of {K : PySem.W.Frag} {h : Heap} {mg : Str → Option Value} {x : Str} {st : Stmt} {f : Addr} {Z : Prop} (X : K.In h) (G : h.Ns mainGlobals mg) {od an : Option Addr} {sl : Array (Option Value)} {oc kV dc pm cd ct : Value}
    (a : PySem.W.nsIn K mainGlobals x = some (some (.ref f))) (l : K.lookup f = some ⟨oc, od, .func (PySem.W.fnOf x x (defArgs st) (defBody st) (defScope st) .none kV dc pm an cd ct), sl⟩) (c : PySem.W.codeIn K cd x = true) (k : PySem.W.keepIn K (.ref f) = true)
    (z : (∃ f fd, Fun K x x st f fd ∧ mg x = some (.ref f)) → Z) : Z := z (fact_of X G a l c k)
end DL
namespace HT
open PySem PySem.Spec PySem.Entry PySem.Calls PyProof PyProof.Rows
section
variable {prog : Program} {w : World} {A : Around} {s : Shared} {E : Value → Shared → Prop}
end
end HT
namespace DL
open PySem PySem.Spec PyProof.Rows L2 Evl
section
variable {X : Cx} {e : Expr} {te : TE} {k : Nat} {p1 p2 p3 pos : Pos}
def rRev : DR1 := fun x μ Q => match rd μ x with
  | some (.tuple ds) => Q (mk (isV x) (.tuple ds.reverse)) μ
  | _ => False
end
theorem VOk.seen {K : PySem.W.Frag} {W : Wd} {H : Hp} {μ : Mu} {Q' : DQ} {Q : VK} (h : VOk K W Q' Q) (r : Rep K W H μ) {p : Addr} (hp : H p = none) (o : HO) {b : Bool} (q : Q' (.dat (.bool b)) μ) : Q (.bl b) (upd H p o) :=
  h (.bl b) (.dat (.bool b)) _ _ μ (Le.new (o := o) r hp) (r.new hp) (.bl b) q
section
variable {X : Cx} {e : Expr} {p pos tpos : Pos} {k : Nat}
def fIsi2 (T U : Ty5) : DR1 := fun x μ Q => match rd μ x with
  | some d => Q (.dat (.bool (isTy T d || isTy U d))) μ
  | none => False
@[simp ↓] theorem o_isi2 {T U : Ty5} {x : PyData} {μ : Mu} {Q : DQ} : fIsi2 T U (.dat x) μ Q = Q (.dat (.bool (isTy T x || isTy U x))) μ := rfl
@[simp ↓] theorem o_rev {ds : List PyData} {μ : Mu} {Q : DQ} : rRev (.dat (.tuple ds)) μ Q = Q (.dat (.tuple ds.reverse)) μ := rfl
end
end DL
namespace DL
open PySem PySem.Spec PyProof.Rows L2 Evl
def Sh (n : Nat) (d : PyData) : Prop := d.canLay0 = true ∧ d.depth ≤ n
theorem Sh.int {n : Nat} {i : Int} : Sh n (.int i) := ⟨rfl, Nat.zero_le _⟩
theorem Sh.bool {n : Nat} {b : Bool} : Sh n (.bool b) := ⟨rfl, Nat.zero_le _⟩
theorem canAll : ∀ {xs : List PyData}, (∀ x ∈ xs, x.canLay0 = true) → PyData.canLayAll0 xs = true
  | [], _ => rfl
  | x :: xs, h => by
    simp only [PyData.canLayAll0, Bool.and_eq_true]
    exact ⟨h x (List.mem_cons_self ..), canAll fun y hy => h y (List.mem_cons_of_mem _ hy)⟩
theorem depAll {n : Nat} : ∀ {xs : List PyData}, (∀ x ∈ xs, x.depth ≤ n) → PyData.depthAll xs ≤ n
  | [], _ => Nat.zero_le _
  | x :: xs, h => Nat.max_le.mpr ⟨h x (List.mem_cons_self ..), depAll fun y hy => h y (List.mem_cons_of_mem _ hy)⟩
theorem Sh.tup {n : Nat} {xs : List PyData} (h : ∀ x ∈ xs, Sh n x) : Sh (n + 1) (.tuple xs) :=
  ⟨by simp only [PyData.canLay0]; exact canAll fun x hx => (h x hx).1, Nat.succ_le_succ (depAll fun x hx => (h x hx).2)⟩
theorem Sh.list {n : Nat} {xs : List PyData} (h : ∀ x ∈ xs, Sh n x) : Sh (n + 1) (.list xs) :=
  ⟨by simp only [PyData.canLay0]; exact canAll fun x hx => (h x hx).1, Nat.succ_le_succ (depAll fun x hx => (h x hx).2)⟩
theorem Sh.mono {m n : Nat} {d : PyData} (h : Sh m d) (g : m ≤ n) : Sh n d := ⟨h.1, Nat.le_trans h.2 g⟩
theorem Sh.ok {n : Nat} {d : PyData} (h : Sh n d) (g : n ≤ 64) : SeqAt.shaped d = true := Bool.and_eq_true_iff.mpr ⟨h.1, decide_eq_true (Nat.le_trans h.2 g)⟩
theorem addTo_end {μ : Mu} {acc : List PyData} {d : PyData} {R : Mu → Prop} (h : acc.length < sizeLine) : addTo μ.length (.dat d) (μ ++ [Cell.lst acc]) R = R (μ ++ [Cell.lst (acc ++ [d])]) := by
  unfold addTo
  rw [List.getElem?_append_right (Nat.le_refl _), Nat.sub_self]
  show (acc.length < sizeLine ∧ R ((μ ++ [Cell.lst acc]).set μ.length (.lst (acc ++ [d])))) = _
  rw [List.set_append_right _ _ (Nat.le_refl _), Nat.sub_self]
  exact propext ⟨fun z => z.2, fun z => ⟨h, z⟩⟩
theorem lcD_eq {C : Mu → Prop} {g : DG} {t : DT} {e : DE} {Q : Mu → Prop} {ρ : Rho} {p : PyData → Bool} {f : PyData → PyData} {μ : Mu} (hC : ∀ acc, C (μ ++ [Cell.lst acc])) : ∀ (ds acc : List PyData), acc.length + ds.length ≤ sizeLine →
    (∀ x ∈ ds, ∀ (acc : List PyData) (R : Mu → Prop), (g (.dat x) ρ (μ ++ [Cell.lst acc]) fun ρ1 μ1 => t ρ1 μ1 fun b μ2 => if b = true then e ρ1 μ2 fun v μ3 => addTo μ.length v μ3 R else R μ2) = if p x = true then addTo μ.length (.dat (f x)) (μ ++ [Cell.lst acc]) R else R (μ ++ [Cell.lst acc])) →
    lcD C g t e μ.length Q ρ (ds.map .dat) (μ ++ [Cell.lst acc]) = Q (μ ++ [Cell.lst (acc ++ (ds.filter p).map f)])
  | [], acc, _, _ => by
    show (C _ ∧ Q _) = _
    rw [List.filter_nil, List.map_nil, List.append_nil]
    exact propext ⟨fun z => z.2, fun z => ⟨hC acc, z⟩⟩
  | x :: ds, acc, hl, hs => by
    rw [List.length_cons] at hl
    have h1 := hs x (List.mem_cons_self ..) acc (lcD C g t e μ.length Q ρ (ds.map .dat))
    show (C _ ∧ g (.dat x) ρ (μ ++ [Cell.lst acc]) _) = _
    rw [h1]
    have ih := fun a h => lcD_eq hC ds a h (Q := Q) fun y hy => hs y (List.mem_cons_of_mem _ hy)
    by_cases hp : p x = true
    · rw [if_pos hp, addTo_end (by omega), ih _ (by rw [List.length_append, List.length_singleton]; omega), List.filter_cons_of_pos hp, List.map_cons, List.append_assoc]
      exact propext ⟨fun z => z.2, fun z => ⟨hC acc, z⟩⟩
    · rw [if_neg hp, ih _ (by omega), List.filter_cons_of_neg hp]
      exact propext ⟨fun z => z.2, fun z => ⟨hC acc, z⟩⟩
theorem frz_end {μ : Mu} {Q : DQ} {acc : List PyData} : frzQ μ.length Q (μ ++ [Cell.lst acc]) = Q (.dat (.list acc)) μ := by
  unfold frzQ
  rw [List.getElem?_append_right (Nat.le_refl _), Nat.sub_self]
  show Q (.dat (.list acc)) ((μ ++ [Cell.lst acc]).take μ.length) = _
  rw [List.take_left']
  rfl
theorem lc_eq {i : DI} {g : DG} {t : DT} {e : DE} {vs : List Nat} {ρ : Rho} {μ : Mu} {Q : DQ} {C : Mu → Prop} {ds : List PyData} (p : PyData → Bool) (f : PyData → PyData) (hi : ∀ R, i ρ μ R = R (ds.map .dat) C μ) (hC : ∀ acc, C (μ ++ [Cell.lst acc])) (hl : ds.length ≤ sizeLine)
    (hs : ∀ x ∈ ds, ∀ (acc : List PyData) (R : Mu → Prop), (g (.dat x) (wipeD ρ vs) (μ ++ [Cell.lst acc]) fun ρ1 μ1 => t ρ1 μ1 fun b μ2 => if b = true then e ρ1 μ2 fun v μ3 => addTo μ.length v μ3 R else R μ2) = if p x = true then addTo μ.length (.dat (f x)) (μ ++ [Cell.lst acc]) R else R (μ ++ [Cell.lst acc])) :
    dLc i g t e vs ρ μ Q = Q (.dat (.list ((ds.filter p).map f))) μ := by
  show i ρ μ _ = _
  rw [hi]
  refine (lcD_eq hC ds [] (by simpa using hl) hs).trans ?_
  rw [List.nil_append]
  exact frz_end
theorem lc_map {i : DI} {g : DG} {e : DE} {vs : List Nat} {ρ : Rho} {μ : Mu} {Q : DQ} {C : Mu → Prop} {ds : List PyData} (f : PyData → PyData) (hi : ∀ R, i ρ μ R = R (ds.map .dat) C μ) (hC : ∀ acc, C (μ ++ [Cell.lst acc])) (hl : ds.length ≤ sizeLine)
    (hs : ∀ x ∈ ds, ∀ (acc : List PyData) (R : Mu → Prop), (g (.dat x) (wipeD ρ vs) (μ ++ [Cell.lst acc]) fun ρ1 μ1 => e ρ1 μ1 fun v μ3 => addTo μ.length v μ3 R) = addTo μ.length (.dat (f x)) (μ ++ [Cell.lst acc]) R) :
    dLc i g dYes e vs ρ μ Q = Q (.dat (.list (ds.map f))) μ := by
  have h := lc_eq (i := i) (g := g) (t := dYes) (e := e) (vs := vs) (Q := Q) (fun _ => true) f hi hC hl (fun x hx acc R => (hs x hx acc R).trans (if_pos rfl).symm)
  rw [List.filter_eq_self.mpr (fun _ _ => rfl)] at h
  exact h
def Sq (μ : Mu) (s : Sl) (ds : List PyData) : Prop := isV s = false ∧ (rd μ s = some (.list ds) ∨ rd μ s = some (.tuple ds))
theorem rd_more {μ ν : Mu} {s : Sl} {d : PyData} (h : rd μ s = some d) : rd (μ ++ ν) s = some d := by
  cases s with
  | cell k =>
    replace h : rdC μ[k]? = some d := h
    show rdC (μ ++ ν)[k]? = some d
    have hk : k < μ.length := by
      by_cases hk : k < μ.length
      · exact hk
      · rw [List.getElem?_eq_none (by omega)] at h
        cases h
    rw [List.getElem?_append_left hk]
    exact h
  | _ => exact h
theorem Sq.more {μ ν : Mu} {s : Sl} {ds : List PyData} (h : Sq μ s ds) : Sq (μ ++ ν) s ds := ⟨h.1, h.2.imp rd_more rd_more⟩
theorem Sq.dt {μ : Mu} {ds : List PyData} : Sq μ (.dat (.tuple ds)) ds := ⟨rfl, .inr rfl⟩
theorem Sq.dl {μ : Mu} {ds : List PyData} : Sq μ (.dat (.list ds)) ds := ⟨rfl, .inl rfl⟩
theorem iSeq_ok {i : Nat} {ρ : Rho} {μ : Mu} {s : Sl} {ds : List PyData} (h : ρ[i]? = some (some s)) (hs : Sq μ s ds) : ∃ C : Mu → Prop, C μ ∧ (∀ ν, C (μ ++ ν)) ∧ ∀ R, iSeq (dVar i) ρ μ R = R (ds.map .dat) C μ := by
  have he : elt s = .dat := by
    funext d
    unfold elt
    rw [hs.1]
    rfl
  rcases hs.2 with e | e
  · refine ⟨fun ν => rd ν s = some (.list ds), e, fun ν => rd_more e, fun R => ?_⟩
    simp only [iSeq, e_dVar, h, e, he]
  · refine ⟨fun _ => True, trivial, fun _ => trivial, fun R => ?_⟩
    simp only [iSeq, e_dVar, h, e, he]
theorem zipS_dat {x y : PyData} : ∀ {ds es : List PyData}, zipS (.dat x) (.dat y) ds es = (List.zipWith (fun d e => PyData.tuple [d, e]) ds es).map .dat
  | [], _ => by cases ‹List PyData› <;> rfl
  | _ :: _, [] => rfl
  | d :: ds, e :: es => by
    rw [List.zipWith_cons_cons, List.map_cons, ← zipS_dat]
    rfl
section
variable {μ : Mu} {Q : DQ} {i j : Int} {x y : PyData} {ρ : Rho} {ds es : List PyData}
@[simp ↓] theorem o_sum {ns : List Int} : fSum [.dat (.list (ns.map PyData.int))] μ Q = Q (.dat (.int ns.sum)) μ := by
  have : ∀ ns : List Int, intsOf (ns.map PyData.int) = some ns := fun ns => by
    induction ns with
    | nil => rfl
    | cons b r ih => simp [intsOf, ih]
  simp [fSum, arg1, this]
@[simp ↓] theorem o_all {bs : List Bool} : fAll [.dat (.list (bs.map PyData.bool))] μ Q = Q (.dat (.bool (bs.all id))) μ := by
  have : ∀ bs : List Bool, boolsOf (bs.map PyData.bool) = some bs := fun bs => by
    induction bs with
    | nil => rfl
    | cons b r ih => simp [boolsOf, ih]
  simp [fAll, fBools, arg1, this]
@[simp ↓] theorem o_tupL : fTuple [.dat (.list ds)] μ Q = Q (.dat (.tuple ds)) μ := rfl
@[simp ↓] theorem o_tupT : fTuple [.dat (.tuple ds)] μ Q = Q (.dat (.tuple ds)) μ := rfl
@[simp ↓] theorem o_eqI : DL.rEq (.dat (.int i)) (.dat (.int j)) μ Q = Q (.dat (.bool (decide (i = j)))) μ := rfl
@[simp ↓] theorem o_neI : DL.rNe (.dat (.int i)) (.dat (.int j)) μ Q = Q (.dat (.bool (!decide (i = j)))) μ := rfl
@[simp ↓] theorem o_eqB {i j : Bool} : DL.rEq (.dat (.bool i)) (.dat (.bool j)) μ Q = Q (.dat (.bool (decide (i = j)))) μ := rfl
@[simp ↓] theorem o_neS {i j : Str} : DL.rNe (.dat (.str i)) (.dat (.str j)) μ Q = Q (.dat (.bool (!decide (i = j)))) μ := rfl
@[simp ↓] theorem o_lt : DL.rLt (.dat (.int i)) (.dat (.int j)) μ Q = Q (.dat (.bool (decide (i < j)))) μ := rfl
@[simp ↓] theorem o_le : DL.rLe (.dat (.int i)) (.dat (.int j)) μ Q = Q (.dat (.bool (decide (i ≤ j)))) μ := rfl
@[simp ↓] theorem o_gt : DL.rGt (.dat (.int i)) (.dat (.int j)) μ Q = Q (.dat (.bool (decide (j < i)))) μ := rfl
@[simp ↓] theorem o_ge : DL.rGe (.dat (.int i)) (.dat (.int j)) μ Q = Q (.dat (.bool (decide (j ≤ i)))) μ := rfl
@[simp ↓] theorem o_add : DL.rAdd (.dat (.int i)) (.dat (.int j)) μ Q = Q (.dat (.int (i + j))) μ := rfl
@[simp ↓] theorem o_addT : DL.rAdd (.dat (.tuple ds)) (.dat (.tuple es)) μ Q = (ds.length + es.length ≤ sizeLine ∧ Q (.dat (.tuple (ds ++ es))) μ) := rfl
@[simp ↓] theorem o_sub : DL.rSub (.dat (.int i)) (.dat (.int j)) μ Q = Q (.dat (.int (i - j))) μ := propext ⟨fun h => h.2, fun h => ⟨trivial, h⟩⟩
@[simp ↓] theorem o_mul : DL.rMul (.dat (.int i)) (.dat (.int j)) μ Q = (CMulW i j ∧ Q (.dat (.int (i * j))) μ) := rfl
@[simp ↓] theorem o_mulT : DL.rMul (.dat (.tuple ds)) (.dat (.int j)) μ Q = ((ds ≠ [] ∧ 2 ≤ j ∧ j ≤ 1000 ∧ ds.length ≤ 1000) ∧ Q (.dat (.tuple (List.replicate j.toNat ds).flatten)) μ) := rfl
@[simp ↓] theorem o_dv : DL.rDv (.dat (.int i)) (.dat (.int j)) μ Q = (CDv i j ∧ Q (.dat (.int (i.fdiv j))) μ) := rfl
@[simp ↓] theorem o_md : DL.rMd (.dat (.int i)) (.dat (.int j)) μ Q = (j ≠ 0 ∧ Q (.dat (.int (i.fmod j))) μ) := rfl
@[simp ↓] theorem o_pw : DL.rPw (.dat (.int i)) (.dat (.int j)) μ Q = (CPow i j ∧ Q (.dat (.int (i ^ j.toNat))) μ) := rfl
@[simp ↓] theorem o_neg : DL.rNeg (.dat (.int i)) μ Q = Q (.dat (.int (-i))) μ := rfl
@[simp ↓] theorem o_isT {b c : Bool} : DL.rIs true (.dat (.bool b)) (.dat (.bool c)) μ Q = Q (.dat (.bool (true != decide (b = c)))) μ := rfl
@[simp ↓] theorem o_lenL : fLen [.dat (.list ds)] μ Q = Q (.dat (.int ds.length)) μ := rfl
@[simp ↓] theorem o_lenT : fLen [.dat (.tuple ds)] μ Q = Q (.dat (.int ds.length)) μ := rfl
@[simp ↓] theorem o_abs : fAbs [.dat (.int i)] μ Q = Q (.dat (.int (if i < 0 then -i else i))) μ := rfl
@[simp ↓] theorem o_max : fMax2 [.dat (.int i), .dat (.int j)] μ Q = Q (.dat (.int (if j > i then j else i))) μ := propext ⟨fun h => h.2, fun h => ⟨trivial, h⟩⟩
@[simp ↓] theorem o_int : fInt [.dat (.int i)] μ Q = Q (.dat (.int i)) μ := rfl
@[simp ↓] theorem o_intB {b : Bool} : fInt [.dat (.bool b)] μ Q = Q (.dat (.int (if b then 1 else 0))) μ := rfl
@[simp ↓] theorem o_isiT {T : Ty5} : fIsi T (.dat x) μ Q = Q (.dat (.bool (isTy T x))) μ := rfl
@[simp ↓] theorem o_tr {b : Bool} : truD (.bool b) = b := rfl
@[simp ↓] theorem o_okT {b : Bool} : okT (.bool b) = True := rfl
theorem rix_c {k : Nat} {j : Int} {d : PyData} {ds : List PyData} (hm : μ[k]? = some (.lst ds)) (e : atI ds j = some d) : DL.rIx (.cell k) (.dat (.int j)) μ Q = Q (.dat d) μ := by
  simp only [DL.rIx, e_rdC, hm, e_rdCl, e_rdD, e, Option.some.injEq, exists_eq_left', e_eltC]
theorem rix_l {j : Int} {d : PyData} {ds : List PyData} (e : atI ds j = some d) : DL.rIx (.dat (.list ds)) (.dat (.int j)) μ Q = Q (.dat d) μ := by
  simp only [DL.rIx, e_rdD, e, Option.some.injEq, exists_eq_left', e_eltD]
theorem wrl_c {k m : Nat} {j : Int} {x : PyData} {R : Mu → Prop} {ds : List PyData} (hm : μ[k]? = some (.lst ds)) (e : ixN ds.length j = some m) : wrL (.cell k) (.dat (.int j)) (.dat x) μ R = R (μ.set k (.lst (ds.set m x))) := by
  simp only [e_wrL, hm, e, Option.some.injEq, exists_eq_left']
theorem atI_lt {ds : List PyData} {j : Int} (h0 : 0 ≤ j) (h : j < ds.length) : ∃ d, d ∈ ds ∧ atI ds j = some d := by
  have hj : j.toNat < ds.length := by omega
  refine ⟨ds[j.toNat], List.getElem_mem hj, ?_⟩
  have := atI_nat (List.getElem?_eq_getElem hj)
  rwa [Int.toNat_of_nonneg h0] at this
end
end DL
namespace DL
open PySem PySem.Spec PyProof.Rows L2 Evl PySem.W PySem.Calls PySem.SeqAt
section
variable {prog : Program} {w : World} {A : Around} {E : Value → Shared → Prop} {s : Shared}
end
end DL
namespace DL
open PySem PySem.Spec PyProof.Rows L2 Evl
open PySem.W (EachIs dataLe sortVals AllAlike Sortable)
open PySem.W (alike alikeAll dataLt)
section
variable {X : Cx} {K : PySem.W.Frag}
variable {e : Expr} {es : List Expr} {p pos : Pos} {k : Nat}
def OrdOk (d e : PyData) : Prop := alike d e = true ∧ d ≠ .none ∧ d.depth ≤ 64
def rOrdD (K : PySem.W.Frag) (f : PyData → PyData → Bool) : R2 := fun x y H Q => ∃ d e, Dv K H x d ∧ Dv K H y e ∧ OrdOk d e ∧ Q (.bl (f d e)) H
def ltB (d e : PyData) : Bool := dataLt d e
def gtB (d e : PyData) : Bool := dataLt e d
def leB (d e : PyData) : Bool := !dataLt e d
def geB (d e : PyData) : Bool := !dataLt d e
theorem min_room {A : Around} {d e : PyData} (hu : A.units + 128 < cLine) (h : d.depth ≤ 64) : A.units + min d.depth e.depth < cLine := by
  have := Nat.min_le_left d.depth e.depth
  omega
theorem op_ltD (hu : X.A.units + 128 < cLine) : OpR X (compareOp .Lt) (rOrdD X.K ltB) := by
  intro pins s σ H x y v u Q I rx ry h
  obtain ⟨d, e, hd, he, ⟨h1, h2, h3⟩, q⟩ := h
  obtain ⟨as, r1⟩ := Dv.reads I d x v hd rx
  obtain ⟨bs, r2⟩ := Dv.reads I e y u he ry
  exact PySem.W.lt_data r1 r2 h1 h2 (min_room hu h3) ⟨.bl _, H, I, rfl, q⟩
theorem op_gtD (hu : X.A.units + 128 < cLine) : OpR X (compareOp .Gt) (rOrdD X.K gtB) := by
  intro pins s σ H x y v u Q I rx ry h
  obtain ⟨d, e, hd, he, ⟨h1, h2, h3⟩, q⟩ := h
  obtain ⟨as, r1⟩ := Dv.reads I d x v hd rx
  obtain ⟨bs, r2⟩ := Dv.reads I e y u he ry
  exact PySem.W.gt_data r1 r2 h1 h2 (min_room hu h3) ⟨.bl _, H, I, rfl, q⟩
theorem op_leD (hu : X.A.units + 128 < cLine) : OpR X (compareOp .LtE) (rOrdD X.K leB) := by
  intro pins s σ H x y v u Q I rx ry h
  obtain ⟨d, e, hd, he, ⟨h1, h2, h3⟩, q⟩ := h
  obtain ⟨as, r1⟩ := Dv.reads I d x v hd rx
  obtain ⟨bs, r2⟩ := Dv.reads I e y u he ry
  exact PySem.W.le_data r1 r2 h1 h2 (min_room hu h3) ⟨.bl _, H, I, rfl, q⟩
theorem op_geD (hu : X.A.units + 128 < cLine) : OpR X (compareOp .GtE) (rOrdD X.K geB) := by
  intro pins s σ H x y v u Q I rx ry h
  obtain ⟨d, e, hd, he, ⟨h1, h2, h3⟩, q⟩ := h
  obtain ⟨as, r1⟩ := Dv.reads I d x v hd rx
  obtain ⟨bs, r2⟩ := Dv.reads I e y u he ry
  exact PySem.W.ge_data r1 r2 h1 h2 (min_room hu h3) ⟨.bl _, H, I, rfl, q⟩
def ordW (f : Int → Int → Bool) (g : Str → Str → Bool) (k : PyData → PyData → Bool) : DR2 := fun x y μ Q => match rd μ x, rd μ y with
  | some (.int i), some (.int j) => Q (.dat (.bool (f i j))) μ
  | some (.str i), some (.str j) => Q (.dat (.bool (g i j))) μ
  | some d, some e => OrdOk d e ∧ Q (.dat (.bool (k d e))) μ
  | _, _ => False
abbrev rOrdW (K : PySem.W.Frag) (f : Int → Int → Bool) (g : Str → Str → Bool) (k : PyData → PyData → Bool) : R2 := fun x y H Q => (rI0 (fun i j => .bl (f i j)) x y H Q ∨ ∃ i j, x = .str i ∧ y = .str j ∧ Q (.bl (g i j)) H) ∨ rOrdD K k x y H Q
theorem lr_ordW {f : Int → Int → Bool} {g : Str → Str → Bool} {k : PyData → PyData → Bool} : LR2 K (rOrdW K f g k) (ordW f g k) := fun x y μ Q' h W H vx vy r hx hy Q q => by
  unfold ordW at h
  split at h
  · rename_i i j e1 e2
    cases rd_int r hx e1
    cases rd_int r hy e2
    exact .inl (.inl ⟨i, j, rfl, rfl, q.bl r h⟩)
  · rename_i i j e1 e2
    cases rd_str r hx e1
    cases rd_str r hy e2
    exact .inl (.inr ⟨i, j, rfl, rfl, q.bl r h⟩)
  · rename_i d e _ _ e1 e2
    exact .inr ⟨d, e, rd_dp r hx e1, rd_dp r hy e2, h.1, q.bl r h.2⟩
  · exact h.elim
def wLt : DR2 := ordW (fun i j => decide (i < j)) ltS ltB
def wLe : DR2 := ordW (fun i j => decide (i ≤ j)) (fun i j => !ltS j i) leB
def wGt : DR2 := ordW (fun i j => decide (j < i)) (fun i j => ltS j i) gtB
def wGe : DR2 := ordW (fun i j => decide (j ≤ i)) (fun i j => !ltS i j) geB
theorem op_ltW (hu : X.A.units + 128 < cLine) : OpR X (compareOp .Lt) (rOrdW X.K (fun i j => decide (i < j)) ltS ltB) := op_ltV.or (op_ltD hu)
theorem op_leW (hu : X.A.units + 128 < cLine) : OpR X (compareOp .LtE) (rOrdW X.K (fun i j => decide (i ≤ j)) (fun i j => !ltS j i) leB) := op_leV.or (op_leD hu)
theorem op_gtW (hu : X.A.units + 128 < cLine) : OpR X (compareOp .Gt) (rOrdW X.K (fun i j => decide (j < i)) (fun i j => ltS j i) gtB) := op_gtV.or (op_gtD hu)
theorem op_geW (hu : X.A.units + 128 < cLine) : OpR X (compareOp .GtE) (rOrdW X.K (fun i j => decide (j ≤ i)) (fun i j => !ltS i j) geB) := op_geV.or (op_geD hu)
end
end DL
namespace DL
open PySem PySem.Spec PyProof.Rows L2 Evl
section
variable {κ : Type} [DecidableEq κ]
def valD (es : List (κ × PyData)) (k : κ) : Option PyData := (es.find? fun e => decide (e.1 = k)).map (·.2)
def putD (es : List (κ × PyData)) (k : κ) (d : PyData) : List (κ × PyData) :=
  if (es.any fun e => decide (e.1 = k)) = true then es.map (fun e => if e.1 = k then (e.1, d) else e) else es ++ [(k, d)]
variable {K : PySem.W.Frag} {H : Hp}
abbrev Tb (K : PySem.W.Frag) (H : Hp) : List (κ × V) → List (κ × PyData) → Prop := Paired fun p q => p.1 = q.1 ∧ Dv K H p.2 q.2
theorem tb_val (k : κ) : ∀ {kvs : List (κ × V)} {es : List (κ × PyData)}, Tb K H kvs es → (valV kvs k = none ∧ valD es k = none) ∨ ∃ v d, valV kvs k = some v ∧ valD es k = some d ∧ Dv K H v d
  | _, _, .nil => .inl ⟨rfl, rfl⟩
  | p :: kvs, q :: es, .cons h t => by
    by_cases e : p.1 = k
    · have e' : q.1 = k := h.1.symm.trans e
      exact .inr ⟨p.2, q.2, by simp [valV, List.find?_cons, e], by simp [valD, List.find?_cons, e'], h.2⟩
    · have e' : ¬ q.1 = k := fun z => e (h.1.trans z)
      have a : valV (p :: kvs) k = valV kvs k := by simp [valV, List.find?_cons, e]
      have b : valD (q :: es) k = valD es k := by simp [valD, List.find?_cons, e']
      rw [a, b]
      exact tb_val k t
end
def keyA : PyData → Option Key
  | .int i => some (.inl i)
  | .str z => some (.inr z)
  | _ => none
def keysA : List PyData → Option (List Key)
  | [] => some []
  | d :: ds => match keyA d, keysA ds with
    | some k, some ks => some (k :: ks)
    | _, _ => none
def kD : Key → PyData
  | .inl i => .int i
  | .inr z => .str z
theorem keyA_eq {d : PyData} {k : Key} (h : keyA d = some k) : d = kD k := by
  cases d <;> cases h <;> rfl
theorem keysA_eq : ∀ {ds : List PyData} {ks : List Key}, keysA ds = some ks → ds = ks.map kD
  | [], _, h => by cases h; rfl
  | d :: ds, _, h => by
    unfold keysA at h
    split at h
    · rename_i k ks e1 e2
      cases h
      rw [keyA_eq e1, keysA_eq e2]
      rfl
    · cases h
section
variable {K : PySem.W.Frag} {H : Hp}
theorem dp_key {v : V} {k : Key} (h : Dv K H v (kD k)) : v = kV k := by
  cases k <;> cases h <;> rfl
theorem dp_keys : ∀ {ks : List Key} {vs : List V}, DvAll K H vs (ks.map kD) → vs = ks.map kV
  | [], _, h => by cases h; rfl
  | k :: ks, _, h => by
    cases h with
    | cons a t => rw [dp_key a, dp_keys t]; rfl
end
section
variable {X : Cx}
theorem key_sq {pins : List (Addr × Obj)} {σ : L2.St} {H : Hp} {s : Shared} {b : Addr} {ks : List Key} (I : Inv X pins σ H s) (h : SqT X.K H b (ks.map kV)) : (tupleKind (mixKind X.prog X.w)).is s.heap ks b := by
  obtain ⟨its, r, ⟨o, h1, h2, n, h3⟩, hz⟩ := I.tuple h
  exact ⟨o, its.toArray, n, h1, h2, h3, by simpa using items_are r⟩
def rDGet (K : PySem.W.Frag) (f : Option V → Hp → VK → Prop) : R2 := fun x y H Q => ∃ a, x = .ref a ∧ ((∃ kvs k, H a = some (.dK kvs) ∧ y = kV k ∧ f (valV kvs k) H Q) ∨ ∃ kvs ks b, H a = some (.dT kvs) ∧ y = .ref b ∧ SqT K H b (ks.map kV) ∧ f (valV kvs ks) H Q)
def isin (f : Bool → Bool) (o : Option V) (H : Hp) (Q : VK) : Prop := Q (.bl (f o.isSome)) H
section
variable {pins : List (Addr × Obj)} {σ : L2.St} {H : Hp} {s : Shared} {a : Addr} {y : V} {u : Value} {E : Value → Shared → Prop} {A : Around}
theorem op_inDict (hu : X.A.units + 1 < cLine) : OpR X (compareOp .In) (fun x y H Q => rDGet X.K (isin id) y x H Q) := by
  intro pins s σ H x y v u Q I rx ry g
  obtain ⟨a, rfl, g⟩ := g
  cases ry
  rcases g with ⟨kvs, k, e, rfl, q⟩ | ⟨kvs, ks, b, e, rfl, eb, q⟩
  · obtain ⟨z, hd, vs, rel, dd⟩ := dk_of I.hok e
    refine wpAny_in_of (kV_is rx) hd dd.mapOf ?_
    rw [← (rel.val k).isSome_eq]
    exact ⟨.bl _, H, I.tok _, rfl, q⟩
  · cases (show v = Value.ref b from rx)
    obtain ⟨z, hd, xs, rel, dd⟩ := dt_of I.hok e
    refine wpAny_in_heap (tupleKind_room_in1 hu) (key_sq I eb) hd dd ?_
    have q' := (rel.val ks).isSome_eq
    rw [Option.isSome_map] at q'
    rw [← q']
    exact ⟨.bl _, H, I.tok _, rfl, q⟩
end
def dictAt (f : Option PyData → Mu → DQ → Prop) (x y : Sl) (μ : Mu) (Q : DQ) : Prop := match x with
  | .cell k => match μ[k]? with
    | some (.dct es) => ∃ d key, rd μ y = some d ∧ keyA d = some key ∧ f (valD es key) μ Q
    | some (.dctT es) => ∃ ds ks, rd μ y = some (.tuple ds) ∧ keysA ds = some ks ∧ f (valD es ks) μ Q
    | _ => False
  | _ => False
variable {K : PySem.W.Frag}
theorem dictAt_ok {W : Wd} {H : Hp} {μ : Mu} {x y : Sl} {vx vy : V} {f : Option PyData → Mu → DQ → Prop} {g : Option V → Hp → VK → Prop} {Q' : DQ} {Q : VK} (r : Rep K W H μ) (hx : SlOk K W vx x) (hy : SlOk K W vy y) (h : dictAt f x y μ Q')
    (hf : ∀ (o : Option V) (p : Option PyData), ((o = none ∧ p = none) ∨ ∃ v d, o = some v ∧ p = some d ∧ Dv K W.G v d) → f p μ Q' → g o H Q) : rDGet K g vx vy H Q := by
  unfold dictAt at h
  split at h
  · rename_i k
    obtain ⟨a, ha, rfl⟩ := hx
    split at h
    · rename_i es e1
      obtain ⟨_, o, ho, hc⟩ := r.cell k a _ ha e1
      cases o <;> first | exact False.elim hc | skip
      rename_i kvs
      obtain ⟨d, key, e2, e3, h⟩ := h
      cases keyA_eq e3
      have := dp_key (rd_dp r hy e2)
      subst this
      exact ⟨a, rfl, .inl ⟨kvs, key, ho, rfl, hf _ _ (tb_val key hc) h⟩⟩
    · rename_i es e1
      obtain ⟨_, o, ho, hc⟩ := r.cell k a _ ha e1
      cases o <;> first | exact False.elim hc | skip
      rename_i kvs
      obtain ⟨ds, ks, e2, e3, h⟩ := h
      cases keysA_eq e3
      obtain ⟨b, xs, rfl, hb, hi⟩ := rd_tup r hy e2
      have hH : DvAll K H xs (ks.map kD) := by
        unfold Its at hi
        cases q : isV y with
        | true => rw [q] at hi; exact DvAll.mono hi r.fh
        | false => rw [q] at hi; exact DvAll.mono hi r.gh
      rw [dp_keys hH] at hb
      exact ⟨a, rfl, .inr ⟨kvs, ks, b, ho, rfl, hb, hf _ _ (tb_val ks hc) h⟩⟩
    · exact h.elim
  · exact h.elim
def isinD (f : Bool → Bool) (o : Option PyData) (μ : Mu) (Q : DQ) : Prop := Q (.dat (.bool (f o.isSome))) μ
variable {o i e value : Expr} {pos pos' tpos : Pos} {td ty tv : TE} {k : Nat}
def dDct : DE := fun _ μ Q => Q (.cell μ.length) (μ ++ [.dct []])
def dDctT : DE := fun _ μ Q => Q (.cell μ.length) (μ ++ [.dctT []])
end
end DL
namespace DL
open PySem PySem.Spec PyProof.Rows L2 Evl
open PySem.W (alike alikeAll dataLt)
section
variable {X : Cx} {K : PySem.W.Frag} {o i e value : Expr} {pos pos' tpos : Pos} {td ty tv : TE} {k : Nat}
def putK1 (x y v : Sl) (μ : Mu) (Q : Mu → Prop) : Prop := match x, v with
  | .cell k, .dat d => match μ[k]? with
    | some (.dct es) => ∃ z key, rd μ y = some z ∧ keyA z = some key ∧ es.length < sizeLine ∧ Q (μ.set k (.dct (putD es key d)))
    | _ => False
  | _, _ => False
def dDPut (od id vd : DE) : DS := fun D ρ μ => vd ρ μ fun v μ1 => od ρ μ1 fun x μ2 => id ρ μ2 fun y μ3 => putK1 x y v μ3 (D.nx ρ)
def putKT (x v : Sl) (ss : List Sl) (μ : Mu) (Q : Mu → Prop) : Prop := match x, v with
  | .cell k, .dat d => match μ[k]?, datsOf ss with
    | some (.dctT es), some (false, ds) => ∃ ks, keysA ds = some ks ∧ ds.length ≤ sizeLine ∧ es.length < sizeLine ∧ Q (μ.set k (.dctT (putD es ks d)))
    | _, _ => False
  | _, _ => False
def dDPutT (od : DE) (ad : DA) (vd : DE) : DS := fun D ρ μ => vd ρ μ fun v μ1 => od ρ μ1 fun x μ2 => ad ρ μ2 fun ss μ3 => putKT x v ss μ3 (D.nx ρ)
def rInTup (K : PySem.W.Frag) (f : Bool → Bool) : R2 := fun x y H Q => ∃ d ds, Dv K H x d ∧ Dv K H y (.tuple ds) ∧ SeqAt.shaped d = true ∧ SeqAt.shaped (.tuple ds) = true ∧ Q (.bl (f (ds.any fun z => PyData.eqv z d))) H
theorem op_inTup (hu : X.A.units + 128 < cLine) : OpR X (compareOp .In) (rInTup X.K id) := by
  intro pins s σ H x y v u Q I rx ry h
  obtain ⟨d, ds, hd, he, sd, se, q⟩ := h
  obtain ⟨as, r1⟩ := Dv.reads I d x v hd rx
  obtain ⟨bs, r2⟩ := Dv.reads I (.tuple ds) y u he ry
  exact SeqAt.in_tuple_reads r2 r1 (by have := SeqAt.canLay_of_shaped se; simpa [PyData.canLay0] using this) (SeqAt.canLay_of_shaped sd) (room_in_shaped sd (by omega)) ⟨.bl _, H, I, rfl, q⟩
def rInSign (f : Bool → Bool) : R2 := fun x y H Q => ∃ (c : Nat) (z : Str), x = .str ⟨#[c]⟩ ∧ y = .str z ∧ Q (.bl (f (decide (c ∈ z.cps.toList)))) H
def rInAll (K : PySem.W.Frag) (f : Bool → Bool) : R2 := fun x y H Q => (∃ d ds, L2.Dp K H x d ∧ L2.Dp K H y (.list ds) ∧ SeqAt.shaped d = true ∧ SeqAt.shaped (.list ds) = true ∧ Q (.bl (f (ds.any fun z => PyData.eqv z d))) H) ∨ (rInTup K f x y H Q ∨ (rInSign f x y H Q ∨ rDGet K (isin f) y x H Q))
theorem op_inAll (hu : X.A.units + 128 < cLine) : OpR X (compareOp .In) (rInAll X.K id) := (op_inD (by omega)).or ((op_inTup hu).or (op_in_sign.or (op_inDict (by omega))))
def wIn (f : Bool → Bool) : DR2 := fun x y μ Q => match rd μ x, rd μ y with
  | some d, some (.list ds) => (SeqAt.shaped d = true ∧ SeqAt.shaped (.list ds) = true) ∧ Q (.dat (.bool (f (ds.any fun z => PyData.eqv z d)))) μ
  | some d, some (.tuple ds) => (SeqAt.shaped d = true ∧ SeqAt.shaped (.tuple ds) = true) ∧ Q (.dat (.bool (f (ds.any fun z => PyData.eqv z d)))) μ
  | some (.str z), some (.str t) => ∃ c, z = ⟨#[c]⟩ ∧ Q (.dat (.bool (f (decide (c ∈ t.cps.toList))))) μ
  | _, none => dictAt (isinD f) y x μ Q
  | _, _ => False
theorem lr_in {f : Bool → Bool} : LR2 K (rInAll K f) (wIn f) := fun x y μ Q' h W H vx vy r hx hy Q q => by
  unfold wIn at h
  split at h
  · rename_i d ds e1 e2
    exact .inl ⟨d, ds, (rd_dp r hx e1).dpS h.1.1, (rd_dp r hy e2).dpS h.1.2, h.1.1, h.1.2, q.bl r h.2⟩
  · rename_i d ds e1 e2
    exact .inr (.inl ⟨d, ds, rd_dp r hx e1, rd_dp r hy e2, h.1.1, h.1.2, q.bl r h.2⟩)
  · rename_i z t e1 e2
    obtain ⟨c, rfl, h⟩ := h
    cases rd_str r hx e1
    cases rd_str r hy e2
    exact .inr (.inr (.inl ⟨c, t, rfl, rfl, q.bl r h⟩))
  · refine .inr (.inr (.inr (dictAt_ok r hy hx h fun o p hop hp => ?_)))
    rcases hop with ⟨rfl, rfl⟩ | ⟨v, d, rfl, rfl, hd⟩ <;> exact q.bl r hp
  · exact h.elim
variable {es : List Expr} {p : Pos}
def Wd.tup (W : Wd) (b : Addr) (xs : List V) : Wd := ⟨upd W.G b (.tup xs), upd W.F b (.tup xs), W.ad⟩
end
end DL
namespace PySem.AutoSeq1
end PySem.AutoSeq1
namespace DL
open PySem PySem.Spec PyProof.Rows L2 Evl
open PySem.W (alike alikeAll dataLt minD maxD AlikeAll)
section
variable {X : Cx} {K : PySem.W.Frag} {o e : Expr} {es : List Expr} {apos cpos p pos : Pos} {od ed : DE}
def dMt0 (m : DM) (od : DE) : DE := fun ρ μ Q => od ρ μ fun x μ1 => m x [] μ1 Q
theorem DvAll.erase {H : Hp} : ∀ {vs : List V} {ds : List PyData} (i : Nat), DvAll K H vs ds → DvAll K H (vs.eraseIdx i) (ds.eraseIdx i)
  | _, _, _, .nil => .nil
  | _, _, 0, .cons _ t => t
  | _, _, i + 1, .cons a t => .cons a (DvAll.erase i t)
variable {k : Nat}
end
end DL
namespace DL
open PySem PySem.Spec PyProof.Rows L2 Evl
open PySem.W (alike alikeAll dataLt minD maxD AlikeAll AllAlike Sortable dataLe)
section
variable {X : Cx} {K : PySem.W.Frag} {a b : Expr} {p pos p2 pos2 : Pos} {da db : DE}
end
def dPar3 (i j l : Nat) (a : DA) : DS := fun D ρ μ => a ρ μ fun ss μ1 => match ss with
  | [s, t, u] => D.nx (((ρ.set i (some s)).set j (some t)).set l (some u)) μ1
  | _ => False
section
variable {X : Cx}
end
section
variable {ρ : Rho} {μ : Mu} {Q : DQ} {D : DEnds} {a b c d e : DE} {t u : DT} {as : DA} {i j : Int} {x y : PyData} {ds es : List PyData}
@[simp ↓] theorem e_dPar3 {i j l : Nat} : dPar3 i j l as D ρ μ = as ρ μ fun ss μ1 => match ss with | [s, t, u] => D.nx (((ρ.set i (some s)).set j (some t)).set l (some u)) μ1 | _ => False := rfl
@[simp ↓] theorem e_dDct : dDct ρ μ Q = Q (.cell μ.length) (μ ++ [.dct []]) := rfl
@[simp ↓] theorem e_dDctT : dDctT ρ μ Q = Q (.cell μ.length) (μ ++ [.dctT []]) := rfl
@[simp ↓] theorem e_dMt0 {m : DM} : dMt0 m a ρ μ Q = a ρ μ fun x μ1 => m x [] μ1 Q := rfl
@[simp ↓] theorem e_dMtL {m : DM} : dMtL m a as ρ μ Q = a ρ μ fun x μ1 => (∃ ds, rd μ1 x = some (.list ds)) ∧ as ρ μ1 fun ss μ2 => m x ss μ2 Q := rfl
@[simp ↓] theorem e_dDPut : dDPut a b c D ρ μ = c ρ μ fun v μ1 => a ρ μ1 fun x μ2 => b ρ μ2 fun y μ3 => putK1 x y v μ3 (D.nx ρ) := rfl
@[simp ↓] theorem e_dDPutT : dDPutT a as c D ρ μ = c ρ μ fun v μ1 => a ρ μ1 fun x μ2 => as ρ μ2 fun ss μ3 => putKT x v ss μ3 (D.nx ρ) := rfl
@[simp ↓] theorem w_ltI : wLt (.dat (.int i)) (.dat (.int j)) μ Q = Q (.dat (.bool (decide (i < j)))) μ := rfl
@[simp ↓] theorem w_leI : wLe (.dat (.int i)) (.dat (.int j)) μ Q = Q (.dat (.bool (decide (i ≤ j)))) μ := rfl
@[simp ↓] theorem w_gtI : wGt (.dat (.int i)) (.dat (.int j)) μ Q = Q (.dat (.bool (decide (j < i)))) μ := rfl
@[simp ↓] theorem w_geI : wGe (.dat (.int i)) (.dat (.int j)) μ Q = Q (.dat (.bool (decide (j ≤ i)))) μ := rfl
theorem w_inL {f : Bool → Bool} : wIn f (.dat x) (.dat (.list ds)) μ Q = ((SeqAt.shaped x = true ∧ SeqAt.shaped (.list ds) = true) ∧ Q (.dat (.bool (f (ds.any fun z => PyData.eqv z x)))) μ) := rfl
theorem w_inT {f : Bool → Bool} : wIn f (.dat x) (.dat (.tuple ds)) μ Q = ((SeqAt.shaped x = true ∧ SeqAt.shaped (.tuple ds) = true) ∧ Q (.dat (.bool (f (ds.any fun z => PyData.eqv z x)))) μ) := rfl
end
end DL
namespace WL
open PySem PySem.Spec PyProof.Rows L2 Evl DL
abbrev T3 := Int × Int × Int
def tieD (t : T3) : PyData := .tuple [.int t.1, .int t.2.1, .int t.2.2]
def rowI (ns : List Int) : PyData := .tuple (ns.map PyData.int)
def pairD (p : Int × Int) : PyData := .tuple [.int p.1, .int p.2]
def tiesD (ts : List T3) : PyData := .tuple (ts.map tieD)
def webD (many : Int) (ts : List T3) : PyData := .tuple [.str (PySem.Str.ofString "web"), .int many, tiesD ts]
def lexP (p q : Int × Int) : Prop := p.1 < q.1 ∨ (p.1 = q.1 ∧ p.2 < q.2)
instance (p q : Int × Int) : Decidable (lexP p q) := inferInstanceAs (Decidable (_ ∨ _))
def two (t : T3) : Int × Int := (t.1, t.2.1)
structure RowsOk (most : Nat) (many : Int) (ts : List T3) : Prop where
  one : 1 ≤ ts.length
  most : ts.length ≤ most
  in_ : ∀ t ∈ ts, 0 ≤ t.1 ∧ t.1 < t.2.1 ∧ t.2.1 < many ∧ 1 ≤ t.2.2 ∧ t.2.2 ≤ 20
  up : ts.Pairwise fun a b => lexP (two a) (two b)
inductive Reach (ts : List T3) (s : Int) : Int → Prop
  | here : Reach ts s s
  | fwd {p : Int} {t : T3} : Reach ts s p → t ∈ ts → t.1 = p → Reach ts s t.2.1
  | bwd {p : Int} {t : T3} : Reach ts s p → t ∈ ts → t.2.1 = p → Reach ts s t.1
structure WebOk (many : Int) (ts : List T3) : Prop where
  lo : 2 ≤ many
  hi : many ≤ 8
  rows : RowsOk 14 many ts
  joined : ∀ p : Int, 0 ≤ p → p < many → Reach ts 0 p
def isW : PyData → Bool
  | .int _ => true
  | _ => false
def withinB (d : PyData) (lo hi : Int) : Bool := match d with
  | .int i => decide (lo ≤ i) && decide (i ≤ hi)
  | _ => false
def ph_is_integer : DF := fun ss μ Q => ∃ d, ss = [.dat d] ∧ Q (.dat (.bool (isW d))) μ
def ph_is_within : DF := fun ss μ Q => ∃ d lo hi, ss = [.dat d, .dat (.int lo), .dat (.int hi)] ∧ Q (.dat (.bool (withinB d lo hi))) μ
def tupOfB (d : PyData) (n : Int) : Bool := match d with
  | .tuple ds => decide ((ds.length : Int) = n)
  | _ => false
def ph_is_tuple_of : DF := fun ss μ Q => ∃ d n, ss = [.dat d, .dat (.int n)] ∧ Q (.dat (.bool (tupOfB d n))) μ
def headB (d : PyData) (w : Str) (n : Int) : Bool := match d with
  | .tuple (.str z :: r) => decide (((r.length + 1 : Nat) : Int) = n) && decide (z = w)
  | _ => false
def ph_is_headed : DF := fun ss μ Q => ∃ d w n, ss = [.dat d, .dat (.str w), .dat (.int n)] ∧ 1 ≤ n ∧ Q (.dat (.bool (headB d w n))) μ
def farD (t : T3) (p : Int) : PyData := if t.1 = p then .int t.2.1 else if t.2.1 = p then .int t.1 else .none
def ph_far_end : DF := fun ss μ Q => ∃ t p, ss = [.dat (tieD t), .dat (.int p)] ∧ Q (.dat (farD t p)) μ
def Small (ts : List T3) : Prop := ts.length ≤ 40 ∧ ∀ t ∈ ts, (0 ≤ t.1 ∧ t.1 < 8) ∧ (0 ≤ t.2.1 ∧ t.2.1 < 8)
def Sq1 (s : Sl) (c : List Int) : Prop := s = .dat (rowI c) ∨ s = .dat (.list (c.map PyData.int))
def pairB (x y : PyData) (many : Int) : Bool := withinB x 0 (many - 1) && (withinB y 0 (many - 1) && match x, y with | .int i, .int j => decide (i < j) | _, _ => false)
def ph_is_pair : DF := fun ss μ Q => ∃ x y r many, ss = [.dat (.tuple (x :: y :: r)), .dat (.int many)] ∧ Q (.dat (.bool (pairB x y many))) μ
def ph_is_web : DF := fun ss μ Q => ∃ many ts, ss = [.dat (webD many ts)] ∧ WebOk many ts ∧ Q (.dat (.bool true)) μ
def ph_check_web : DF := fun ss μ Q => ∃ many ts, ss = [.dat (webD many ts)] ∧ WebOk many ts ∧ Q (.dat .none) μ
def ph_check_place : DF := fun ss μ Q => ∃ many ts p, ss = [.dat (webD many ts), .dat (.int p)] ∧ (0 ≤ p ∧ p < many) ∧ Q (.dat .none) μ
def ph_check_two : DF := fun ss μ Q => ∃ many ts p q, ss = [.dat (webD many ts), .dat (.int p), .dat (.int q)] ∧ (WebOk many ts ∧ (0 ≤ p ∧ p < many) ∧ (0 ≤ q ∧ q < many) ∧ p ≠ q) ∧ Q (.dat .none) μ
def lots : Nat → List (List Int)
  | 0 => [[]]
  | k + 1 => lots k ++ (lots k).map (· ++ [((k + 1 : Nat) : Int)])
def ltL (a b : List Int) : Bool := decide (a < b)
def insL (x : List Int) : List (List Int) → List (List Int)
  | [] => [x]
  | y :: r => if ltL y x = true then y :: insL x r else x :: y :: r
def sortL : List (List Int) → List (List Int)
  | [] => []
  | x :: r => insL x (sortL r)
def cutsL (many : Nat) : List (List Int) := sortL ((lots (many - 1)).filter fun c => !c.isEmpty)
def acrossB (c : List Int) (t : T3) : Bool := decide (t.1 ∈ c) != decide (t.2.1 ∈ c)
def roomL (ts : List T3) (c : List Int) : Int := ((ts.filter (acrossB c)).map (·.2.2)).sum
def beyondL (many : Int) (c : List Int) : List Int := ((List.range many.toNat).map fun (i : Nat) => (i : Int)).filter fun p => !decide (p ∈ c)
def Cut (many : Int) (c : List Int) : Prop := c.Pairwise (· < ·) ∧ (∀ p ∈ c, 1 ≤ p ∧ p < many) ∧ c ≠ []
def SmallL (c : List Int) : Prop := c.length ≤ 100
def ph_cuts_of_many : DF := fun ss μ Q => ∃ n : Nat, ss = [.dat (.int (n : Int))] ∧ (2 ≤ n ∧ n ≤ 8) ∧ Q (.dat (.list ((cutsL n).map rowI))) μ
def ph_is_across : DF := fun ss μ Q => ∃ c s t, ss = [.dat (rowI c), s] ∧ (s = .dat (tieD t) ∨ s = .dat (pairD (two t))) ∧ SmallL c ∧ Q (.dat (.bool (acrossB c t))) μ
def ph_sum_across : DF := fun ss μ Q => ∃ ts c, ss = [.dat (tiesD ts), .dat (rowI c)] ∧ (SmallL c ∧ ts.length ≤ 100) ∧ Q (.dat (.int (roomL ts c))) μ
def ph_places_beyond : DF := fun ss μ Q => ∃ many s c, ss = [.dat (.int many), s] ∧ Sq1 s c ∧ (SmallL c ∧ 0 ≤ many ∧ many ≤ 100) ∧ Q (.dat (.list ((beyondL many c).map PyData.int))) μ
def cutSide (many : Int) (c : List Int) : List Int := if 0 ∈ c then beyondL many c else c
def ph_cut_with_side : DF := fun ss μ Q => ∃ many c, ss = [.dat (.int many), .dat (.list (c.map PyData.int))] ∧ (SmallL c ∧ c.Pairwise (· < ·) ∧ 0 ≤ many ∧ many ≤ 100) ∧ Q (.dat (rowI (cutSide many c))) μ
def sideW (many : Int) (c : List Int) (p : Int) : List Int := if p ∈ c then c else beyondL many c
def ph_side_with : DF := fun ss μ Q => ∃ many c p, ss = [.dat (.int many), .dat (rowI c), .dat (.int p)] ∧ (SmallL c ∧ 0 ≤ many ∧ many ≤ 100) ∧ Q (.dat (.list ((sideW many c p).map PyData.int))) μ
def Pot (μ : Mu) (k : Nat) : Prop := ∃ p0 p1 : Int, μ[k]? = some (.lst [.int p0, .int p1]) ∧ 0 ≤ p0 ∧ 0 ≤ p1 ∧ p1 < 2 ^ 40
def Ch (k : Nat) (μ μ' : Mu) : Prop := Pot μ' k ∧ μ'.length = μ.length ∧ ∀ j, j ≠ k → μ'[j]? = μ[j]?
def ph_law_pot : DF := fun ss μ Q => ∃ (ns : List Int) (k : Int), ss = [.dat (.list (ns.map PyData.int)), .dat (.int k)] ∧ (0 ≤ k ∧ k ≤ 100) ∧ ∀ p0 p1 : Int, 0 ≤ p0 → 0 ≤ p1 → p1 < 2 ^ 40 → Q (.cell μ.length) (μ ++ [.lst [.int p0, .int p1]])
def ph_law_draw : DF := fun ss μ Q => ∃ k n, ss = [.cell k, .dat (.int n)] ∧ Pot μ k ∧ (0 < n ∧ n < 2 ^ 100) ∧ ∀ x μ', 0 ≤ x → x < n → Ch k μ μ' → Q (.dat (.int x)) μ'
def ph_law_pick : DF := fun ss μ Q => ∃ k ds, ss = [.cell k, .dat (.list ds)] ∧ Pot μ k ∧ (0 < ds.length ∧ ds.length ≤ 1000) ∧ ∀ x μ', x ∈ ds → Ch k μ μ' → Q (.dat x) μ'
def ph_law_web : DF := fun ss μ Q => ∃ k many further room, ss = [.cell k, .dat (.int many), .dat (.int further), .dat (.int room)] ∧ Pot μ k ∧ ((2 ≤ many ∧ many ≤ 8) ∧ (0 ≤ further ∧ further + many ≤ 15) ∧ (1 ≤ room ∧ room ≤ 20)) ∧
  ∀ ts μ', WebOk many ts → (∀ t ∈ ts, t.2.2 ≤ room) → Ch k μ μ' → Q (.dat (webD many ts)) μ'
def ph_law_cuts : DF := ph_cuts_of_many
def ph_law_over : DF := ph_sum_across
def ph_law_side : DF := fun ss μ Q => ∃ many c p, ss = [.dat (.int many), .dat (rowI c), .dat (.int p)] ∧ (SmallL c ∧ 0 ≤ many ∧ many ≤ 100) ∧ Q (.dat (rowI (sideW many c p))) μ
end WL
namespace WL
open PySem PySem.Spec PyProof.Rows L2 Evl DL
def ds_is_integer : DS := (dRet (dAndV (dUn (fIsi .int) (dVar 0)) (dNotV (dUn (fIsi .bool) (dVar 0)))))
def ds_is_tuple_of : DS := (dRet (dAndV (dUn (fIsi .tup) (dVar 0)) (dOp rEq (dCB fLen (aCons (dVar 0) aNil)) (dVar 1))))
def ds_law_pick : DS := (dRet (dOp rIx (dVar 1) (dCall 2 ph_law_draw (aCons (dVar 0) (aCons (dCB fLen (aCons (dVar 1) aNil)) aNil)))))
end WL
namespace WL
open PySem PySem.Spec PyProof.Rows L2 Evl DL
theorem rowI_inj {a b : List Int} (h : rowI a = rowI b) : a = b := (List.map_inj_right (fun _ _ h => PyData.int.inj h)).mp (PyData.tuple.inj h)
theorem ints_inj {a b : List Int} (h : a.map PyData.int = b.map PyData.int) : a = b := (List.map_inj_right (fun _ _ h => PyData.int.inj h)).mp h
theorem tieD_inj {a b : T3} (h : tieD a = tieD b) : a = b := by
  obtain ⟨a1, a2, a3⟩ := a
  obtain ⟨b1, b2, b3⟩ := b
  cases h
  rfl
theorem pairD_inj {a b : Int × Int} (h : pairD a = pairD b) : a = b := by
  obtain ⟨a1, a2⟩ := a
  obtain ⟨b1, b2⟩ := b
  cases h
  rfl
theorem ties_inj {a b : List T3} (h : a.map tieD = b.map tieD) : a = b := (List.map_inj_right (fun _ _ h => tieD_inj h)).mp h
theorem tiesD_inj {a b : List T3} (h : tiesD a = tiesD b) : a = b := ties_inj (PyData.tuple.inj h)
theorem webD_inj {m n : Int} {a b : List T3} (h : webD m a = webD n b) : m = n ∧ a = b := by
  have := PyData.tuple.inj h
  simp only [List.cons.injEq, PyData.int.injEq, and_true, true_and] at this
  exact ⟨this.1, tiesD_inj this.2⟩
theorem dr_inj {s t : PyData} {r r' : List Sl} (h : Sl.dat s :: r = Sl.dat t :: r') : s = t ∧ r = r' := by cases h; exact ⟨rfl, rfl⟩
theorem sh_row {c : List Int} : Sh 1 (rowI c) := Sh.tup fun x hx => by
  obtain ⟨i, _, rfl⟩ := List.mem_map.mp hx
  exact .int
theorem sh_ints {c : List Int} : Sh 1 (.list (c.map PyData.int)) := Sh.list fun x hx => by
  obtain ⟨i, _, rfl⟩ := List.mem_map.mp hx
  exact .int
theorem sh_rows {cs : List (List Int)} : Sh 2 (.list (cs.map rowI)) := Sh.list fun x hx => by
  obtain ⟨i, _, rfl⟩ := List.mem_map.mp hx
  exact sh_row
theorem any_int {c : List Int} {i : Int} : ((c.map PyData.int).any fun z => PyData.eqv z (.int i)) = decide (i ∈ c) := by
  induction c with
  | nil => rfl
  | cons a r ih =>
    rw [List.map_cons, List.any_cons, ih]
    have : PyData.eqv (.int a) (.int i) = decide (a = i) := by
      simp only [PyData.eqv]
      exact Bool.beq_eq_decide_eq a i
    rw [this]
    by_cases h : i = a
    · subst h; simp
    · have h' : ¬ a = i := fun z => h z.symm
      simp [h, h']
section
variable {μ : Mu} {Q : DQ} {c : List Int} {i j n lo hi : Int} {x y : PyData} {t : T3} {f : Bool → Bool} {ts : List T3} {w : Str}
@[simp ↓] theorem in_row : wIn f (.dat (.int i)) (.dat (rowI c)) μ Q = Q (.dat (.bool (f (decide (i ∈ c))))) μ := by
  unfold rowI
  rw [w_inT, any_int]
  exact propext ⟨fun z => z.2, fun z => ⟨⟨(Sh.int (n := 0)).ok (by decide), sh_row.ok (by decide)⟩, z⟩⟩
@[simp ↓] theorem in_ints : wIn f (.dat (.int i)) (.dat (.list (c.map PyData.int))) μ Q = Q (.dat (.bool (f (decide (i ∈ c))))) μ := by
  rw [w_inL, any_int]
  exact propext ⟨fun z => z.2, fun z => ⟨⟨(Sh.int (n := 0)).ok (by decide), sh_ints.ok (by decide)⟩, z⟩⟩
@[simp ↓] theorem ix_t0 : DL.rIx (.dat (tieD t)) (.dat (.int 0)) μ Q = Q (.dat (.int t.1)) μ := propext ⟨fun ⟨d, e, h⟩ => by cases e; exact h, fun h => ⟨_, rfl, h⟩⟩
@[simp ↓] theorem ix_t1 : DL.rIx (.dat (tieD t)) (.dat (.int 1)) μ Q = Q (.dat (.int t.2.1)) μ := propext ⟨fun ⟨d, e, h⟩ => by cases e; exact h, fun h => ⟨_, rfl, h⟩⟩
@[simp ↓] theorem ix_t2 : DL.rIx (.dat (tieD t)) (.dat (.int 2)) μ Q = Q (.dat (.int t.2.2)) μ := propext ⟨fun ⟨d, e, h⟩ => by cases e; exact h, fun h => ⟨_, rfl, h⟩⟩
@[simp ↓] theorem ix_p0 {p : Int × Int} : DL.rIx (.dat (pairD p)) (.dat (.int 0)) μ Q = Q (.dat (.int p.1)) μ := propext ⟨fun ⟨d, e, h⟩ => by cases e; exact h, fun h => ⟨_, rfl, h⟩⟩
@[simp ↓] theorem ix_p1 {p : Int × Int} : DL.rIx (.dat (pairD p)) (.dat (.int 1)) μ Q = Q (.dat (.int p.2)) μ := propext ⟨fun ⟨d, e, h⟩ => by cases e; exact h, fun h => ⟨_, rfl, h⟩⟩
@[simp ↓] theorem ix_w0 : DL.rIx (.dat (webD n ts)) (.dat (.int 0)) μ Q = Q (.dat (.str (PySem.Str.ofString "web"))) μ := propext ⟨fun ⟨d, e, h⟩ => by cases e; exact h, fun h => ⟨_, rfl, h⟩⟩
@[simp ↓] theorem ix_w1 : DL.rIx (.dat (webD n ts)) (.dat (.int 1)) μ Q = Q (.dat (.int n)) μ := propext ⟨fun ⟨d, e, h⟩ => by cases e; exact h, fun h => ⟨_, rfl, h⟩⟩
@[simp ↓] theorem ix_w2 : DL.rIx (.dat (webD n ts)) (.dat (.int 2)) μ Q = Q (.dat (tiesD ts)) μ := propext ⟨fun ⟨d, e, h⟩ => by cases e; exact h, fun h => ⟨_, rfl, h⟩⟩
theorem atI0 {α : Type} {x : α} {r : List α} : atI (x :: r) 0 = some x := atI_nat (xs := x :: r) (j := 0) rfl
theorem atI1 {α : Type} {x y : α} {r : List α} : atI (x :: y :: r) 1 = some y := atI_nat (xs := x :: y :: r) (j := 1) rfl
theorem rix_t {ds : List PyData} {d : PyData} (e : atI ds i = some d) : DL.rIx (.dat (.tuple ds)) (.dat (.int i)) μ Q = Q (.dat d) μ := by
  simp only [DL.rIx, e_rdD, e, Option.some.injEq, exists_eq_left', e_eltD]
@[simp ↓] theorem ix_0 {r : List PyData} : DL.rIx (.dat (.tuple (x :: r))) (.dat (.int 0)) μ Q = Q (.dat x) μ := rix_t atI0
@[simp ↓] theorem ix_1 {r : List PyData} : DL.rIx (.dat (.tuple (x :: y :: r))) (.dat (.int 1)) μ Q = Q (.dat y) μ := rix_t atI1
@[simp ↓] theorem c_is_integer : ph_is_integer [.dat x] μ Q = Q (.dat (.bool (isW x))) μ := propext ⟨fun ⟨_, e, h⟩ => by cases e; exact h, fun h => ⟨_, rfl, h⟩⟩
@[simp ↓] theorem c_is_within : ph_is_within [.dat x, .dat (.int lo), .dat (.int hi)] μ Q = Q (.dat (.bool (withinB x lo hi))) μ := propext ⟨fun ⟨_, _, _, e, h⟩ => by cases e; exact h, fun h => ⟨_, _, _, rfl, h⟩⟩
@[simp ↓] theorem c_is_tuple_of : ph_is_tuple_of [.dat x, .dat (.int n)] μ Q = Q (.dat (.bool (tupOfB x n))) μ := propext ⟨fun ⟨_, _, e, h⟩ => by cases e; exact h, fun h => ⟨_, _, rfl, h⟩⟩
@[simp ↓] theorem c_is_headed : ph_is_headed [.dat x, .dat (.str w), .dat (.int n)] μ Q = (1 ≤ n ∧ Q (.dat (.bool (headB x w n))) μ) := propext ⟨fun ⟨_, _, _, e, h⟩ => by cases e; exact h, fun h => ⟨_, _, _, rfl, h⟩⟩
@[simp ↓] theorem c_far_end : ph_far_end [.dat (tieD t), .dat (.int i)] μ Q = Q (.dat (farD t i)) μ := propext ⟨fun ⟨_, _, e, h⟩ => by
  obtain ⟨e1, e2⟩ := dr_inj e
  cases tieD_inj e1
  cases e2
  exact h, fun h => ⟨_, _, rfl, h⟩⟩
@[simp ↓] theorem c_is_pair {r : List PyData} : ph_is_pair [.dat (.tuple (x :: y :: r)), .dat (.int n)] μ Q = Q (.dat (.bool (pairB x y n))) μ := propext ⟨fun ⟨_, _, _, _, e, h⟩ => by cases e; exact h, fun h => ⟨_, _, _, _, rfl, h⟩⟩
@[simp ↓] theorem c_is_pairT : ph_is_pair [.dat (tieD t), .dat (.int n)] μ Q = Q (.dat (.bool (pairB (.int t.1) (.int t.2.1) n))) μ := c_is_pair
@[simp ↓] theorem c_check_web : ph_check_web [.dat (webD n ts)] μ Q = (WebOk n ts ∧ Q (.dat .none) μ) := propext ⟨fun ⟨_, _, e, h⟩ => by
  obtain ⟨rfl, rfl⟩ := webD_inj (dr_inj e).1
  exact h, fun h => ⟨_, _, rfl, h⟩⟩
@[simp ↓] theorem c_is_web : ph_is_web [.dat (webD n ts)] μ Q = (WebOk n ts ∧ Q (.dat (.bool true)) μ) := propext ⟨fun ⟨_, _, e, h⟩ => by
  obtain ⟨rfl, rfl⟩ := webD_inj (dr_inj e).1
  exact h, fun h => ⟨_, _, rfl, h⟩⟩
@[simp ↓] theorem c_check_place : ph_check_place [.dat (webD n ts), .dat (.int i)] μ Q = ((0 ≤ i ∧ i < n) ∧ Q (.dat .none) μ) := propext ⟨fun ⟨_, _, _, e, h⟩ => by
  obtain ⟨e1, e2⟩ := dr_inj e
  obtain ⟨rfl, rfl⟩ := webD_inj e1
  cases e2
  exact h, fun h => ⟨_, _, _, rfl, h⟩⟩
@[simp ↓] theorem c_check_two : ph_check_two [.dat (webD n ts), .dat (.int i), .dat (.int j)] μ Q = ((WebOk n ts ∧ (0 ≤ i ∧ i < n) ∧ (0 ≤ j ∧ j < n) ∧ i ≠ j) ∧ Q (.dat .none) μ) := propext ⟨fun ⟨_, _, _, _, e, h⟩ => by
  obtain ⟨e1, e2⟩ := dr_inj e
  obtain ⟨rfl, rfl⟩ := webD_inj e1
  cases e2
  exact h, fun h => ⟨_, _, _, _, rfl, h⟩⟩
@[simp ↓] theorem c_cuts_of_many {n : Nat} : ph_cuts_of_many [.dat (.int (n : Int))] μ Q = ((2 ≤ n ∧ n ≤ 8) ∧ Q (.dat (.list ((cutsL n).map rowI))) μ) := propext ⟨fun ⟨_, e, h⟩ => by
  have : n = _ := Int.ofNat.inj (PyData.int.inj (dr_inj e).1)
  subst this
  exact h, fun h => ⟨_, rfl, h⟩⟩
@[simp ↓] theorem c_is_across : ph_is_across [.dat (rowI c), .dat (tieD t)] μ Q = (SmallL c ∧ Q (.dat (.bool (acrossB c t))) μ) := propext ⟨fun ⟨_, s, t', e, hs, h⟩ => by
  obtain ⟨e1, e2⟩ := dr_inj e
  cases rowI_inj e1
  rcases hs with rfl | rfl
  · cases tieD_inj (dr_inj e2).1
    exact h
  · exact absurd (congrArg (fun d => match d with | PyData.tuple ds => ds.length | _ => 0) (dr_inj e2).1) (by simp [tieD, pairD]), fun h => ⟨_, _, _, rfl, .inl rfl, h⟩⟩
@[simp ↓] theorem c_is_acrossP {p : Int × Int} : ph_is_across [.dat (rowI c), .dat (pairD p)] μ Q = (SmallL c ∧ Q (.dat (.bool (acrossB c (p.1, p.2, 0)))) μ) := propext ⟨fun ⟨_, s, t', e, hs, h⟩ => by
  obtain ⟨e1, e2⟩ := dr_inj e
  cases rowI_inj e1
  rcases hs with rfl | rfl
  · exact absurd (congrArg (fun d => match d with | PyData.tuple ds => ds.length | _ => 0) (dr_inj e2).1) (by simp [tieD, pairD])
  · cases pairD_inj (dr_inj e2).1
    exact h, fun h => ⟨_, _, (p.1, p.2, 0), rfl, .inr rfl, h⟩⟩
@[simp ↓] theorem c_sum_across : ph_sum_across [.dat (tiesD ts), .dat (rowI c)] μ Q = ((SmallL c ∧ ts.length ≤ 100) ∧ Q (.dat (.int (roomL ts c))) μ) := propext ⟨fun ⟨_, _, e, h⟩ => by
  obtain ⟨e1, e2⟩ := dr_inj e
  cases tiesD_inj e1
  cases rowI_inj (dr_inj e2).1
  exact h, fun h => ⟨_, _, rfl, h⟩⟩
@[simp ↓] theorem c_law_over : ph_law_over [.dat (tiesD ts), .dat (rowI c)] μ Q = ((SmallL c ∧ ts.length ≤ 100) ∧ Q (.dat (.int (roomL ts c))) μ) := c_sum_across
@[simp ↓] theorem c_law_cuts {n : Nat} : ph_law_cuts [.dat (.int (n : Int))] μ Q = ((2 ≤ n ∧ n ≤ 8) ∧ Q (.dat (.list ((cutsL n).map rowI))) μ) := c_cuts_of_many
theorem sq1_inj {s : Sl} {c d : List Int} (h : Sq1 s c) (g : Sq1 s d) : c = d := by
  rcases h with rfl | rfl <;> rcases g with e | e
  · exact rowI_inj (Sl.dat.inj e)
  · cases e
  · cases e
  · exact ints_inj (PyData.list.inj (Sl.dat.inj e))
theorem c_places_beyond {s : Sl} (hs : Sq1 s c) : ph_places_beyond [.dat (.int n), s] μ Q = ((SmallL c ∧ 0 ≤ n ∧ n ≤ 100) ∧ Q (.dat (.list ((beyondL n c).map PyData.int))) μ) := propext ⟨fun ⟨_, _, _, e, hs', h⟩ => by
  cases e
  cases sq1_inj hs hs'
  exact h, fun h => ⟨_, _, _, rfl, hs, h⟩⟩
@[simp ↓] theorem c_places_beyondR : ph_places_beyond [.dat (.int n), .dat (rowI c)] μ Q = ((SmallL c ∧ 0 ≤ n ∧ n ≤ 100) ∧ Q (.dat (.list ((beyondL n c).map PyData.int))) μ) := c_places_beyond (.inl rfl)
@[simp ↓] theorem c_places_beyondL : ph_places_beyond [.dat (.int n), .dat (.list (c.map PyData.int))] μ Q = ((SmallL c ∧ 0 ≤ n ∧ n ≤ 100) ∧ Q (.dat (.list ((beyondL n c).map PyData.int))) μ) := c_places_beyond (.inr rfl)
@[simp ↓] theorem c_cut_with_side : ph_cut_with_side [.dat (.int n), .dat (.list (c.map PyData.int))] μ Q = ((SmallL c ∧ c.Pairwise (· < ·) ∧ 0 ≤ n ∧ n ≤ 100) ∧ Q (.dat (rowI (cutSide n c))) μ) := propext ⟨fun ⟨_, _, e, h⟩ => by
  obtain ⟨e1, e2⟩ := dr_inj e
  cases e1
  cases ints_inj (PyData.list.inj (dr_inj e2).1)
  exact h, fun h => ⟨_, _, rfl, h⟩⟩
@[simp ↓] theorem c_side_with : ph_side_with [.dat (.int n), .dat (rowI c), .dat (.int i)] μ Q = ((SmallL c ∧ 0 ≤ n ∧ n ≤ 100) ∧ Q (.dat (.list ((sideW n c i).map PyData.int))) μ) := propext ⟨fun ⟨_, _, _, e, h⟩ => by
  obtain ⟨e1, e2⟩ := dr_inj e
  cases e1
  obtain ⟨e3, e4⟩ := dr_inj e2
  cases rowI_inj e3
  cases e4
  exact h, fun h => ⟨_, _, _, rfl, h⟩⟩
@[simp ↓] theorem c_law_side : ph_law_side [.dat (.int n), .dat (rowI c), .dat (.int i)] μ Q = ((SmallL c ∧ 0 ≤ n ∧ n ≤ 100) ∧ Q (.dat (rowI (sideW n c i))) μ) := propext ⟨fun ⟨_, _, _, e, h⟩ => by
  obtain ⟨e1, e2⟩ := dr_inj e
  cases e1
  obtain ⟨e3, e4⟩ := dr_inj e2
  cases rowI_inj e3
  cases e4
  exact h, fun h => ⟨_, _, _, rfl, h⟩⟩
variable {k : Nat}
@[simp ↓] theorem c_law_draw : ph_law_draw [.cell k, .dat (.int n)] μ Q = (Pot μ k ∧ (0 < n ∧ n < 2 ^ 100) ∧ ∀ x μ', 0 ≤ x → x < n → Ch k μ μ' → Q (.dat (.int x)) μ') := propext ⟨fun ⟨_, _, e, h⟩ => by cases e; exact h, fun h => ⟨_, _, rfl, h⟩⟩
@[simp ↓] theorem c_law_pick {ds : List PyData} : ph_law_pick [.cell k, .dat (.list ds)] μ Q = (Pot μ k ∧ (0 < ds.length ∧ ds.length ≤ 1000) ∧ ∀ x μ', x ∈ ds → Ch k μ μ' → Q (.dat x) μ') := propext ⟨fun ⟨_, _, e, h⟩ => by cases e; exact h, fun h => ⟨_, _, rfl, h⟩⟩
@[simp ↓] theorem c_law_web {further room : Int} : ph_law_web [.cell k, .dat (.int n), .dat (.int further), .dat (.int room)] μ Q = (Pot μ k ∧ ((2 ≤ n ∧ n ≤ 8) ∧ (0 ≤ further ∧ further + n ≤ 15) ∧ (1 ≤ room ∧ room ≤ 20)) ∧
  ∀ ts μ', WebOk n ts → (∀ t ∈ ts, t.2.2 ≤ room) → Ch k μ μ' → Q (.dat (webD n ts)) μ') := propext ⟨fun ⟨_, _, _, _, e, h⟩ => by cases e; exact h, fun h => ⟨_, _, _, _, rfl, h⟩⟩
@[simp ↓] theorem c_law_pot {ns : List Int} : ph_law_pot [.dat (.list (ns.map PyData.int)), .dat (.int n)] μ Q = ((0 ≤ n ∧ n ≤ 100) ∧ ∀ p0 p1 : Int, 0 ≤ p0 → 0 ≤ p1 → p1 < 2 ^ 40 → Q (.cell μ.length) (μ ++ [.lst [.int p0, .int p1]])) :=
  propext ⟨fun ⟨_, _, e, h⟩ => by
    obtain ⟨e1, e2⟩ := dr_inj e
    cases ints_inj (PyData.list.inj e1)
    cases e2
    exact h, fun h => ⟨_, _, rfl, h⟩⟩
end
end WL
namespace WL
open PySem PySem.Spec PyProof.Rows L2 Evl DL
@[simp ↓ high] theorem o_rowT {c : List Int} {μ : Mu} {Q : DQ} : fTuple [.dat (.list (c.map PyData.int))] μ Q = Q (.dat (rowI c)) μ := rfl
@[simp ↓ high] theorem o_listR {c : List Int} {μ : Mu} {Q : DQ} : fList [.dat (rowI c)] μ Q = Q (.dat (.list (c.map PyData.int))) μ := rfl
theorem sz : ∀ {n : Nat}, n ≤ 1000 → n ≤ sizeLine := fun h => small_sz h
theorem pu_is_integer : Pure ["value"] 1 ph_is_integer ds_is_integer := by
  intro ss μ Q' hl h
  obtain ⟨d, rfl, h⟩ := h
  cases d <;> simpa [ds_is_integer, startD, isTy, isW] using h
theorem pu_is_tuple_of : Pure ["value", "many"] 2 ph_is_tuple_of ds_is_tuple_of := by
  intro ss μ Q' hl h
  obtain ⟨d, n, rfl, h⟩ := h
  cases d <;> simpa [ds_is_tuple_of, startD, isTy, tupOfB] using h
theorem pu_law_pick : Pure ["pot", "some"] 2 ph_law_pick ds_law_pick := by
  intro ss μ Q' hl h
  obtain ⟨k, ds, rfl, hp, hs, h⟩ := h
  simp [ds_law_pick, startD, hp, hs]
  refine ⟨by omega, fun x μ' h0 h1 hc => ?_⟩
  obtain ⟨d, hd, e⟩ := atI_lt h0 h1
  rw [rix_l e]
  show Q' (.dat d) (μ'.take μ.length)
  rw [List.take_of_length_le (by rw [hc.2.1]; exact Nat.le_refl _)]
  exact h d μ' hd hc
end WL
namespace WL
open PySem PySem.Spec PyProof.Rows L2 Evl DL
open PySem.W (dataLt dataLe alike alikeAll AllAlike Sortable)
end WL
namespace WL
open PySem PySem.Spec PyProof.Rows L2 Evl DL
open PySem.W (dataLt dataLe alike alikeAll AllAlike Sortable)
end WL
namespace WL
open PySem PySem.Spec PyProof.Rows L2 Evl DL
open PySem.W (dataLt dataLe alike alikeAll AllAlike Sortable)
theorem perm_sorted_eq {α : Type} {le : α → α → Prop} (anti : ∀ a b, le a b → le b a → a = b) : ∀ {l m : List α}, l.Perm m → l.Pairwise le → m.Pairwise le → l = m
  | [], m, h, _, _ => (List.Perm.eq_nil h.symm).symm
  | x :: l, [], h, _, _ => absurd h.length_eq (by simp)
  | x :: l, y :: m, h, hl, hm => by
    have a1 : y ∈ x :: l := h.mem_iff.mpr (List.mem_cons_self ..)
    have a2 : x ∈ y :: m := h.mem_iff.mp (List.mem_cons_self ..)
    have e : x = y := by
      rcases List.mem_cons.mp a1 with e | e
      · exact e.symm
      · rcases List.mem_cons.mp a2 with e' | e'
        · exact e'
        · exact anti x y ((List.pairwise_cons.mp hl).1 y e) ((List.pairwise_cons.mp hm).1 x e')
    subst e
    rw [perm_sorted_eq anti h.cons_inv (List.pairwise_cons.mp hl).2 (List.pairwise_cons.mp hm).2]
def leL (a b : List Int) : Bool := !ltL b a
theorem leL_iff {a b : List Int} : leL a b = true ↔ a ≤ b := by
  unfold leL ltL
  rw [Bool.not_eq_true', decide_eq_false_iff_not]
  exact Iff.rfl
theorem leL_tr (a b c : List Int) (h : leL a b = true) (g : leL b c = true) : leL a c = true := leL_iff.mpr (List.le_trans (leL_iff.mp h) (leL_iff.mp g))
theorem leL_anti (a b : List Int) (h : leL a b = true) (g : leL b a = true) : a = b := List.le_antisymm (leL_iff.mp h) (leL_iff.mp g)
theorem insL_perm (x : List Int) : ∀ l : List (List Int), (insL x l).Perm (x :: l)
  | [] => List.Perm.refl _
  | y :: r => by
    unfold insL
    split
    · exact ((insL_perm x r).cons y).trans (List.Perm.swap x y r)
    · exact List.Perm.refl _
theorem sortL_perm : ∀ l : List (List Int), (sortL l).Perm l
  | [] => List.Perm.refl _
  | x :: r => (insL_perm x (sortL r)).trans ((sortL_perm r).cons x)
theorem insL_sorted {x : List Int} : ∀ {l : List (List Int)}, l.Pairwise (fun a b => leL a b = true) → (insL x l).Pairwise fun a b => leL a b = true
  | [], _ => List.pairwise_singleton _ _
  | y :: r, h => by
    obtain ⟨h1, h2⟩ := List.pairwise_cons.mp h
    unfold insL
    split
    · rename_i c
      have yx : leL y x = true := by
        rw [leL_iff]
        exact List.le_of_lt (of_decide_eq_true c)
      refine List.pairwise_cons.mpr ⟨fun z hz => ?_, insL_sorted h2⟩
      rcases List.mem_cons.mp ((insL_perm x r).mem_iff.mp hz) with rfl | hz
      · exact yx
      · exact h1 z hz
    · rename_i c
      have xy : leL x y = true := by
        unfold leL
        rw [Bool.not_eq_true']
        exact Bool.eq_false_iff.mpr c
      refine List.pairwise_cons.mpr ⟨fun z hz => ?_, h⟩
      rcases List.mem_cons.mp hz with rfl | hz
      · exact xy
      · exact leL_tr _ _ _ xy (h1 z hz)
theorem sortL_sorted : ∀ l : List (List Int), (sortL l).Pairwise fun a b => leL a b = true
  | [] => .nil
  | x :: r => insL_sorted (sortL_sorted r)
theorem lots_len : ∀ k, (lots k).length = 2 ^ k
  | 0 => rfl
  | k + 1 => by
    show (lots k ++ (lots k).map _).length = _
    rw [List.length_append, List.length_map, lots_len k, Nat.pow_succ]
    omega
theorem mem_lots : ∀ (k : Nat) (c : List Int), c ∈ lots k ↔ c.Pairwise (· < ·) ∧ ∀ p ∈ c, 1 ≤ p ∧ p ≤ (k : Int)
  | 0, c => by
    constructor
    · intro h
      rw [List.mem_singleton.mp h]
      exact ⟨.nil, fun p hp => by cases hp⟩
    · rintro ⟨_, h⟩
      cases c with
      | nil => exact List.mem_singleton.mpr rfl
      | cons p r => have := h p (List.mem_cons_self ..); omega
  | k + 1, c => by
    show c ∈ lots k ++ (lots k).map _ ↔ _
    rw [List.mem_append, List.mem_map]
    constructor
    · rintro (h | ⟨d, h, rfl⟩)
      · obtain ⟨h1, h2⟩ := (mem_lots k c).mp h
        exact ⟨h1, fun p hp => by have := h2 p hp; omega⟩
      · obtain ⟨h1, h2⟩ := (mem_lots k d).mp h
        refine ⟨List.pairwise_append.mpr ⟨h1, List.pairwise_singleton _ _, fun a ha b hb => ?_⟩, fun p hp => ?_⟩
        · rw [List.mem_singleton.mp hb]
          have := h2 a ha
          omega
        · rcases List.mem_append.mp hp with hp | hp
          · have := h2 p hp
            omega
          · rw [List.mem_singleton.mp hp]
            omega
    · rintro ⟨h1, h2⟩
      by_cases hk : ((k + 1 : Nat) : Int) ∈ c
      · right
        rcases List.eq_nil_or_concat c with rfl | ⟨d, x, rfl⟩
        · cases hk
        · rw [List.concat_eq_append] at *
          obtain ⟨q1, _, q3⟩ := List.pairwise_append.mp h1
          have hx : x = ((k + 1 : Nat) : Int) := by
            rcases List.mem_append.mp hk with hk | hk
            · have a1 := q3 _ hk x (List.mem_singleton.mpr rfl)
              have a2 := h2 x (List.mem_append.mpr (.inr (List.mem_singleton.mpr rfl)))
              omega
            · exact (List.mem_singleton.mp hk).symm
          subst hx
          refine ⟨d, (mem_lots k d).mpr ⟨q1, fun p hp => ?_⟩, rfl⟩
          have a1 := q3 p hp _ (List.mem_singleton.mpr rfl)
          have a2 := h2 p (List.mem_append.mpr (.inl hp))
          omega
      · left
        refine (mem_lots k c).mpr ⟨h1, fun p hp => ?_⟩
        have a2 := h2 p hp
        have : p ≠ ((k + 1 : Nat) : Int) := fun z => hk (z ▸ hp)
        omega
theorem mem_cutsL {n : Nat} (hn : 1 ≤ n) {c : List Int} : c ∈ cutsL n ↔ Cut n c := by
  unfold cutsL Cut
  rw [(sortL_perm _).mem_iff, List.mem_filter, mem_lots]
  have e : ∀ p : Int, (1 ≤ p ∧ p ≤ ((n - 1 : Nat) : Int)) ↔ (1 ≤ p ∧ p < (n : Int)) := fun p => by omega
  simp only [e, and_assoc]
  cases c <;> simp
end WL
namespace WL
open PySem PySem.Spec PyProof.Rows L2 Evl DL
def kv (i : Int) : Key × PyData := (.inl i, .bool true)
def farI (t : T3) (p : Int) : Option Int := if t.1 = p then some t.2.1 else if t.2.1 = p then some t.1 else none
section
variable {μ : Mu} {a : List Int × List Int}
end
structure Inv1 (ts : List T3) (st : Int) (a : List Int × List Int) : Prop where
  nd : a.1.Nodup
  rg : ∀ q ∈ a.1, 0 ≤ q ∧ q < 8
  re : ∀ q ∈ a.1, Reach ts st q
  st_ : st ∈ a.1
  sub : ∀ q ∈ a.2, q ∈ a.1
  nd2 : a.2.Nodup
theorem nodup_len : ∀ (m : Nat) (l : List Int) (lo : Int), l.Nodup → (∀ q ∈ l, lo ≤ q ∧ q < lo + (m : Int)) → l.length ≤ m := by
  intro m
  induction m with
  | zero =>
    intro l lo _ h
    cases l with
    | nil => exact Nat.le_refl _
    | cons p r => have := h p (List.mem_cons_self ..); omega
  | succ m ih =>
    intro l lo hn h
    by_cases hm : lo ∈ l
    · have h1 := ih (l.erase lo) (lo + 1) (hn.erase lo) fun q hq => by
        have hq' := (List.Nodup.mem_erase_iff hn).mp hq
        have := h q hq'.2
        have : q ≠ lo := hq'.1
        omega
      have := List.length_erase_of_mem hm
      omega
    · have := ih l (lo + 1) hn fun q hq => by
        have := h q hq
        have : q ≠ lo := fun z => hm (z ▸ hq)
        omega
      omega
theorem Inv1.len {ts : List T3} {st : Int} {a : List Int × List Int} (h : Inv1 ts st a) : a.1.length ≤ 8 := nodup_len 8 a.1 0 h.nd fun q hq => by have := h.rg q hq; omega
end WL
namespace WL
open PySem PySem.Spec PyProof.Rows L2 Evl DL
theorem lt_nodup {ns : List Int} (h : ns.Pairwise (· < ·)) : ns.Nodup := h.imp fun h => by omega
theorem WebOk.small {many : Int} {ts : List T3} (h : WebOk many ts) : Small ts := ⟨by have := h.rows.most; omega, fun t ht => by
  have := h.rows.in_ t ht
  have := h.hi
  omega⟩
end WL
namespace WL
open PySem PySem.Spec PyProof.Rows L2 Evl DL
def Sm (k : Nat) (x : Int) : Prop := x.natAbs < 2 ^ k
instance (k : Nat) (x : Int) : Decidable (Sm k x) := inferInstanceAs (Decidable (_ < _))
instance (i j : Int) : Decidable (CPow i j) := inferInstanceAs (Decidable (_ ∧ _))
theorem Sm.mono {j k : Nat} {x : Int} (h : Sm j x) (hk : j ≤ k) : Sm k x := Nat.lt_of_lt_of_le h (Nat.pow_le_pow_right (by decide) hk)
theorem Sm.cmul {j k : Nat} {x y : Int} (h : Sm j x) (g : Sm k y) (hj : j ≤ 100000) (hk : k ≤ 100000) : CMulW x y := wide_mul (h.mono hj) (g.mono hk) (by decide) (by decide) (by decide)
theorem Sm.cdv {k : Nat} {i j : Int} (h : Sm k j) (hk : k ≤ 9000) (h0 : j ≠ 0) : CDv i j := ⟨h0, (Nat.log2_lt (Int.natAbs_ne_zero.mpr h0)).mpr (h.mono hk)⟩
theorem sm_of {k : Nat} {x : Int} (h0 : 0 ≤ x) (h : x < 2 ^ k) : Sm k x := by
  unfold Sm
  have : (x.natAbs : Int) < ((2 ^ k : Nat) : Int) := by
    rw [Int.natAbs_of_nonneg h0]
    simpa using h
  exact Int.ofNat_lt.mp this
theorem fmod_lt {a b : Int} (h : 0 < b) : 0 ≤ a.fmod b ∧ a.fmod b < b := ⟨Int.fmod_nonneg_of_pos a h, Int.fmod_lt_of_pos a h⟩
theorem cp18 : CPow 10 18 := by decide
theorem Ch.refl {k : Nat} {μ : Mu} (h : Pot μ k) : Ch k μ μ := ⟨h, rfl, fun _ _ => rfl⟩
theorem Ch.trans {k : Nat} {μ μ1 μ2 : Mu} (h : Ch k μ μ1) (g : Ch k μ1 μ2) : Ch k μ μ2 := ⟨g.1, g.2.1.trans h.2.1, fun j hj => (g.2.2 j hj).trans (h.2.2 j hj)⟩
theorem Pot.lt {k : Nat} {μ : Mu} (h : Pot μ k) : k < μ.length := by
  obtain ⟨_, _, e, _⟩ := h
  exact (List.getElem?_eq_some_iff.mp e).1
theorem Ch.take {k : Nat} {μ μ' : Mu} (h : Ch k μ μ') : List.take μ.length μ' = μ' := List.take_of_length_le (by rw [h.2.1]; exact Nat.le_refl _)
theorem ch_set {k : Nat} {μ : Mu} {p0 p1 : Int} (hk : k < μ.length) (h0 : 0 ≤ p0) (h1 : 0 ≤ p1) (h2 : p1 < 2 ^ 40) : Ch k μ (μ.set k (.lst [.int p0, .int p1])) :=
  ⟨⟨_, _, List.getElem?_set_self hk, h0, h1, h2⟩, List.length_set .., fun j hj => List.getElem?_set_ne (Ne.symm hj)⟩
theorem o_finC {n k : Nat} {μ : Mu} {Q : DQ} {ds : List PyData} (h : μ[k]? = some (.lst ds)) : finQ n Q (.cell k) μ = if k < n then Q (.cell k) (μ.take n) else (Q (.dat (.list ds)) (μ.take n) ∨ Q (.cell n) (μ.take n ++ [.lst ds])) := by
  simp only [finQ, h]
structure PotC (a b m1 c1 c2 c3 m2 : Int) : Prop where
  a : Sm 40 a
  m1 : 0 < m1 ∧ m1 < 2 ^ 40
  c1 : Sm 40 c1
  c2 : Sm 40 c2
  m2 : 0 < m2 ∧ m2 < 2 ^ 39
instance (a b m1 c1 c2 c3 m2 : Int) : Decidable (PotC a b m1 c1 c2 c3 m2) := decidable_of_iff (Sm 40 a ∧ (0 < m1 ∧ m1 < 2 ^ 40) ∧ Sm 40 c1 ∧ Sm 40 c2 ∧ (0 < m2 ∧ m2 < 2 ^ 39)) ⟨fun ⟨h1, h2, h3, h4, h5⟩ => ⟨h1, h2, h3, h4, h5⟩, fun h => ⟨h.a, h.m1, h.c1, h.c2, h.m2⟩⟩
structure DrawC (c1 c2 m1 m2 d : Int) : Prop where
  c1 : Sm 40 c1
  m1 : 0 < m1 ∧ m1 < 2 ^ 40
  m2 : m2 ≠ 0
  d : d ≠ 0 ∧ Sm 40 d
instance (c1 c2 m1 m2 d : Int) : Decidable (DrawC c1 c2 m1 m2 d) := decidable_of_iff (Sm 40 c1 ∧ (0 < m1 ∧ m1 < 2 ^ 40) ∧ m2 ≠ 0 ∧ (d ≠ 0 ∧ Sm 40 d)) ⟨fun ⟨h1, h2, h3, h4⟩ => ⟨h1, h2, h3, h4⟩, fun h => ⟨h.c1, h.m1, h.m2, h.d⟩⟩
def dDraw (c1 c2 m1 m2 d : Int) : DS := (dSeq (dIfS (dTest (dOp wGt (dOp rIx (dVar 0) (dC (.int 0))) (dC (.int 0)))) (dSeq (dAsgG (dCB fDm (aCons (dOp rIx (dVar 0) (dC (.int 0))) (aCons (dVar 1) aNil))) (gT 2 (gsCons (gS (dVar 0) (dC (.int 0))) (gsCons (gN 2) gsNil))))
    (dRet (dVar 2))) dNext)
    (dSeq (dAsgG (dOp rMd (dCB fInt (aCons (dOp rAdd (dOp rMul (dOp rIx (dVar 0) (dC (.int 1))) (dC (.int c1))) (dC (.int c2))) aNil)) (dC (.int m1))) (gS (dVar 0) (dC (.int 1))))
    (dRet (dOp rMd (dCB fInt (aCons (dOp rDv (dOp rMd (dCB fInt (aCons (dOp rMul (dOp rIx (dVar 0) (dC (.int 1))) (dOp rIx (dVar 0) (dC (.int 1)))) aNil)) (dC (.int m2))) (dC (.int d))) aNil)) (dVar 1)))))
theorem draw_gen {x y : Str} {c1 c2 m1 m2 d : Int} (hC : DrawC c1 c2 m1 m2 d) : Pure ["pot", x, y] 2 ph_law_draw (dDraw c1 c2 m1 m2 d) := by
  intro ss μ Q' hl h
  obtain ⟨k, n, rfl, ⟨p0, p1, hm, h0, h1, h2⟩, hn, h⟩ := h
  have hk : k < μ.length := (List.getElem?_eq_some_iff.mp hm).1
  have hn0 : n ≠ 0 := by omega
  have i0 : ∀ Q, DL.rIx (.cell k) (.dat (.int 0)) μ Q = Q (.dat (.int p0)) μ := fun Q => rix_c hm rfl
  have i1 : ∀ Q, DL.rIx (.cell k) (.dat (.int 1)) μ Q = Q (.dat (.int p1)) μ := fun Q => rix_c hm rfl
  by_cases c : 0 < p0
  · have cd : CDm p0 n := ⟨hn.1, (Nat.log2_lt (by omega)).mpr ((sm_of (k := 100) (by omega) hn.2).mono (k := 9000) (by decide))⟩
    have w0 : ∀ R, wrL (.cell k) (.dat (.int 0)) (.dat (.int (p0 / n))) μ R = R (μ.set k (.lst [.int (p0 / n), .int p1])) := fun R => wrl_c (m := 0) hm rfl
    have dm : ∀ (ν : Mu) (Q : DQ), fDm [.dat (.int p0), .dat (.int n)] ν Q = (CDm p0 n ∧ Q (.dat (.tuple [.int (p0 / n), .int (p0 % n)])) ν) := fun _ _ => rfl
    simp [dDraw, startD, i0, c, cd, w0, dm]
    rw [List.take_of_length_le (by simp)]
    exact h _ _ (Int.emod_nonneg _ hn0) (Int.emod_lt_of_pos _ hn.1) (ch_set hk (Int.ediv_nonneg h0 (by omega)) h1 h2)
  · have f1 := fmod_lt (a := p1 * c1 + c2) hC.m1.1
    have z1 := hC.m1
    generalize hp : (p1 * c1 + c2).fmod m1 = y at f1
    have w1 : ∀ R, wrL (.cell k) (.dat (.int 1)) (.dat (.int y)) μ R = R (μ.set k (.lst [.int p0, .int y])) := fun R => wrl_c (m := 1) hm rfl
    have hm2 : (μ.set k (.lst [.int p0, .int y]))[k]? = some (.lst [.int p0, .int y]) := List.getElem?_set_self hk
    have i2 : ∀ Q, DL.rIx (.cell k) (.dat (.int 1)) (μ.set k (.lst [.int p0, .int y])) Q = Q (.dat (.int y)) (μ.set k (.lst [.int p0, .int y])) := fun Q => rix_c hm2 rfl
    have c1' : CMulW p1 c1 := (sm_of h1 h2).cmul hC.c1 (by decide) (by decide)
    have sy : Sm 40 y := sm_of f1.1 (by omega)
    have c2' : CMulW y y := sy.cmul sy (by decide) (by decide)
    have c3' : ∀ i, CDv i d := fun i => hC.d.2.cdv (by decide) hC.d.1
    have m1' : m1 ≠ 0 := by omega
    simp [dDraw, startD, i0, i1, c, c1', hp, w1, i2, c2', c3', hn0, m1', hC.m2]
    rw [List.take_of_length_le (by simp)]
    have f3 := fmod_lt (a := ((y * y).fmod m2).fdiv d) hn.1
    exact h _ _ f3.1 f3.2 (ch_set hk h0 f1.1 (by omega))
end WL
namespace WL
open PySem PySem.Spec PyProof.Rows L2 Evl DL
open PySem.W (dataLt dataLe alike alikeAll AllAlike Sortable)
abbrev E3 := (Int × Int) × Int
def kt (e : E3) : List Key × PyData := ([.inl e.1.1, .inl e.1.2], .int e.2)
def putP (ps : List E3) (k : Int × Int) (r : Int) : List E3 := if k ∈ ps.map (·.1) then ps.map (fun e => if e.1 = k then (e.1, r) else e) else ps ++ [(k, r)]
theorem keys_put (ps : List E3) (k : Int × Int) (r : Int) : (putP ps k r).map (·.1) = if k ∈ ps.map (·.1) then ps.map (·.1) else ps.map (·.1) ++ [k] := by
  unfold putP
  split
  · rw [List.map_map]
    refine List.map_congr_left fun e _ => ?_
    show (if e.1 = k then (e.1, r) else e).1 = e.1
    split <;> rfl
  · rw [List.map_append]
    rfl
theorem mem_put {ps : List E3} {k : Int × Int} {r : Int} {e : E3} (h : e ∈ putP ps k r) : e ∈ ps ∨ e = (k, r) := by
  unfold putP at h
  split at h
  · obtain ⟨x, hx, rfl⟩ := List.mem_map.mp h
    split
    · rename_i q
      right
      rw [q]
    · exact .inl hx
  · rcases List.mem_append.mp h with h | h
    · exact .inl h
    · exact .inr (List.mem_singleton.mp h)
structure Tab (n room : Int) (i c : Nat) (ps : List E3) : Prop where
  nd : (ps.map (·.1)).Nodup
  rg : ∀ e ∈ ps, (0 ≤ e.1.1 ∧ e.1.1 < e.1.2 ∧ e.1.2 < n) ∧ (1 ≤ e.2 ∧ e.2 ≤ room)
  all : ∀ q : Int, 1 ≤ q → q ≤ (i : Int) → ∃ a, (a, q) ∈ ps.map (·.1)
  len : ps.length ≤ c
theorem Tab.put {n room : Int} {i c : Nat} {ps : List E3} (h : Tab n room i c ps) {a b r : Int} (ha : 0 ≤ a ∧ a < b ∧ b < n) (hr : 1 ≤ r ∧ r ≤ room) : Tab n room i (c + 1) (putP ps (a, b) r) ∧ (a, b) ∈ (putP ps (a, b) r).map (·.1) := by
  refine ⟨⟨?_, fun e he => ?_, fun q h1 h2 => ?_, ?_⟩, ?_⟩
  · rw [keys_put]
    split
    · exact h.nd
    · rename_i q
      refine List.nodup_append.mpr ⟨h.nd, List.nodup_cons.mpr ⟨by simp, List.nodup_nil⟩, fun x hx y hy => ?_⟩
      rw [List.mem_singleton.mp hy]
      exact fun z => q (z ▸ hx)
  · rcases mem_put he with he | rfl
    · exact h.rg e he
    · exact ⟨ha, hr⟩
  · obtain ⟨x, hx⟩ := h.all q h1 h2
    refine ⟨x, ?_⟩
    rw [keys_put]
    split
    · exact hx
    · exact List.mem_append.mpr (.inl hx)
  · have := h.len
    unfold putP
    split
    · rw [List.length_map]; omega
    · rw [List.length_append, List.length_singleton]; omega
  · rw [keys_put]
    split
    · assumption
    · exact List.mem_append.mpr (.inr (List.mem_singleton.mpr rfl))
structure At (k : Nat) (μ ν : Mu) (ps : List E3) : Prop where
  pot : Pot ν k
  len : ν.length = μ.length + 1
  tab : ν[μ.length]? = some (.dctT (ps.map kt))
  old : ∀ j, j < μ.length → j ≠ k → ν[j]? = μ[j]?
theorem At.ch {k : Nat} {μ ν ν' : Mu} {ps : List E3} (h : At k μ ν ps) (hk : k < μ.length) (c : Ch k ν ν') : At k μ ν' ps :=
  ⟨c.1, c.2.1.trans h.len, (c.2.2 _ (by omega)).trans h.tab, fun j hj hk => (c.2.2 j hk).trans (h.old j hj hk)⟩
theorem At.put {k : Nat} {μ ν : Mu} {ps ps' : List E3} (h : At k μ ν ps) (hk : k < μ.length) : At k μ (ν.set μ.length (.dctT (ps'.map kt))) ps' := by
  refine ⟨?_, by rw [List.length_set]; exact h.len, List.getElem?_set_self (by rw [h.len]; omega), fun j hj hk' => ?_⟩
  · obtain ⟨p0, p1, e, q⟩ := h.pot
    exact ⟨p0, p1, by rw [List.getElem?_set_ne (by omega)]; exact e, q⟩
  · rw [List.getElem?_set_ne (by omega)]
    exact h.old j hj hk'
theorem At.end {k : Nat} {μ ν : Mu} {ps : List E3} (h : At k μ ν ps) (hk : k < μ.length) : Ch k μ (ν.take μ.length) := by
  obtain ⟨p0, p1, e, q⟩ := h.pot
  refine ⟨⟨p0, p1, by rw [List.getElem?_take_of_lt hk]; exact e, q⟩, by rw [List.length_take, h.len]; omega, fun j hj => ?_⟩
  by_cases hl : j < μ.length
  · rw [List.getElem?_take_of_lt hl]
    exact h.old j hl hj
  · rw [List.getElem?_eq_none (by rw [List.length_take]; omega), List.getElem?_eq_none (by omega)]
section
variable {D : DEnds} {k : Nat} {μ : Mu} {n further room : Int} {v6 v7 v8 : Option Sl}
end
end WL
namespace WL
open PySem PySem.Spec PyProof.Rows L2 Evl DL
def minI : List Int → Int
  | [] => 0
  | x :: r => r.foldl (fun a y => if y < a then y else a) x
def dueL (n : Int) (p q : Int) : List (List Int) := (cutsL n.toNat).filter fun c => acrossB c (p, q, 0)
def leastR (n : Int) (ts : List T3) (p q : Int) : Int := minI ((dueL n p q).map (roomL ts))
structure TwoOk (n : Int) (ts : List T3) (p q : Int) : Prop where
  web : WebOk n ts
  one : 0 ≤ p ∧ p < n
  other : 0 ≤ q ∧ q < n
  ne : p ≠ q
end WL
namespace WL
open PySem PySem.Spec PyProof.Rows L2 Evl DL
end WL
namespace WL
open PySem PySem.Spec PyProof.Rows L2 Evl DL
open PySem.W (dataLt dataLe alike alikeAll AllAlike Sortable minD)
theorem cuts_len {n : Nat} (hn : n ≤ 8) : (cutsL n).length ≤ 128 := by
  unfold cutsL
  rw [(sortL_perm _).length_eq]
  refine Nat.le_trans (List.length_filter_le _ _) ?_
  rw [lots_len]
  exact Nat.le_trans (Nat.pow_le_pow_right (by decide) (show n - 1 ≤ 7 by omega)) (by decide)
theorem Cut.small {n : Int} {c : List Int} (h : Cut n c) (hn : n ≤ 8) : SmallL c := by
  have := nodup_len 8 c 0 (lt_nodup h.1) fun q hq => by have := h.2.1 q hq; omega
  unfold SmallL
  omega
theorem mem_due {n : Int} (hn : 1 ≤ n) {p q : Int} {c : List Int} : c ∈ dueL n p q ↔ Cut n c ∧ acrossB c (p, q, 0) = true := by
  unfold dueL
  rw [List.mem_filter, mem_cutsL (show 1 ≤ n.toNat by omega), show ((n.toNat : Nat) : Int) = n by omega]
theorem due_len {n : Int} (hn : n ≤ 8) {p q : Int} : (dueL n p q).length ≤ 128 := Nat.le_trans (List.length_filter_le _ _) (cuts_len (by omega))
theorem due_ne {n : Int} {p q : Int} (hp : 0 ≤ p ∧ p < n) (hq : 0 ≤ q ∧ q < n) (ne : p ≠ q) : dueL n p q ≠ [] := by
  have one : ∀ r : Int, 1 ≤ r → r < n → Cut n [r] := fun r r1 r2 => ⟨List.pairwise_singleton .., fun x hx => by rw [List.mem_singleton.mp hx]; exact ⟨r1, r2⟩, by simp⟩
  have : ∃ c, c ∈ dueL n p q := by
    by_cases h0 : p = 0
    · refine ⟨[q], (mem_due (by omega)).mpr ⟨one q (by omega) hq.2, ?_⟩⟩
      simp [acrossB, ne]
    · refine ⟨[p], (mem_due (by omega)).mpr ⟨one p (by omega) hp.2, ?_⟩⟩
      have : ¬ q = p := fun z => ne z.symm
      simp [acrossB, this]
  obtain ⟨c, hc⟩ := this
  exact fun e => by rw [e] at hc; cases hc
section
variable {μ : Mu} {Q : DQ} {n p q : Int} {ts : List T3} {cs : List (List Int)}
@[simp ↓] theorem ix_l0 {x : PyData} {r : List PyData} : DL.rIx (.dat (.list (x :: r))) (.dat (.int 0)) μ Q = Q (.dat x) μ := by
  have e : atI (x :: r) 0 = some x := atI0
  simp only [DL.rIx, e_rdD, e, Option.some.injEq, exists_eq_left', e_eltD]
end
theorem TwoOk.due {n p q : Int} {ts : List T3} (h : TwoOk n ts p q) : ts.length ≤ 100 ∧ dueL n p q ≠ [] ∧ (dueL n p q).length ≤ 1000 ∧ ∀ c ∈ dueL n p q, SmallL c := by
  have hn := h.web.hi
  refine ⟨by have := h.web.rows.most; omega, due_ne h.one h.other h.ne, Nat.le_trans (due_len hn) (by decide), fun c hc => ?_⟩
  exact ((mem_due (by have := h.web.lo; omega)).mp hc).1.small hn
end WL
namespace WL
open PySem PySem.Spec PyProof.Rows L2 Evl DL
open PySem.W (dataLt dataLe alike alikeAll AllAlike Sortable minD)
def bd (ts : List T3) (s : Int → Bool) : Int := ((ts.filter fun t => s t.1 != s t.2.1).map (·.2.2)).sum
def placesL (n : Int) : List Int := (List.range n.toNat).map fun (i : Nat) => (i : Int)
structure Least (n : Int) (ts : List T3) (p q : Int) (s : Int → Bool) : Prop where
  one : s p = true
  other : s q = false
  room : bd ts s = leastR n ts p q
theorem TwoOk.swap {n p q : Int} {ts : List T3} (h : TwoOk n ts p q) : TwoOk n ts q p := ⟨h.web, h.other, h.one, h.ne.symm⟩
theorem eqv_ints : ∀ a b : List Int, PyData.eqvAll (a.map PyData.int) (b.map PyData.int) = decide (a = b)
  | [], [] => rfl
  | [], _ :: _ => rfl
  | _ :: _, [] => rfl
  | x :: a, y :: b => by
    rw [List.map_cons, List.map_cons, PyData.eqvAll, eqv_ints a b]
    have : PyData.eqv (.int x) (.int y) = decide (x = y) := by
      simp only [PyData.eqv]
      exact Bool.beq_eq_decide_eq x y
    rw [this]
    by_cases h : x = y <;> simp [h]
theorem eqv_row {a b : List Int} : PyData.eqv (rowI a) (rowI b) = decide (a = b) := by
  unfold rowI
  simp only [PyData.eqv]
  exact eqv_ints a b
theorem any_row {cs : List (List Int)} {c : List Int} : ((cs.map rowI).any fun z => PyData.eqv z (rowI c)) = decide (c ∈ cs) := by
  induction cs with
  | nil => rfl
  | cons a r ih =>
    rw [List.map_cons, List.any_cons, ih, eqv_row]
    by_cases h : c = a
    · subst h; simp
    · have h' : ¬ a = c := fun z => h z.symm
      simp [h, h']
@[simp ↓] theorem in_rows {cs : List (List Int)} {c : List Int} {f : Bool → Bool} {μ : Mu} {Q : DQ} : wIn f (.dat (rowI c)) (.dat (.list (cs.map rowI))) μ Q = Q (.dat (.bool (f (decide (c ∈ cs))))) μ := by
  rw [w_inL, any_row]
  exact propext ⟨fun z => z.2, fun z => ⟨⟨sh_row.ok (by decide), sh_rows.ok (by decide)⟩, z⟩⟩
end WL
namespace WL
open PySem PySem.Spec PyProof.Rows L2 Evl DL
end WL
namespace WL
open PySem PySem.Spec PyProof.Rows L2 Evl DL
structure Rp (w : Nat) (d : PyData) : Prop where
  show_ : d.showable = true
  dict : d.hasDict = false
  leaves : d.leavesShort 13 = true
  wt : d.weight ≤ w
theorem Rp.mono {v w : Nat} {d : PyData} (h : Rp v d) (hv : v ≤ w) : Rp w d := ⟨h.1, h.2, h.3, Nat.le_trans h.4 hv⟩
theorem Rp.okR {w n : Nat} {d : PyData} (h : Rp w d) (hw : w ≤ 2 ^ 20) (s : Sh n d) (hn : n ≤ 64) : okR d :=
  ⟨h.1, .inl h.2, Nat.le_trans s.2 hn, PyData.shown_fits (by decide) (by decide) h.3 (Nat.le_trans h.4 hw)⟩
theorem Rp.int {i : Int} (h : i.natAbs < 10 ^ 12) : Rp 41 (.int i) := by
  refine ⟨?_, by simp only [PyData.hasDict], ?_, ?_⟩
  · simp only [PyData.showable]
    refine decide_eq_true ?_
    by_cases h0 : i.natAbs = 0
    · rw [h0]; decide
    · have : i.natAbs.log2 < 40 := (Nat.log2_lt h0).mpr (Nat.lt_trans h (by decide))
      omega
  · simp only [PyData.leavesShort]
    exact decide_eq_true (PyData.shown_int_le h)
  · simp only [PyData.weight]
    split
    · exact Nat.zero_le _
    · rename_i h0
      have : i.natAbs ≠ 0 := fun z => h0 (by rw [Int.natAbs_eq_zero.mp z]; rfl)
      have : i.natAbs.log2 < 40 := (Nat.log2_lt this).mpr (Nat.lt_trans h (by decide))
      omega
theorem Rp.bool {b : Bool} : Rp 0 (.bool b) := ⟨by simp only [PyData.showable], by simp only [PyData.hasDict], by simp only [PyData.leavesShort], by simp only [PyData.weight]; exact Nat.le_refl _⟩
theorem Rp.none : Rp 0 .none := ⟨by simp only [PyData.showable], by simp only [PyData.hasDict], by simp only [PyData.leavesShort], by simp only [PyData.weight]; exact Nat.le_refl _⟩
theorem Rp.all {w : Nat} : ∀ {ds : List PyData}, (∀ d ∈ ds, Rp w d) → PyData.showableAll ds = true ∧ PyData.hasDictAll ds = false ∧ PyData.leavesShortAll 13 ds = true ∧ PyData.weightAll ds ≤ ds.length * (w + 1)
  | [], _ => by simp only [PyData.showableAll, PyData.hasDictAll, PyData.leavesShortAll, PyData.weightAll, List.length_nil]; simp
  | d :: r, h => by
    obtain ⟨a, b, c, e⟩ := Rp.all fun x hx => h x (List.mem_cons_of_mem _ hx)
    obtain ⟨a1, b1, c1, e1⟩ := h d (List.mem_cons_self ..)
    simp only [PyData.showableAll, PyData.hasDictAll, PyData.leavesShortAll, PyData.weightAll, List.length_cons, a, b, c, a1, b1, c1, Bool.and_self, Bool.or_self, true_and]
    rw [Nat.add_mul]
    omega
theorem Rp.tup {w m : Nat} {ds : List PyData} (h : ∀ d ∈ ds, Rp w d) (hm : ds.length ≤ m) : Rp (m * (w + 1)) (.tuple ds) := by
  obtain ⟨a, b, c, e⟩ := Rp.all h
  exact ⟨by simp only [PyData.showable]; exact a, by simp only [PyData.hasDict]; exact b, by simp only [PyData.leavesShort]; exact c, by simp only [PyData.weight]; exact Nat.le_trans e (Nat.mul_le_mul_right _ hm)⟩
theorem Rp.list {w m : Nat} {ds : List PyData} (h : ∀ d ∈ ds, Rp w d) (hm : ds.length ≤ m) : Rp (m * (w + 1)) (.list ds) := by
  obtain ⟨a, b, c, e⟩ := Rp.all h
  exact ⟨by simp only [PyData.showable]; exact a, by simp only [PyData.hasDict]; exact b, by simp only [PyData.leavesShort]; exact c, by simp only [PyData.weight]; exact Nat.le_trans e (Nat.mul_le_mul_right _ hm)⟩
theorem ne_str {x : Str} {μ : Mu} {Q : DQ} : DL.rNe (.dat (.str x)) (.dat (.str x)) μ Q = Q (.dat (.bool false)) μ := by
  show Q (.dat (.bool (!decide (x = x)))) μ = _
  simp
end WL
namespace WL
open PySem PySem.Spec PyProof.Rows L2 Evl DL
theorem Reach.trans {ts : List T3} {a b c : Int} (h : Reach ts a b) (g : Reach ts b c) : Reach ts a c := by
  induction g with
  | here => exact h
  | fwd _ ht e ih => exact .fwd ih ht e
  | bwd _ ht e ih => exact .bwd ih ht e
theorem Reach.symm {ts : List T3} {a b : Int} (h : Reach ts a b) : Reach ts b a := by
  induction h with
  | here => exact .here
  | fwd _ ht e ih => exact Reach.trans (e ▸ Reach.bwd .here ht rfl) ih
  | bwd _ ht e ih => exact Reach.trans (e ▸ Reach.fwd .here ht rfl) ih
theorem Reach.mono {ts us : List T3} (hs : ∀ t ∈ ts, t ∈ us) {a b : Int} (h : Reach ts a b) : Reach us a b := by
  induction h with
  | here => exact .here
  | fwd _ ht e ih => exact .fwd ih (hs _ ht) e
  | bwd _ ht e ih => exact .bwd ih (hs _ ht) e
def within (ts : List T3) (s : Int → Bool) : List T3 := ts.filter fun t => s t.1 && s t.2.1
def Conn (n : Int) (ts : List T3) (s : Int → Bool) : Prop := ∀ p q, 0 ≤ p ∧ p < n → 0 ≤ q ∧ q < n → s p = true → s q = true → Reach (within ts s) p q
structure Split (n : Int) (ts : List T3) (s a b : Int → Bool) : Prop where
  or_ : ∀ x, s x = (a x || b x)
  dis : ∀ x, (a x && b x) = false
  one : ∃ x, (0 ≤ x ∧ x < n) ∧ a x = true
  two : ∃ x, (0 ≤ x ∧ x < n) ∧ b x = true
  no : ∀ t ∈ ts, (a t.1 && b t.2.1) = false ∧ (b t.1 && a t.2.1) = false
theorem Split.swap {n : Int} {ts : List T3} {s a b : Int → Bool} (h : Split n ts s a b) : Split n ts s b a :=
  ⟨fun x => by rw [h.or_ x, Bool.or_comm], fun x => by rw [Bool.and_comm]; exact h.dis x, h.two, h.one, fun t ht => ⟨(h.no t ht).2, (h.no t ht).1⟩⟩
def FirmS (n : Int) (ts : List T3) (s : Int → Bool) : Prop := Conn n ts s ∧ Conn n ts fun x => !s x
structure Some2 (n : Int) (s : Int → Bool) : Prop where
  in_ : ∃ x, (0 ≤ x ∧ x < n) ∧ s x = true
  out : ∃ x, (0 ≤ x ∧ x < n) ∧ s x = false
section
variable {n : Int} {ts ws : List T3} (hw : WebOk n ts) (h0 : ∀ t ∈ ws, 0 ≤ t.2.2) (H : ∀ s, Some2 n s → FirmS n ts s → bd ws s ≤ bd ts s)
include hw h0 H
end
end WL
namespace WL
open PySem PySem.Spec PyProof.Rows L2 Evl DL
end WL
namespace WL
open PySem PySem.Spec PyProof.Rows L2 Evl DL
open PySem.W (dataLt dataLe alike alikeAll AllAlike Sortable minD)
def tl (t : T3) : List Int := [t.1, t.2.1, t.2.2]
def backT : List Int → T3
  | [a, b, c] => (a, b, c)
  | _ => (0, 0, 0)
def sortT (ts : List T3) : List T3 := (sortL (ts.map tl)).map backT
theorem sortT_tl (ts : List T3) : (sortT ts).map tl = sortL (ts.map tl) := by
  unfold sortT
  rw [List.map_map]
  refine (List.map_congr_left fun x hx => ?_).trans (List.map_id _)
  obtain ⟨t, _, rfl⟩ := List.mem_map.mp ((sortL_perm _).mem_iff.mp hx)
  rfl
theorem sortT_perm (ts : List T3) : (sortT ts).Perm ts := by
  have h := (sortL_perm (ts.map tl)).map backT
  rw [List.map_map] at h
  have e : (ts.map (backT ∘ tl)) = ts := (List.map_congr_left fun t _ => rfl).trans (List.map_id _)
  rw [e] at h
  exact h
theorem tl_lex {a b : T3} (h : leL (tl a) (tl b) = true) (ne : two a ≠ two b) : lexP (two a) (two b) := by
  have h' := leL_iff.mp h
  have n : ¬ (tl b < tl a) := List.not_lt.mpr h'
  unfold tl at n
  simp only [List.cons_lt_cons_iff, not_or, not_and] at n
  have ne' : ¬ (a.1 = b.1 ∧ a.2.1 = b.2.1) := fun z => ne (Prod.ext z.1 z.2)
  unfold lexP two
  simp only
  by_cases h1 : b.1 < a.1
  · exact absurd h1 n.1
  · by_cases h2 : b.1 = a.1
    · have n2 := n.2 h2
      by_cases h3 : b.2.1 < a.2.1
      · exact absurd h3 n2.1
      · omega
    · omega
theorem sortT_up {ts : List T3} (h : (ts.map two).Nodup) : (sortT ts).Pairwise fun a b => lexP (two a) (two b) := by
  have p1 : ((sortT ts).map tl).Pairwise fun x y => leL x y = true := by
    rw [sortT_tl]
    exact sortL_sorted _
  have p2 : ((sortT ts).map two).Nodup := ((sortT_perm ts).map two).nodup_iff.mpr h
  exact ((List.pairwise_map.mp p1).and (List.pairwise_map.mp p2)).imp fun ⟨h1, h2⟩ => tl_lex h1 h2
end WL
namespace WL
open PySem PySem.Spec PyProof.Rows L2 Evl DL
structure Gr (k : Nat) (μ ν : Mu) : Prop where
  pot : Pot ν k
  len : μ.length ≤ ν.length
  old : ∀ j, j < μ.length → j ≠ k → ν[j]? = μ[j]?
section
variable {k : Nat} {μ ν ν' : Mu}
theorem Gr.refl (h : Pot μ k) : Gr k μ μ := ⟨h, Nat.le_refl _, fun _ _ _ => rfl⟩
theorem Gr.ch (h : Gr k μ ν) (c : Ch k ν ν') : Gr k μ ν' := ⟨c.1, by rw [c.2.1]; exact h.len, fun j hj hk => (c.2.2 j hk).trans (h.old j hj hk)⟩
theorem Gr.end (h : Gr k μ ν) (hk : k < μ.length) : Ch k μ (ν.take μ.length) := by
  have hl := h.len
  obtain ⟨p0, p1, e, q⟩ := h.pot
  refine ⟨⟨p0, p1, by rw [List.getElem?_take_of_lt hk]; exact e, q⟩, by rw [List.length_take]; omega, fun j hj => ?_⟩
  by_cases hl' : j < μ.length
  · rw [List.getElem?_take_of_lt hl']
    exact h.old j hl' hj
  · rw [List.getElem?_eq_none (by rw [List.length_take]; omega), List.getElem?_eq_none (by omega)]
end
end WL
namespace DL
open PySem PySem.Spec PyProof.Rows L2 Evl
section
variable {X : Cx} {K : PySem.W.Frag}
end
end DL
namespace DL
open PySem PySem.Spec PyProof.Rows L2 Evl
section
variable {X : Cx} {K : PySem.W.Frag}
variable {kx vx tg iter : Expr} {ifs : List Expr} {scope : Scope} {own : List (Str × Nat)} {pos : Pos} {i : DI} {g : DG} {t : DT} {ek ev : DE}
variable {o e : Expr} {apos cpos : Pos} {od ed : DE} {k : Nat}
end
end DL
namespace DL
open PySem PySem.Spec PyProof.Rows L2 Evl
end DL
namespace DL
open PySem PySem.Spec PyProof.Rows L2 Evl
section
variable {X : Cx} {K : PySem.W.Frag} {p pos : Pos}
end
end DL
namespace WL
open PySem PySem.Spec PyProof.Rows L2 Evl DL
def nrm (t : T3) : T3 := (min t.1 t.2.1, max t.1 t.2.1, t.2.2)
def made (ts : List T3) : List T3 := sortT (ts.map nrm)
theorem nrm_of {t : T3} (h : t.1 < t.2.1) : nrm t = t := by
  unfold nrm
  rw [Int.min_eq_left (by omega), Int.max_eq_right (by omega)]
theorem lex_le {a b : T3} (h : lexP (two a) (two b)) : leL (tl a) (tl b) = true := by
  unfold leL ltL
  have : ¬ (tl b < tl a) := by
    unfold tl
    simp only [List.cons_lt_cons_iff]
    unfold lexP two at h
    simp only at h
    omega
  simp [this]
theorem sortT_self {ts : List T3} (h : ts.Pairwise fun a b => lexP (two a) (two b)) : sortT ts = ts := by
  have e : sortL (ts.map tl) = ts.map tl := by
    refine perm_sorted_eq (le := fun a b => leL a b = true) leL_anti (sortL_perm _) (sortL_sorted _) ?_
    exact List.pairwise_map.mpr (h.imp fun q => lex_le q)
  unfold sortT
  rw [e, List.map_map]
  exact (List.map_congr_left fun t _ => rfl).trans (List.map_id _)
theorem RowsOk.made {m : Nat} {n : Int} {ts : List T3} (h : RowsOk m n ts) : made ts = ts := by
  unfold WL.made
  have e : ts.map nrm = ts := (List.map_congr_left fun t ht => nrm_of (h.in_ t ht).2.1).trans (List.map_id _)
  rw [e]
  exact sortT_self h.up
theorem made_mem {ts : List T3} {t : T3} : t ∈ made ts ↔ ∃ u ∈ ts, t = nrm u := by
  unfold made
  rw [(sortT_perm _).mem_iff, List.mem_map]
  constructor
  · rintro ⟨u, h1, h2⟩; exact ⟨u, h1, h2.symm⟩
  · rintro ⟨u, h1, h2⟩; exact ⟨u, h1, h2.symm⟩
theorem made_len {ts : List T3} : (made ts).length = ts.length := by
  unfold made
  rw [(sortT_perm _).length_eq, List.length_map]
structure LooseOk (m : Nat) (n : Int) (ts : List T3) : Prop where
  one : 1 ≤ ts.length
  most : ts.length ≤ m
  in_ : ∀ t ∈ ts, (0 ≤ t.1 ∧ t.1 < n) ∧ (0 ≤ t.2.1 ∧ t.2.1 < n) ∧ t.1 ≠ t.2.1 ∧ 1 ≤ t.2.2 ∧ t.2.2 ≤ 20
  nd : (ts.map fun t => two (nrm t)).Nodup
theorem LooseOk.made {m : Nat} {n : Int} {ts : List T3} (h : LooseOk m n ts) : RowsOk m n (made ts) := by
  refine ⟨by rw [made_len]; exact h.one, by rw [made_len]; exact h.most, fun t ht => ?_, ?_⟩
  · obtain ⟨u, hu, rfl⟩ := made_mem.mp ht
    have := h.in_ u hu
    unfold nrm
    simp only
    omega
  · refine sortT_up ?_
    rw [List.map_map]
    exact h.nd
theorem RowsOk.loose {m : Nat} {n : Int} {ts : List T3} (h : RowsOk m n ts) : LooseOk m n ts := by
  refine ⟨h.one, h.most, fun t ht => by have := h.in_ t ht; omega, ?_⟩
  have e : ts.map (fun t => two (nrm t)) = ts.map two := List.map_congr_left fun t ht => by rw [nrm_of (h.in_ t ht).2.1]
  rw [e]
  refine List.pairwise_map.mpr (h.up.imp fun {a b} q z => ?_)
  rw [z] at q
  unfold lexP at q
  omega
def ren (f : Int → Int) (t : T3) : T3 := (f t.1, f t.2.1, t.2.2)
theorem ren_loose {m : Nat} {n : Int} {ts : List T3} (h : RowsOk m n ts) {f g : Int → Int} (hf : ∀ p, 0 ≤ p → p < n → 0 ≤ f p ∧ f p < n) (hg : ∀ p, 0 ≤ p → p < n → g (f p) = p) : LooseOk m n (ts.map (ren f)) := by
  refine ⟨by rw [List.length_map]; exact h.one, by rw [List.length_map]; exact h.most, fun t ht => ?_, ?_⟩
  · obtain ⟨u, hu, rfl⟩ := List.mem_map.mp ht
    have i := h.in_ u hu
    have h1 := hf u.1 (by omega) (by omega)
    have h2 := hf u.2.1 (by omega) (by omega)
    have ne : f u.1 ≠ f u.2.1 := fun z => by
      have := congrArg g z
      rw [hg _ (by omega) (by omega), hg _ (by omega) (by omega)] at this
      omega
    exact ⟨h1, h2, ne, by show 1 ≤ u.2.2 ∧ u.2.2 ≤ 20; omega⟩
  · rw [List.map_map]
    refine List.pairwise_map.mpr ?_
    have nd : (ts.map two).Nodup := by
      refine List.pairwise_map.mpr (h.up.imp fun {a b} q z => ?_)
      rw [z] at q
      unfold lexP at q
      omega
    have nd' := List.pairwise_map.mp nd
    refine (List.Pairwise.and_mem.mp nd').imp fun {a b} ⟨ha, hb, q⟩ z => q ?_
    have i := h.in_ a ha
    have j := h.in_ b hb
    have a1 := hg a.1 (by omega) (by omega)
    have a2 := hg a.2.1 (by omega) (by omega)
    have b1 := hg b.1 (by omega) (by omega)
    have b2 := hg b.2.1 (by omega) (by omega)
    have z1 : min (f a.1) (f a.2.1) = min (f b.1) (f b.2.1) := congrArg Prod.fst z
    have z2 : max (f a.1) (f a.2.1) = max (f b.1) (f b.2.1) := congrArg Prod.snd z
    have key : (f a.1 = f b.1 ∧ f a.2.1 = f b.2.1) ∨ (f a.1 = f b.2.1 ∧ f a.2.1 = f b.1) := by omega
    rcases key with ⟨k1, k2⟩ | ⟨k1, k2⟩
    · rw [k1] at a1
      rw [k2] at a2
      refine Prod.ext ?_ ?_
      · show a.1 = b.1
        omega
      · show a.2.1 = b.2.1
        omega
    · rw [k1] at a1
      rw [k2] at a2
      omega
theorem reach_ren {ts : List T3} {f : Int → Int} {p q : Int} (h : Reach ts p q) : Reach (made (ts.map (ren f))) (f p) (f q) := by
  have step : ∀ t ∈ ts, ∀ x, Reach (made (ts.map (ren f))) x (f t.1) → Reach (made (ts.map (ren f))) x (f t.2.1) := fun t ht x r => by
    have hm : nrm (ren f t) ∈ made (ts.map (ren f)) := made_mem.mpr ⟨_, List.mem_map.mpr ⟨t, ht, rfl⟩, rfl⟩
    by_cases c : f t.1 ≤ f t.2.1
    · have e1 : (nrm (ren f t)).1 = f t.1 := Int.min_eq_left c
      have e2 : (nrm (ren f t)).2.1 = f t.2.1 := Int.max_eq_right c
      exact e2 ▸ Reach.fwd r hm e1
    · have e1 : (nrm (ren f t)).1 = f t.2.1 := Int.min_eq_right (by show f t.2.1 ≤ f t.1; omega)
      have e2 : (nrm (ren f t)).2.1 = f t.1 := Int.max_eq_left (by show f t.2.1 ≤ f t.1; omega)
      exact e1 ▸ Reach.bwd r hm e2
  have step2 : ∀ t ∈ ts, ∀ x, Reach (made (ts.map (ren f))) x (f t.2.1) → Reach (made (ts.map (ren f))) x (f t.1) := fun t ht x r => r.trans (step t ht _ .here).symm
  induction h with
  | here => exact .here
  | fwd _ ht e ih => exact step _ ht _ (e ▸ ih)
  | bwd _ ht e ih => exact step2 _ ht _ (e ▸ ih)
theorem WebOk.ren {n : Int} {ts : List T3} (h : WebOk n ts) {f g : Int → Int} (hf : ∀ p, 0 ≤ p → p < n → 0 ≤ f p ∧ f p < n) (hg : ∀ p, 0 ≤ p → p < n → g (f p) = p) (hg2 : ∀ p, 0 ≤ p → p < n → (0 ≤ g p ∧ g p < n) ∧ f (g p) = p) : WebOk n (made (ts.map (WL.ren f))) := by
  refine ⟨h.lo, h.hi, (ren_loose h.rows hf hg).made, fun p p0 p1 => ?_⟩
  have hn := h.lo
  obtain ⟨⟨z0, z1⟩, z2⟩ := hg2 0 (by omega) (by omega)
  obtain ⟨⟨y0, y1⟩, y2⟩ := hg2 p p0 p1
  have r := (h.joined (g 0) z0 z1).symm.trans (h.joined (g p) y0 y1)
  have := reach_ren (f := f) r
  rw [z2, y2] at this
  exact this
end WL
namespace WL
open PySem PySem.Spec PyProof.Rows L2 Evl DL
structure A2 (k : Nat) (μ ν : Mu) (ds es : List PyData) : Prop where
  pot : Pot ν k
  len : ν.length = μ.length + 2
  A : ν[μ.length]? = some (.lst ds)
  B : ν[μ.length + 1]? = some (.lst es)
  old : ∀ j, j < μ.length → j ≠ k → ν[j]? = μ[j]?
section
variable {k : Nat} {μ ν ν' : Mu} {ds es fs : List PyData} {Q : DQ} {d : PyData}
theorem A2.start (hp : Pot μ k) : A2 k μ (μ ++ [.lst ds] ++ [.lst es]) ds es := by
  have hk := hp.lt
  refine ⟨?_, by simp, ?_, ?_, fun j hj _ => ?_⟩
  · obtain ⟨p0, p1, e, q⟩ := hp
    exact ⟨p0, p1, by rw [List.append_assoc, List.getElem?_append_left hk]; exact e, q⟩
  · rw [List.append_assoc, List.getElem?_append_right (Nat.le_refl _), Nat.sub_self]
    rfl
  · rw [List.append_assoc, List.getElem?_append_right (by omega), show μ.length + 1 - μ.length = 1 by omega]
    rfl
  · rw [List.append_assoc]
    exact List.getElem?_append_left hj
theorem A2.ch (h : A2 k μ ν ds es) (hk : k < μ.length) (c : Ch k ν ν') : A2 k μ ν' ds es :=
  ⟨c.1, c.2.1.trans h.len, (c.2.2 _ (by omega)).trans h.A, (c.2.2 _ (by omega)).trans h.B, fun j hj hk => (c.2.2 j hk).trans (h.old j hj hk)⟩
theorem A2.end (h : A2 k μ ν ds es) (hk : k < μ.length) : Ch k μ (ν.take μ.length) := by
  have hl := h.len
  obtain ⟨p0, p1, e, q⟩ := h.pot
  refine ⟨⟨p0, p1, by rw [List.getElem?_take_of_lt hk]; exact e, q⟩, by rw [List.length_take]; omega, fun j hj => ?_⟩
  by_cases hl' : j < μ.length
  · rw [List.getElem?_take_of_lt hl']
    exact h.old j hl' hj
  · rw [List.getElem?_eq_none (by rw [List.length_take]; omega), List.getElem?_eq_none (by omega)]
end
end WL
namespace DL
open PySem PySem.Spec PyProof.Rows L2 Evl PySem.W
section
variable {prog : Program} {w : World} {A : Around} {E : Value → Shared → Prop} {s : Shared}
end
section
variable {X : Cx}
variable {e : Expr} {es : List Expr} {p pos : Pos} {k : Nat}
end
end DL
namespace DL
open PySem PySem.Spec PyProof.Rows L2 Evl
open PySem.W (alike alikeAll dataLt)
section
variable {X : Cx} {K : PySem.W.Frag} {pos : Pos}
end
end DL
namespace DL
open PySem PySem.Spec PyProof.Rows L2 Evl PySem.W
section
variable {X : Cx}
end
section
variable {X : Cx} {e : Expr} {es : List Expr} {p pos : Pos} {k : Nat}
end
end DL
namespace DL
open PySem PySem.Spec PyProof.Rows L2 Evl
section
variable {X : Cx} {K : PySem.W.Frag}
end
end DL
namespace DL
open PySem PySem.Spec PyProof.Rows L2 Evl
section
variable {P : Program} {w : World} {A : Around}
end
section
variable {X : Cx} {pins : List (Addr × Obj)} {σ : L2.St} {H : Hp} {s : Shared}
end
end DL
namespace DL
open PySem PySem.Spec PyProof.Rows L2 Evl
section
variable {X : Cx} {p pos : Pos}
end
end DL
namespace DL
open PySem PySem.Spec PyProof.Rows L2 Evl
section
variable {X : Cx}
end
section
variable {X : Cx} {K : PySem.W.Frag}
end
end DL
namespace WL
open PySem PySem.Spec PyProof.Rows L2 Evl DL
theorem pot_fin {μ : Mu} {Q' : DQ} {cell y m : Int} (hm : 0 < m ∧ m < 2 ^ 39) (h : ∀ (p0 p1 : Int), 0 ≤ p0 → 0 ≤ p1 → p1 < 2 ^ 40 → Q' (Sl.cell (List.length μ)) (μ ++ [Cell.lst [PyData.int p0, PyData.int p1]])) :
    Q' (Sl.cell μ.length) (μ ++ [Cell.lst [.int (if 1000000000000000000 < cell then cell - 1000000000000000000 else 0), .int (y.fmod m + 1)]]) := by
  have f := fmod_lt (a := y) hm.1
  refine h _ _ ?_ (by omega) (by omega)
  split <;> omega
end WL
namespace WL
open PySem PySem.Spec PyProof.Rows L2 Evl DL
def dPot3 (a b c1 c2 c3 m1 m2 : Int) : DS := (dSeq (dAsg (dIf (dTest (dOp wLt (dVar 1) (dCB fLen (aCons (dVar 0) aNil)))) (dCB fAbs (aCons (dOp DL.rIx (dVar 0) (dVar 1)) aNil)) (dOp DL.rAdd (dOp DL.rMul (dC (.int a)) (dVar 1)) (dC (.int b)))) 2)
    (dRet (dLstC (aCons (dCB fMax2 (aCons (dC (.int 0)) (aCons (dOp DL.rSub (dVar 2) (dOp rPw (dC (.int 10)) (dC (.int 18)))) aNil))) (aCons (dOp DL.rAdd (dOp DL.rMd (dCB fInt (aCons (dOp DL.rAdd (dOp DL.rAdd (dOp DL.rMul (dOp DL.rMd (dCB fInt (aCons (dVar 2) aNil)) (dC (.int m1))) (dC (.int c1))) (dOp DL.rMul (dC (.int c2)) (dVar 1))) (dC (.int c3))) aNil)) (dC (.int m2))) (dC (.int 1))) aNil)))))
theorem pot_gen3 {a b c1 c2 c3 m1 m2 : Int} (hC : PotC a b m1 c1 c2 c3 m2) : Pure ["script", "k", "cell"] 2 WL.ph_law_pot (dPot3 a b c1 c2 c3 m1 m2) := by
  intro ss μ Q' hl h
  obtain ⟨ns, k, rfl, hk, h⟩ := h
  have z1 := hC.m1
  have z2 := hC.m2
  have q1 : CMulW a k := hC.a.cmul (k := 40) (sm_of hk.1 (by omega)) (by decide) (by decide)
  have q2 : CMulW c2 k := hC.c2.cmul (k := 40) (sm_of hk.1 (by omega)) (by decide) (by decide)
  have q3 : ∀ z : Int, CMulW (z.fmod m1) c1 := fun z => by
    have f := fmod_lt (a := z) z1.1
    exact (sm_of (k := 40) f.1 (by omega)).cmul hC.c1 (by decide) (by decide)
  have n1 : m1 ≠ 0 := by omega
  have n2 : m2 ≠ 0 := by omega
  by_cases c : k < ns.length
  · obtain ⟨x, hx⟩ : ∃ x, atI (ns.map PyData.int) k = some (.int x) := by
      obtain ⟨d, hd, e⟩ := atI_lt (ds := ns.map PyData.int) hk.1 (by simpa using c)
      obtain ⟨x, _, rfl⟩ := List.mem_map.mp hd
      exact ⟨x, e⟩
    simp [dPot3, startD, cp18, c, rix_l hx, o_finC, q1, q2, q3, n1, n2]
    exact .inr (pot_fin z2 h)
  · simp [dPot3, startD, cp18, c, o_finC, q1, q2, q3, n1, n2]
    exact .inr (pot_fin z2 h)
end WL
namespace K27
open PySem PySem.Spec PyProof.Rows L2 Evl DL
open WL
def ownD (n : Int) (ts : List T3) : PyData := .tuple [.int n, .list (ts.map tieD)]
def asRow : PyData → Option (List Int)
  | .tuple ds => intsOf ds
  | _ => none
def goes (ts : List T3) (xs : List Int) (f : T3 → Int) (p : Int) : Int := (((ts.zip xs).filter fun z => decide (f z.1 = p)).map (·.2)).sum
def awayI (ts : List T3) (xs : List Int) (p : Int) : Int := goes ts xs (·.1) p - goes ts xs (·.2.1) p
end K27
namespace DL
open PySem PySem.Spec PyProof.Rows L2 Evl
section
variable {K : PySem.W.Frag} {W : Wd} {H : Hp} {μ : Mu}
theorem RefsAll.cons {xs : List V} {es : List (Nat ⊕ PyData)} {e : Nat ⊕ PyData} {u : V} (h : RefsAll K W xs es) (q : ItOk1 K W u e) : RefsAll K W (u :: xs) (e :: es) := by
  refine ⟨by simp [h.1], fun i f z => ?_⟩
  cases i with
  | zero => simp at z; subst z; exact ⟨u, by simp, q⟩
  | succ i => obtain ⟨b, z1, z2⟩ := h.2 i f (by simpa using z); exact ⟨b, by simpa using z1, z2⟩
theorem RefsAll.snoc {xs : List V} {es : List (Nat ⊕ PyData)} {e : Nat ⊕ PyData} {u : V} (h : RefsAll K W xs es) (q : ItOk1 K W u e) : RefsAll K W (xs ++ [u]) (es ++ [e]) := by
  refine ⟨by simp [h.1], fun i f z => ?_⟩
  by_cases c : i < es.length
  · rw [List.getElem?_append_left c] at z
    obtain ⟨b, z1, z2⟩ := h.2 i f z
    exact ⟨b, by rw [List.getElem?_append_left (by rw [h.1]; exact c)]; exact z1, z2⟩
  · rw [List.getElem?_append_right (by omega)] at z
    have hz := (List.getElem?_eq_some_iff.mp z).1
    have e0 : i - es.length = 0 := by simpa using hz
    rw [e0] at z
    have : e = f := by simpa using z
    subst this
    refine ⟨u, ?_, q⟩
    rw [List.getElem?_append_right (by rw [h.1]; omega), h.1, e0]
    rfl
def Wd.newF (W : Wd) (p : Addr) (o : HO) : Wd := ⟨W.G, upd W.F p o, W.ad⟩
theorem Le.newF (r : Rep K W H μ) {p : Addr} {o : HO} (hp : H p = none) : Le W (W.newF p o) := by
  obtain ⟨h1, h2⟩ := r.fresh hp
  exact ⟨Ex.refl _, Ex.new h1, fun b _ hg _ => hg, fun _ _ h => h⟩
theorem Rep.newF (r : Rep K W H μ) {p : Addr} {o : HO} (hp : H p = none) : Rep K (W.newF p o) (upd H p o) μ := by
  obtain ⟨h1, h2⟩ := r.fresh hp
  refine ⟨fun a u h => ?_, ex_upd r.fh, r.len, r.nd, fun k a c ha hc => ?_, r.tab⟩
  · show upd W.F p o a = some u
    rw [upd_ne (show a ≠ p from fun z => by subst z; replace h : W.G _ = some u := h; rw [h2] at h; cases h)]
    exact r.gf a u h
  · obtain ⟨q1, o', q2, q3⟩ := r.cell k a c ha hc
    have ne : a ≠ p := fun z => by rw [z, hp] at q2; cases q2
    refine ⟨?_, o', ?_, q3⟩
    · show upd W.F p o a = none
      rw [upd_ne ne]; exact q1
    · rw [upd_ne ne]; exact q2
theorem Rep.chF (r : Rep K W H μ) {p : Addr} {o o' : HO} (hF : W.F p = some o) (hG : W.G p = none) : Rep K (W.newF p o') (upd H p o') μ := by
  refine ⟨fun a u h => ?_, ex_upd r.fh, r.len, r.nd, fun k a c ha hc => ?_, r.tab⟩
  · show upd W.F p o' a = some u
    rw [upd_ne (show a ≠ p from fun z => by subst z; replace h : W.G _ = some u := h; rw [hG] at h; cases h)]
    exact r.gf a u h
  · obtain ⟨q1, o1, q2, q3⟩ := r.cell k a c ha hc
    have ne : a ≠ p := fun z => by rw [z, hF] at q1; cases q1
    refine ⟨?_, o1, ?_, q3⟩
    · show upd W.F p o' a = none
      rw [upd_ne ne]; exact q1
    · rw [upd_ne ne]; exact q2
theorem Le.chF {W2 : Wd} (r : Rep K W H μ) {p : Addr} {xs : List V} {o' : HO} (hp : H p = none) (l : Le (W.newF p (.lst xs)) W2) : Le W (W2.newF p o') ∧ W2.F p = some (.lst xs) ∧ W2.G p = none := by
  obtain ⟨h1, h2⟩ := r.fresh hp
  have e1 : (W.newF p (.lst xs)).F p = some (.lst xs) := upd_same
  have e2 := l.f _ _ e1
  have e3 : W2.G p = none := l.n p (by rw [e1]; exact fun z => by cases z) h2 (fun ys z => by rw [e1] at z; cases z)
  refine ⟨⟨l.g, fun b u hb => ?_, fun b hb hg ht => ?_, l.a⟩, e2, e3⟩
  · have ne : b ≠ p := fun z => by subst z; rw [h1] at hb; cases hb
    show upd W2.F p o' b = some u
    rw [upd_ne ne]
    exact l.f b u (by show upd W.F p _ b = some u; rw [upd_ne ne]; exact hb)
  · have ne : b ≠ p := fun z => hb (z ▸ h1)
    have e : (W.newF p (.lst xs)).F b = W.F b := upd_ne ne
    exact l.n b (by rw [e]; exact hb) hg (fun ys => by rw [e]; exact ht ys)
end
section
variable {X : Cx} {K : PySem.W.Frag}
end
end DL
namespace DL
open PySem PySem.Spec PyProof.Rows L2 Evl
section
variable {X : Cx}
def fSumLT : DRA := arg1 fun d _ μ Q => match d with
  | .list ds => match intsOf ds with
    | some is => Q (.dat (.int is.sum)) μ
    | none => False
  | .tuple ds => match intsOf ds with
    | some is => Q (.dat (.int is.sum)) μ
    | none => False
  | _ => False
variable {e : Expr} {es : List Expr} {p pos : Pos}
theorem ints_of_map : ∀ ns : List Int, intsOf (ns.map PyData.int) = some ns
  | [] => rfl
  | b :: r => by simp [intsOf, ints_of_map r]
@[simp ↓] theorem o_sumL {ns : List Int} {μ : Mu} {Q : DQ} : fSumLT [.dat (.list (ns.map PyData.int))] μ Q = Q (.dat (.int ns.sum)) μ := by simp [fSumLT, arg1, ints_of_map]
@[simp ↓] theorem o_sumT {ns : List Int} {μ : Mu} {Q : DQ} : fSumLT [.dat (.tuple (ns.map PyData.int))] μ Q = Q (.dat (.int ns.sum)) μ := by simp [fSumLT, arg1, ints_of_map]
end
end DL
namespace K52
open PySem PySem.Spec PyProof.Rows L2 Evl DL
open WL
def intsL (xs : List Int) : PyData := .list (xs.map PyData.int)
def ph_are_integers : DF := fun ss μ Q => ∃ s ds, ss = [s] ∧ (s = .dat (.tuple ds) ∨ s = .dat (.list ds)) ∧ ds.length ≤ 1000 ∧ Q (.dat (.bool (ds.all isW))) μ
end K52
namespace K52
open PySem PySem.Spec PyProof.Rows L2 Evl DL
def ds_are_integers : DS := (dRet (dCB fAll (aCons (dLc (iSeq (dVar 0)) (gN 1) dYes (dCall 1 WL.ph_is_integer (aCons (dVar 1) aNil)) [1]) aNil)))
end K52
namespace K27
open PySem PySem.Spec PyProof.Rows L2 Evl DL
end K27
namespace K27
open PySem PySem.Spec PyProof.Rows L2 Evl DL
open WL
theorem zw_ties {ts : List T3} {xs : List Int} : List.zipWith (fun d e => PyData.tuple [d, e]) (ts.map tieD) (xs.map PyData.int) = (ts.zip xs).map fun z => PyData.tuple [tieD z.1, .int z.2] := by
  rw [List.zipWith_map, ← List.map_uncurry_zip_eq_zipWith]
  rfl
def zD (z : T3 × Int) : PyData := .tuple [tieD z.1, .int z.2]
theorem zip_ci {ts : List T3} {xs : List Int} {a b : DE} {ρ : Rho} {μ : Mu} (h1 : ∀ R : DQ, a ρ μ R = R (.dat (tiesD ts)) μ) (h2 : ∀ R : DQ, b ρ μ R = R (.dat (rowI xs)) μ) (R : List Sl → (Mu → Prop) → Mu → Prop) :
    iZp (aCons a (aCons b aNil)) ρ μ R = R (((ts.zip xs).map zD).map .dat) (fun _ => True) μ := by
  have : (ts.zip xs).map zD = List.zipWith (fun d e => PyData.tuple [d, e]) (ts.map tieD) (xs.map PyData.int) := zw_ties.symm
  rw [this]
  unfold tiesD at h1
  unfold rowI at h2
  simp only [iZp, e_aCons, e_aNil, h1, h2, e_rdD, zipS_dat]
end K27
namespace K27
open PySem PySem.Spec PyProof.Rows L2 Evl DL
open WL
section
variable {μ : Mu} {Q : DQ} {n p q : Int} {ts : List T3} {d : PyData} {xs : List Int} {ds : List PyData}
end
theorem intsOf_all : ∀ {ds : List PyData}, (ds.all isW = true → ∃ xs, intsOf ds = some xs ∧ ds = xs.map PyData.int) ∧ (ds.all isW = false → intsOf ds = none)
  | [] => ⟨fun _ => ⟨[], rfl, rfl⟩, fun h => by cases h⟩
  | d :: ds => by
    have ih := @intsOf_all ds
    rw [List.all_cons]
    cases d with
    | int i =>
      refine ⟨fun h => ?_, fun h => ?_⟩
      · obtain ⟨xs, e1, e2⟩ := ih.1 (by simpa [isW] using h)
        exact ⟨i :: xs, by simp [intsOf, e1], by rw [e2, List.map_cons]⟩
      · have := ih.2 (by simpa [isW] using h)
        simp [intsOf, this]
    | _ => exact ⟨fun h => by simp [isW] at h, fun _ => rfl⟩
theorem asRow_row {xs : List Int} : asRow (rowI xs) = some xs := by
  have : ∀ xs : List Int, intsOf (xs.map PyData.int) = some xs := fun xs => by
    induction xs with
    | nil => rfl
    | cons a r ih => simp [intsOf, ih]
  exact this xs
end K27
namespace K27
open PySem PySem.Spec PyProof.Rows L2 Evl DL
open WL
section
variable {μ : Mu} {Q : DQ} {n p q : Int} {ts : List T3} {c : List Int} {k : Nat}
@[simp ↓] theorem ix_o0 : DL.rIx (.dat (ownD n ts)) (.dat (.int 0)) μ Q = Q (.dat (.int n)) μ := ix_0
@[simp ↓] theorem ix_o1 : DL.rIx (.dat (ownD n ts)) (.dat (.int 1)) μ Q = Q (.dat (.list (ts.map tieD))) μ := ix_1
end
end K27
namespace K27
open PySem PySem.Spec PyProof.Rows L2 Evl DL
open WL
section
variable {D : DEnds} {k : Nat} {μ : Mu} {n : Int} {s1 s2 : Option Sl}
end
end K27
namespace K27
open PySem PySem.Spec PyProof.Rows L2 Evl DL
open WL
theorem pl_at {β : Type} {n p : Int} (f : Int → β) (h : 0 ≤ p ∧ p < n) : ((placesL n).map f)[p.toNat]? = some (f p) := by
  unfold placesL
  rw [List.map_map, List.getElem?_map, List.getElem?_range (by omega)]
  show some (f ((p.toNat : Nat) : Int)) = _
  rw [Int.toNat_of_nonneg h.1]
theorem pl_set {β : Type} {n i : Int} (f : Int → β) (v : β) (h : 0 ≤ i ∧ i < n) : ((placesL n).map f).set i.toNat v = (placesL n).map fun p => if p = i then v else f p := by
  refine List.ext_getElem? fun j => ?_
  unfold placesL
  rw [List.map_map, List.map_map, List.getElem?_set, List.getElem?_map, List.getElem?_map, List.length_map, List.length_range]
  by_cases hj : j < n.toNat
  · rw [List.getElem?_range hj]
    by_cases e : i.toNat = j
    · rw [if_pos e, if_pos (by omega)]
      show some v = some (if ((j : Nat) : Int) = i then v else _)
      rw [if_pos (by omega)]
    · rw [if_neg e]
      show some (f (j : Int)) = some (if ((j : Nat) : Int) = i then v else f (j : Int))
      rw [if_neg (by omega)]
  · rw [List.getElem?_eq_none (l := List.range n.toNat) (by rw [List.length_range]; omega)]
    by_cases e : i.toNat = j
    · rw [if_pos e, if_neg (by omega)]; rfl
    · rw [if_neg e]; rfl
def awayZ (zs : List (T3 × Int)) (p : Int) : Int := ((zs.filter fun z => decide (z.1.1 = p)).map (·.2)).sum - ((zs.filter fun z => decide (z.1.2.1 = p)).map (·.2)).sum
def leftZ (n : Int) (zs : List (T3 × Int)) : List PyData := ((placesL n).map (awayZ zs)).map PyData.int
theorem away_snoc (zs : List (T3 × Int)) (z : T3 × Int) (p : Int) : awayZ (zs ++ [z]) p = awayZ zs p + (if z.1.1 = p then z.2 else 0) - (if z.1.2.1 = p then z.2 else 0) := by
  unfold awayZ
  rw [List.filter_append, List.filter_append, List.map_append, List.map_append, List.sum_append, List.sum_append]
  have e : ∀ (b : Bool), (([z].filter fun _ => b).map (·.2)).sum = if b = true then z.2 else 0 := fun b => by cases b <;> simp
  have e1 : (([z].filter fun z => decide (z.1.1 = p)).map (·.2)).sum = if z.1.1 = p then z.2 else 0 := by
    by_cases c : z.1.1 = p <;> simp [c]
  have e2 : (([z].filter fun z => decide (z.1.2.1 = p)).map (·.2)).sum = if z.1.2.1 = p then z.2 else 0 := by
    by_cases c : z.1.2.1 = p <;> simp [c]
  rw [e1, e2]
  omega
theorem left_len {n : Int} {zs : List (T3 × Int)} : (leftZ n zs).length = n.toNat := by
  unfold leftZ placesL
  rw [List.length_map, List.length_map, List.length_map, List.length_range]
theorem left_at {n : Int} {zs : List (T3 × Int)} {p : Int} (h : 0 ≤ p ∧ p < n) : atI (leftZ n zs) p = some (.int (awayZ zs p)) := by
  have := atI_nat (xs := leftZ n zs) (j := p.toNat) (v := .int (awayZ zs p)) (by
    unfold leftZ
    rw [List.map_map]
    exact pl_at (fun p => PyData.int (awayZ zs p)) h)
  rw [Int.toNat_of_nonneg h.1] at this
  exact this
theorem left_step {n : Int} {zs : List (T3 × Int)} {z : T3 × Int} (h1 : 0 ≤ z.1.1 ∧ z.1.1 < n) (h2 : 0 ≤ z.1.2.1 ∧ z.1.2.1 < n) (ne : z.1.1 ≠ z.1.2.1) :
    ((leftZ n zs).set z.1.1.toNat (.int (awayZ zs z.1.1 + z.2))).set z.1.2.1.toNat (.int (awayZ zs z.1.2.1 - z.2)) = leftZ n (zs ++ [z]) := by
  unfold leftZ
  rw [List.map_map, List.map_map, pl_set _ _ h1, pl_set _ _ h2]
  refine List.map_congr_left fun p hp => ?_
  show (if p = z.1.2.1 then PyData.int (awayZ zs z.1.2.1 - z.2) else if p = z.1.1 then PyData.int (awayZ zs z.1.1 + z.2) else PyData.int (awayZ zs p)) = PyData.int (awayZ (zs ++ [z]) p)
  rw [away_snoc]
  by_cases c2 : z.1.2.1 = p
  · rw [if_pos c2.symm, if_neg (fun e => ne (e.trans c2.symm)), if_pos c2, c2]
    congr 1
    omega
  · rw [if_neg (fun e => c2 e.symm), if_neg c2]
    by_cases c1 : z.1.1 = p
    · rw [if_pos c1.symm, if_pos c1, c1]
      congr 1
      omega
    · rw [if_neg (fun e => c1 e.symm), if_neg c1]
      congr 1
      omega
theorem ixN_left {n : Int} {l : Nat} {i : Int} (hl : l = n.toNat) (h : 0 ≤ i ∧ i < n) : ixN l i = some i.toNat := by
  unfold ixN
  rw [if_pos h.1, if_pos (by omega)]
end K27
namespace K52
open PySem PySem.Spec PyProof.Rows L2 Evl DL
open WL
open K27 (asRow awayI awayZ goes asRow_row intsOf_all zD zip_ci leftZ left_at left_len left_step ixN_left)
theorem pu_are_integers : Pure ["value", "number"] 1 ph_are_integers ds_are_integers := by
  intro ss μ Q' hl h
  obtain ⟨s, ds, rfl, hs, hd, h⟩ := h
  have key : ∀ s : Sl, Sq μ s ds → (dRet (dCB fAll (aCons (dLc (iSeq (dVar 0)) (gN 1) dYes (dCall 1 WL.ph_is_integer (aCons (dVar 1) aNil)) [1]) aNil))) ⟨fun _ μ' => finQ μ.length Q' (.dat .none) μ', finQ μ.length Q', fun _ _ => False, fun _ _ => False⟩ [some s, none] μ := fun s hs => by
    obtain ⟨C, c0, c1, ci⟩ := iSeq_ok (i := 0) (ρ := [some s, none]) (μ := μ) rfl hs
    have L := fun Q => lc_map (g := gN 1) (e := dCall 1 WL.ph_is_integer (aCons (dVar 1) aNil)) (vs := [1]) (Q := Q) (fun d => PyData.bool (isW d)) ci (fun _ => c1 _) (sz hd) (fun x hx acc R => by
      simp [wipeD])
    have e : (ds.map fun d => PyData.bool (isW d)) = (ds.map isW).map PyData.bool := by rw [List.map_map]; rfl
    rw [e] at L
    have e2 : (ds.map isW).all id = ds.all isW := by rw [List.all_map]; rfl
    simpa [startD, L, e2, -List.map_map, -List.all_map] using h
  rcases hs with rfl | rfl
  · exact key _ .dt
  · exact key _ .dl
section
variable {μ : Mu} {Q : DQ} {n p : Int} {ts : List T3} {d : PyData} {xs : List Int} {ds : List PyData} {k : Nat}
end
end K52
namespace WL
open PySem PySem.Spec PyProof.Rows L2 Evl DL
section
variable {k m : Nat} {μ ν ν0 ν' : Mu} {cs : List Cell} {c d : Cell} {Q : DQ}
end
section
variable {k m : Nat} {ν0 : Mu} {cs : List Cell} {c d e : Cell} {Q : DQ}
end
end WL
namespace DL
open PySem PySem.Spec PyProof.Rows L2 Evl
structure ErrT (K : PySem.W.Frag) (mg : Str → Option Value) (x f : Str) (st : Stmt) (q : Str) (C fI : Addr) : Prop where
  gC : mg x = some (.ref C)
  oex : OexC K C
  xfc : XfC K C
  noF : PySem.W.findIn K (.ref C) f = some none
  iC : PySem.W.findIn K (.ref C) "__init__" = some (some (.ref fI))
  tI : PySem.W.typeIn K (.ref fI) = some (.type "function")
  te : PySem.W.exmOne K (.ref C) (.ref C) = some true
  fn : ∃ fd, Fun K "__init__" q st fI fd
def spInit (K : PySem.W.Frag) (f : Str) (C : Addr) : Sp := fun vs H Q _ => ∃ (a : Addr) (y : V), vs = [.ref a, y] ∧ H a = some (exo a C none) ∧ ∀ dx, H dx = none → dx ≠ a → Q .non (upd (upd H dx (exd dx [(f, y)])) a (exo a C (some dx)))
section
variable {P : Program} {w : World} {K : PySem.W.Frag} {mg : Str → Option Value} {base : Heap} {x f q : Str} {st : Stmt} {C fI : Addr}
abbrev DFX := List Sl → Mu → DQ → DQ → Prop
def SpX (K : PySem.W.Frag) (n : Nat) (f : Str) (C : Addr) (φ : DFX) : Sp := fun vs H Q E => ∃ W ss μ Q' R', vs.length = n ∧ SlAll K W vs ss ∧ Rep K W H μ ∧ φ ss μ Q' R' ∧ VOk K W Q' Q ∧
  ∀ v s W' H' μ' dx, Le W W' → Rep K W' H' μ' → SlOk K W' v s → H' dx = some (.xd [(f, v)]) → R' s μ' → E (.ref C) (some dx) H'
theorem Rep.ex {W : Wd} {H H' : Hp} {μ : Mu} (r : Rep K W H μ) (e : Ex H H') : Rep K W H' μ :=
  ⟨r.gf, r.fh.trans e, r.len, r.nd, fun k a c ha hc => let ⟨z1, o, z2, z3⟩ := r.cell k a c ha hc; ⟨z1, o, e a o z2, z3⟩, r.tab⟩
end
section
variable {X : Cx} {x f q : Str} {st : Stmt} {C fI : Addr}
theorem mk_err {K : PySem.W.Frag} {y : V} {H1 : Hp} {Q : XK} (h : ∀ dx H', Ex H1 H' → H' dx = some (.xd [(f, y)]) → Q (.ref C) (some dx) H') : ([y] : List V).length ≤ 1000 ∧ ∀ a, H1 a = none → spInit K f C (.ref a :: ([y] ++ [])) (upd H1 a (exo a C none))
    (fun v H2 => v = .non ∧ ∃ (d : Addr) (fs : List (Str × V)), H2 a = some (exo a C (some d)) ∧ H2 d = some (exd d fs) ∧ H1 d = none ∧ Q (.ref C) (some d) (upd (del H2 a) d (.xd fs))) (fun _ _ _ => False) := by
  refine ⟨by simp, fun a ha => ⟨a, y, rfl, upd_same, fun dx h1 h2 => ⟨rfl, dx, [(f, y)], upd_same, ?_, ?_, ?_⟩⟩⟩
  · rw [upd_ne h2, upd_same]
  · rw [upd_ne h2] at h1; exact h1
  · have hd : H1 dx = none := by rw [upd_ne h2] at h1; exact h1
    refine h dx _ (fun b o e => ?_) upd_same
    have nb : b ≠ dx := fun z => by subst z; rw [hd] at e; cases e
    have na : b ≠ a := fun z => by subst z; rw [ha] at e; cases e
    rw [upd_ne nb, del_ne na, upd_ne na, upd_ne nb, upd_ne na]
    exact e
variable {CX : CXT} {k : Nat} {g : Addr} {fd : FuncData} {ps : List Str} {sp : Sp} {E : L2.St → XK} {y : Str} {p pos : Pos} {e : Expr} {es : List Expr} {t : TA}
theorem pe_callSG (F : FnG X.prog X.w X.K X.mg X.base CX k g fd ps sp) (hr : RoomG k X.A) (hg : Gl X y) (hm : X.mg y = some (.ref g)) (hk : PySem.W.keepIn X.K (.ref g) = true) (hb : Binds X.K fd ps []) (hx : ∀ σ, PassesAt CX X σ (E σ))
    (ha : PA X (e :: es) t) (hdb : (y == ("__debug__" : Str)) = false := by decide) (he : starEach (e :: es) X.env = (false, eval e X.env) :: starEach es X.env := by rfl) (hpl : (backTo pos (starEach es X.env)).any (·.1) = false := by rfl) :
    PE X (.Call (.Name y p) (e :: es) [] pos) (tCallS sp E t) := by
  refine ⟨fun pins s σ H Q I h => wpAny_Call_Name_kw (ld_glob I hg hm ?_ hdb)⟩
  refine PySem.W.callWith_K (h₀ := X.base) I.ok.mod.kin hk (thn (ha.run pos pins s σ H _ I h) fun us s1 z => ?_) he hpl
  obtain ⟨vs, H1, I1, r, q⟩ := z
  have hl : us.length = ps.length := by rw [← r.length]; exact F.len _ _ _ _ q
  have b := hb s1 us I1.kIn (by rw [List.append_nil]; exact hl)
  rw [List.append_nil] at b
  refine ⟨I1.kIn, wpAny_call (codeAny_mono (F.run X.A X.stack s1 H1 ⟨us, []⟩ us vs Q (E σ) hr I1.env0 b r q) fun r s' hq => ?_)⟩
  cases r with
  | error e => exact hx σ pins H1 s1 e s' I1 hq
  | ok fl => cases fl <;> first | exact I1.after hq | exact False.elim hq
theorem EnvOk.none {K : PySem.W.Frag} {W : Wd} {σ : L2.St} {ρ : Rho} (h : EnvOk K W σ ρ) (i : Nat) (o : Option V) : EnvOk K W (σ.set i o) (ρ.set i Option.none) := by
  refine ⟨by simp [h.len], fun j t e => ?_⟩
  by_cases hij : i = j
  · subst hij
    by_cases hl : i < ρ.length
    · rw [List.getElem?_set_self hl] at e; cases e
    · rw [List.getElem?_eq_none (by rw [List.length_set]; omega)] at e; cases e
  · rw [List.getElem?_set_ne hij] at e
    obtain ⟨w, h1, h2⟩ := h.get j t e
    exact ⟨w, by rw [List.getElem?_set_ne hij]; exact h1, h2⟩
structure OwnX (P : Program) (w : World) (K : PySem.W.Frag) (mg : Str → Option Value) (base : Heap) (y : Str) (st : Stmt) (ps : List Str) (k n : Nat) (f : Str) (C : Addr) (φ : DFX) : Prop where
  ex : ∃ g fd, Fun K y y st g fd ∧ FnG P w K mg base (L2.CX P w) k g fd ps (SpX K n f C φ) ∧ mg y = some (.ref g)
end
section
variable {K : PySem.W.Frag} {h : Heap} {mg : Str → Option Value} {x f q : Str} {st : Stmt} {C fI : Addr} {Z : Prop}
theorem err_of (X : K.In h) (G : h.Ns mainGlobals mg) {nm qn : Str} {N : Addr} {bs bm : List Value} {sn : List Str} {sub : List Value} {ab : Bool} {col : Option Bool} {dd : Option Addr} {m0 m1 m2 m3 m5 : Option Value} {od an : Option Addr} {sl : Array (Option Value)} {oc kV dc pm cd ct : Value}
    (aC : PySem.W.nsIn K mainGlobals x = some (some (.ref C))) (xL : K.lookup C = some (excClassObj nm qn C N bs bm true sn sub ab col dd m0 m1 m2 m3 m5 "ValueError.__new__")) (hbm : PySem.HandSPX.refsVE bm = true)
    (sa : PySem.W.findIn K (.ref C) "__setattr__" = some (some (.builtin "object.__setattr__"))) (ga : PySem.W.findIn K (.ref C) "__getattribute__" = some (some (.builtin "BaseException.__getattribute__"))) (gg : PySem.W.findIn K (.ref C) "__getattr__" = some none) (nb : PySem.W.findIn K (.ref C) f = some none)
    (a1 : PySem.W.findIn K (.ref C) "__init__" = some (some (.ref fI))) (t1 : PySem.W.typeIn K (.ref fI) = some (.type "function"))
    (l1 : K.lookup fI = some ⟨oc, od, .func (PySem.W.fnOf "__init__" q (defArgs st) (defBody st) (defScope st) .none kV dc pm an cd ct), sl⟩) (c1 : PySem.W.codeIn K cd q = true) (kf : PySem.W.keepIn K (.ref fI) = true)
    (kC : PySem.W.keepIn K (.ref C) = true) (eC : PySem.W.subIn K (.ref C) (.type "BaseException") = some true) (tC : PySem.W.typeIn K (.ref C) = some (.type "type")) (hC : PySem.W.hasDictIn K C = true) (sC : PySem.W.subIn K (.ref C) (.ref C) = some true)
    (z : ErrT K mg x f st q C fI → Z) : Z :=
  z { gC := PySem.W.mg_of X G aC, oex := ⟨⟨nm, qn, N, bs, bm, sn, sub, ab, col, dd, m0, m1, m2, m3, m5, xL, hbm⟩, sa, eC, tC, kC⟩, xfc := ⟨ga, gg, eC, hC⟩, noF := nb, iC := a1, tI := t1, te := PySem.W.exm_ref eC hC tC sC, fn := ⟨_, fun_mk l1 c1 kf⟩ }
end
end DL
namespace DL
open PySem PySem.Spec PyProof.Rows L2 Evl
section
variable {X : Cx}
end
end DL
namespace DL
open PySem PySem.Spec PyProof.Rows L2 Evl
section
variable {X : Cx}
end
section
variable {X : Cx} {K : PySem.W.Frag}
def taOf (K : PySem.W.Frag) (d : DA) : TA := fun σ H Q => ∃ W ρ μ Q', EnvOk K W σ ρ ∧ Rep K W H μ ∧ d ρ μ Q' ∧ AOk K W Q' Q
theorem PDA.of {X : Cx} {es : List Expr} {d : DA} (h : PDA X es d) : PA X es (taOf X.K d) := by
  obtain ⟨t, p, l⟩ := h
  exact ⟨fun cpos pins s σ H Q I ⟨W, ρ, μ, Q', he, r, hd, q⟩ => p.run cpos pins s σ H Q I (l ρ μ Q' hd W σ H he r Q q)⟩
variable {vx tg iter : Expr} {es : List Expr} {x1} {ifs : List Expr} {scope : Scope} {own : List (Str × Nat)} {pos kpos : Pos} {i : DI} {g : DG} {t : DT} {ak : DA} {ev : DE} {n : Nat}
end
end DL
namespace DL
open PySem PySem.Spec PyProof.Rows L2 Evl
section
variable {D : DEnds} {ρ : Rho} {μ : Mu} {Q : DQ}
end
section
variable {X : Cx} {K : PySem.W.Frag} {tg a b c e e2 : Expr} {p pos : Pos} {da : DA}
end
def rRevL : DR1 := fun x μ Q => match rd μ x with
  | some (.list ds) => Q (mk (isV x) (.list ds.reverse)) μ
  | _ => False
section
variable {X : Cx} {e : Expr} {k : Nat} {p1 p2 p3 pos : Pos} {d : DE} {ds : List PyData} {μ : Mu} {Q : DQ}
theorem pd_revL (ha : PD X e d) : PD X (.Subscript e (.Slice none none (some (.UnaryOp .USub (.Constant (.int 1) k p1) p2)) p3) pos) (dUn rRevL d) := by
  obtain ⟨t, q1, l1⟩ := ha
  refine ⟨_, pe_revL q1, fun ρ μ Q' h W σ H henv rp Q q => l1 ρ μ _ h W σ H henv rp _ fun v s W1 H1 μ1 le1 r1 hs h1 => ?_⟩
  replace h1 : (match rd μ1 s with | some (.list ds) => Q' (mk (isV s) (.list ds.reverse)) μ1 | _ => False) := h1
  split at h1
  · rename_i ds ee
    obtain ⟨a, xs, rfl, ht, hi⟩ := rd_lst r1 hs ee
    exact ⟨a, xs, rfl, ht, fun p hp => (q.le le1).newL r1 (DvAll.rev hi) h1 p hp⟩
  · exact h1.elim
@[simp ↓] theorem o_revL : rRevL (.dat (.list ds)) μ Q = Q (.dat (.list ds.reverse)) μ := rfl
end
end DL
namespace DL
open PySem PySem.Spec PyProof.Rows L2 Evl
section
variable {X : Cx} {a b : Expr} {da db : DE} {pos : Pos}
def bI (b : Bool) : Int := if b = true then 1 else 0
def numD : PyData → Option Int
  | .int i => some i
  | .bool c => some (bI c)
  | _ => none
def rNum (g : Int → Int → Int) : DR2 := fun x y μ Q => match rd μ x, rd μ y with
  | some d, some (.int j) => ∃ i, numD d = some i ∧ Q (.dat (.int (g i j))) μ
  | _, _ => False
def rAddB : DR2 := rNum (· + ·)
def rSubB : DR2 := rNum (· - ·)
@[simp ↓] theorem o_addB {d : PyData} {j : Int} {μ : Mu} {Q : DQ} : rAddB (.dat d) (.dat (.int j)) μ Q = ∃ i, numD d = some i ∧ Q (.dat (.int (i + j))) μ := rfl
@[simp ↓] theorem o_subB {d : PyData} {j : Int} {μ : Mu} {Q : DQ} : rSubB (.dat d) (.dat (.int j)) μ Q = ∃ i, numD d = some i ∧ Q (.dat (.int (i - j))) μ := rfl
variable {e : Expr} {es : List Expr} {p : Pos}
end
end DL
namespace DL
open PySem PySem.Spec PyProof.Rows L2 Evl
section
variable {X : Cx}
section
variable {ns : List Int} {μ : Mu} {Q : DQ}
end
end
end DL
namespace DL
open PySem PySem.Spec PyProof.Rows L2 Evl
def tiOf (K : PySem.W.Frag) (d : DI) : TI := fun σ H R => ∃ W ρ μ R', EnvOk K W σ ρ ∧ Rep K W H μ ∧ d ρ μ R' ∧ ∀ J ss C W' H' μ', Le W W' → Rep K W' H' μ' → ItOk K W' J ss C → R' ss C μ' → R J H'
theorem PDI.of {X : Cx} {tg e : Expr} {d : DI} (h : PDI X tg e d) : PI X tg e (tiOf X.K d) := by
  obtain ⟨t, p, l⟩ := h
  exact ⟨fun pins s σ H R I ⟨W, ρ, μ, R', he, r, hd, q⟩ => p.run pins s σ H R I (l ρ μ R' hd W σ H he r R q)⟩
section
variable {X : Cx} {K : PySem.W.Frag}
variable {elt tg iter tg1 iter1 : Expr} {ifs ifs1 : List Expr} {scope : Scope} {own : List (Str × Nat)} {pos : Pos} {i i1 : DI} {g g1 : DG} {t t1 : DT} {e : DE}
end
end DL
namespace WL
open PySem PySem.Spec PyProof.Rows L2 Evl DL
end WL
namespace WL
open PySem PySem.Spec PyProof.Rows L2 Evl DL
def Tied (ts : List T3) (a b : Int) : Prop := (if a < b then (a, b) else (b, a)) ∈ ts.map two
instance (ts : List T3) (a b : Int) : Decidable (Tied ts a b) := inferInstanceAs (Decidable (_ ∈ _))
def nexts : List Int → List (Int × Int)
  | a :: b :: r => (a, b) :: nexts (b :: r)
  | _ => []
def Goes (ts : List T3) (sp : List (Int × Int)) (a b : Int) : Prop := ∃ z ∈ ts.zip sp, (z.1.1 = a ∧ z.1.2.1 = b ∧ 0 < z.2.1) ∨ (z.1.2.1 = a ∧ z.1.1 = b ∧ 0 < z.2.2)
inductive Come (ts : List T3) (sp : List (Int × Int)) (a : Int) : Int → Prop
  | here : Come ts sp a a
  | on {b c : Int} : Come ts sp a b → Goes ts sp b c → Come ts sp a c
structure OpenW (ts : List T3) (sp : List (Int × Int)) (a b : Int) (w : List Int) : Prop where
  nd : w.Nodup
  first : w.head? = some a
  last : w.getLast? = some b
  goes : ∀ p ∈ nexts w, Goes ts sp p.1 p.2
structure Camed (ok : Int → Int → Prop) (a : Int) (cs : List (Int × Option Int)) : Prop where
  nd : (cs.map (·.1)).Nodup
  head : cs.head? = some (a, none)
  par : ∀ (i : Nat) (x : Int) (q : Option Int), cs[i]? = some (x, q) → (i = 0 ∧ q = none) ∨ ∃ (p : Int) (j : Nat) (q' : Option Int), q = some p ∧ j < i ∧ cs[j]? = some (p, q') ∧ ok p x
def atSum (ts : List T3) (p : Int) : Int := ((ts.filter fun t => decide (p = t.1) || decide (p = t.2.1)).map (·.2.2)).sum
def ph_summed_at : DF := fun ss μ Q => ∃ ts p, ss = [.dat (tiesD ts), .dat (.int p)] ∧ ts.length ≤ 100 ∧ Q (.dat (.int (atSum ts p))) μ
end WL
namespace WL
open PySem PySem.Spec PyProof.Rows L2 Evl DL
def ph_are_integers : DF := K52.ph_are_integers
structure WayOk (ts : List T3) (xs : List Int) : Prop where
  two_ : 2 ≤ xs.length
  nd : xs.Nodup
  on : ∀ p ∈ nexts xs, Tied ts p.1 p.2
instance (ts : List T3) (xs : List Int) : Decidable (WayOk ts xs) := decidable_of_iff (2 ≤ xs.length ∧ xs.Nodup ∧ ∀ p ∈ nexts xs, Tied ts p.1 p.2) ⟨fun ⟨a, b, c⟩ => ⟨a, b, c⟩, fun ⟨a, b, c⟩ => ⟨a, b, c⟩⟩
end WL
namespace WL
open PySem PySem.Spec PyProof.Rows L2 Evl DL
def ds_are_integers : DS := (dRet (dCB fAll (aCons (dLc (iSeq (dVar 0)) (gN 1) dYes (dCall 1 ph_is_integer (aCons (dVar 1) aNil)) [1]) aNil)))
end WL
namespace WL
open PySem PySem.Spec PyProof.Rows L2 Evl DL
end WL
namespace WL
open PySem PySem.Spec PyProof.Rows L2 Evl DL
open K27 (awayI goes zD zw_ties)
section
variable {n : Int} {ts : List T3} {μ : Mu} {Q : DQ}
end
end WL
namespace WL
open PySem PySem.Spec PyProof.Rows L2 Evl DL
theorem pu_are_integers : Pure ["value", "number"] 1 ph_are_integers ds_are_integers := K52.pu_are_integers
theorem WebOk.nd {n : Int} {ts : List T3} (h : WebOk n ts) : (ts.map two).Nodup := by
  refine List.pairwise_map.mpr (h.rows.up.imp fun {a b} l e => ?_)
  rw [e] at l
  unfold lexP at l
  omega
end WL
namespace DL
open PySem PySem.Spec PyProof.Rows L2 Evl
section
variable {K : PySem.W.Frag} {W : Wd} {H : Hp} {μ : Mu}
end
section
variable {X : Cx}
end
end DL
namespace DL
open PySem PySem.Spec PyProof.Rows L2 Evl
section
variable {K : PySem.W.Frag} {W W0 : Wd} {H : Hp} {μ : Mu}
def Wd.rest (W : Wd) (H : Hp) (n : Nat) : Wd := ⟨W.G, fun a => if a ∈ W.ad.drop n then H a else W.F a, W.ad.take n⟩
theorem mem_own {l : List Addr} {n : Nat} {a : Addr} : a ∈ l.drop n ↔ ∃ k, n ≤ k ∧ l[k]? = some a := by
  rw [List.mem_iff_getElem?]
  constructor
  · rintro ⟨i, h⟩
    rw [List.getElem?_drop] at h
    exact ⟨n + i, Nat.le_add_right .., h⟩
  · rintro ⟨k, hk, h⟩
    refine ⟨k - n, ?_⟩
    rw [List.getElem?_drop, Nat.add_sub_cancel' hk]
    exact h
theorem rest_some (r : Rep K W H μ) {n : Nat} {a : Addr} {o : HO} (h : W.F a = some o) : (W.rest H n).F a = some o := by
  show (if a ∈ W.ad.drop n then H a else W.F a) = _
  split
  · exact r.fh a o h
  · exact h
theorem Rep.rest (r : Rep K W H μ) (n : Nat) : Rep K (W.rest H n) H (μ.take n) := by
  refine ⟨fun a o h => rest_some r (r.gf a o h), fun a o h => ?_, by show (W.ad.take n).length = _; rw [List.length_take, List.length_take, r.len], fun i j a hi hj => r.nd i j a (take_some hi).1 (take_some hj).1, fun k a c ha hc => ?_, fun k P q h => by
    obtain ⟨h1, h2⟩ := take_some h
    show (W.ad.take n)[k]? = some P
    rw [List.getElem?_take_of_lt h2]
    exact r.tab k P q h1⟩
  · replace h : (if a ∈ W.ad.drop n then H a else W.F a) = some o := h
    split at h
    · exact h
    · exact r.fh a o h
  · obtain ⟨ha1, hkn⟩ := take_some ha
    obtain ⟨z1, o, z2, z3⟩ := r.cell k a c ha1 (take_some hc).1
    refine ⟨?_, o, z2, z3⟩
    show (if a ∈ W.ad.drop n then H a else W.F a) = none
    rw [if_neg]
    · exact z1
    · intro z
      obtain ⟨j, hj, hja⟩ := mem_own.mp z
      have := r.nd k j a ha1 hja
      omega
theorem Le.rest (l : Le W0 W) (r : Rep K W H μ) : Le W0 (W.rest H W0.ad.length) :=
  ⟨l.g, fun a o h => rest_some r (l.f a o h), l.n, fun k x h => by
    have hk : k < W0.ad.length := (List.getElem?_eq_some_iff.mp h).1
    show (W.ad.take W0.ad.length)[k]? = some x
    rw [List.getElem?_take_of_lt hk]
    exact l.a k x h⟩
end
section
variable {P : Program} {w : World} {K : PySem.W.Frag} {mg : Str → Option Value} {base : Heap}
end
section
variable {X : Cx} {K : PySem.W.Frag}
variable {elt tg iter : Expr} {ifs : List Expr} {scope : Scope} {own : List (Str × Nat)} {pos : Pos} {i : DI} {g : DG} {t : DT} {e : DE}
end
end DL
namespace DL
open PySem PySem.Spec PyProof.Rows L2 Evl
section
variable {prog : Program} {w : World} {A : Around} {E : Value → Shared → Prop} {s : Shared} {a b : Addr} {oa ob : Obj} {es es2 : Array DictEntry} {ep ep2 : Nat} {Q : Value → Shared → Prop}
end
end DL
namespace DLZ
open PySem PySem.Spec PyProof.Rows
open PySem.Sem (wp)
section
variable {prog : Program} {w : World} {A : Around} {E : Value → Shared → Prop} {s : Shared}
def ZSt (h : Heap) (z TI TO i1 i2 l1 l2 : Addr) (k : Nat) : Prop :=
  IsPair h TI (.ref i1) (.ref i2) ∧ h.IsTupleIter i1 l1 k ∧ h.IsTupleIter i2 l2 k ∧
    ((IsZip h z TI TO .none ∧ ∃ a b, IsPair h TO a b) ∨ ∃ T f oT, IsZipHeld h z TI TO T f ∧ h.get? T = some oT ∧ T ≠ z ∧ T ≠ i1 ∧ T ≠ i2)
theorem ZSt.at {h h' : Heap} {z TI TO i1 i2 l1 l2 : Addr} {k : Nat} (st : ZSt h z TI TO i1 i2 l1 l2 k) (k' : ∀ b o, h.get? b = some o → b = z ∨ b = TI ∨ b = TO ∨ b = i1 ∨ b = i2 → h'.get? b = some o) (kT : ∀ b o, h.get? b = some o → ∃ o', h'.get? b = some o') : ZSt h' z TI TO i1 i2 l1 l2 k := by
  obtain ⟨p, a1, a2, q⟩ := st
  refine ⟨k' _ _ p (by simp), a1.at fun o e => k' _ _ e (by simp), a2.at fun o e => k' _ _ e (by simp), ?_⟩
  rcases q with ⟨q, a, b, q'⟩ | ⟨T, f, oT, q, q', n1, n2, n3⟩
  · exact .inl ⟨k' _ _ q (by simp), a, b, k' _ _ q' (by simp)⟩
  · obtain ⟨o', e⟩ := kT _ _ q'
    exact .inr ⟨T, f, o', k' _ _ q (by simp), e, n1, n2, n3⟩
end
end DLZ
namespace DLZ
open PySem PySem.Spec PyProof.Rows L2 Evl DL
open PySem.Sem (wp)
inductive TN (S : Addr) (xs ys : List V) (H0 : Hp) : Nat → List Addr → Hp → Prop
  | nil : TN S xs ys H0 0 [] H0
  | snoc {i : Nat} {bs : List Addr} {H : Hp} {T : Addr} {x y : V} : TN S xs ys H0 i bs H → xs[i]? = some x → ys[i]? = some y → H T = none → T ≠ S → TN S xs ys H0 (i + 1) (bs ++ [T]) (upd H T (.tup [x, y]))
theorem TN.length {S : Addr} {xs ys : List V} {H0 H : Hp} {i : Nat} {bs : List Addr} (h : TN S xs ys H0 i bs H) : bs.length = i := by
  induction h with
  | nil => rfl
  | snoc _ _ _ _ _ ih => rw [List.length_append, ih]; rfl
section
variable {X : Cx} {pins : List (Addr × Obj)} {σ : L2.St}
end
end DLZ
namespace DL
open PySem PySem.Spec PyProof.Rows L2 Evl
section
variable {P : Program} {w : World} {A : Around} {E : Value → Shared → Prop} {s : Shared} {Kt : Type} [DecidableEq Kt] {knd : PySem.KeyKind P w Kt}
theorem setOf_keep {h h' : Heap} {a : Addr} {S : Kt → Bool} {n : Nat} (R : h.SetOf knd a S n) (k : ∀ o, h.get? a = some o → h'.get? a = some o) : h'.SetOf knd a S n := by
  obtain ⟨o, es, ep, t, ho, r⟩ := R
  exact ⟨o, es, ep, t, k o ho, r⟩
structure SetG (knd : PySem.KeyKind P w Kt) (h : Heap) (a : Addr) (us ks : List Kt) : Prop where
  nd : us.Nodup
  mem : ∀ k, k ∈ us ↔ k ∈ ks
  ob : h.SetOf knd a (fun j => decide (j ∈ us)) us.length
theorem SetG.keep {h h' : Heap} {a : Addr} {us ks : List Kt} (R : SetG knd h a us ks) (k : ∀ o, h.get? a = some o → h'.get? a = some o) : SetG knd h' a us ks := ⟨R.nd, R.mem, setOf_keep R.ob k⟩
end
def IsCntA (ks : List Leaf) (c : Nat) : Prop := ∃ us : List Leaf, us.Nodup ∧ (∀ k, k ∈ us ↔ k ∈ ks) ∧ us.length = c
section
variable {X : Cx}
end
section
variable {ds : List PyData} {ks : List Leaf} {ns : List Int} {μ : Mu} {Q : DQ}
theorem nodupLen {α : Type} [DecidableEq α] : ∀ {l m : List α}, l.Nodup → (∀ x ∈ l, x ∈ m) → l.length ≤ m.length
  | [], _, _, _ => Nat.zero_le _
  | x :: l, m, nd, h => by
    have n := List.nodup_cons.mp nd
    have hx := h x (List.mem_cons_self ..)
    have q := nodupLen (l := l) (m := m.erase x) n.2 fun y hy => (List.mem_erase_of_ne (fun e => n.1 (by rw [← e]; exact hy))).mpr (h y (List.mem_cons_of_mem _ hy))
    rw [List.length_erase_of_mem hx] at q
    have := List.length_pos_of_mem hx
    rw [List.length_cons]
    omega
theorem IsCntA.le {c : Nat} (h : IsCntA ks c) : c ≤ ks.length := by
  obtain ⟨us, nd, hm, hl⟩ := h
  rw [← hl]
  exact nodupLen nd fun k hk => (hm k).mp hk
end
end DL
namespace DL
open PySem PySem.Spec PyProof.Rows L2 Evl
section
variable {X : Cx} {e : Expr} {es : List Expr} {p pos : Pos} {k : Nat}
end
section
variable {X : Cx} {x f q : Str} {st : Stmt} {C fI : Addr}
end
end DL
namespace DL
open PySem PySem.Spec PyProof.Rows L2 Evl
open LamX
section
variable {K : PySem.W.Frag} {W : Wd} {H : Hp} {μ : Mu}
theorem Rep.tbl (r : Rep K W H μ) {k : Nat} {P : Addr} {q : Str} (h : μ[k]? = some (.tab P q)) : W.ad[k]? = some P ∧ W.F P = none ∧ ∃ ps, H P = some (.tbl ps) ∧ TblOk W.G q ps := by
  have ha := r.tab k P q h
  obtain ⟨q1, o, q2, q3⟩ := r.cell k P _ ha h
  cases o <;> first | exact False.elim q3 | skip
  exact ⟨ha, q1, _, q2, q3⟩
end
theorem TblOk.one {G G' : Hp} {q : Str} {ps : Array Value} {at0 : Pos} {c' : Addr} (t : TblOk G q ps) (k : ∀ b o, G b = some o → (∀ ps, o ≠ .tbl ps) → G' b = some o) (h : G' c' = some (CodeO c' q)) : TblOk G' q (ps ++ #[rawInt at0.line, rawInt at0.col, .ref c']) := by
  have e : (ps ++ #[rawInt at0.line, rawInt at0.col, .ref c']).toList = ps.toList ++ [rawInt at0.line, rawInt at0.col, .ref c'] := Array.toList_append
  unfold TblOk
  rw [e]
  constructor
  · exact PySem.TriplesOk_snoc _ _ _ _ t.1
  · intro at_ v hv
    refine (among_app _ t.1 hv).elim (fun z => ?_) fun z => ⟨c', z, h⟩
    have ⟨d, e1, e2⟩ := t.2 at_ v z
    exact ⟨d, e1, k d _ e2 codeO_ne⟩
section
variable {X : Cx} {pins : List (Addr × Obj)} {σ : L2.St} {H : Hp} {s : Shared}
structure LamAt (X : Cx) (pins : List (Addr × Obj)) (σ : L2.St) (H : Hp) (n : Nat) (P : Addr) (q : Str) (ps : Array Value) (o : Value → Addr → Value → Obj) (f c' : Addr) (H1 : Hp) (s' : Shared) : Prop where
  inv : Inv X pins σ H1 s'
  way : H1 = H ∨ ∃ more, H c' = none ∧ H1 = upd (upd H P (.tbl (ps ++ more))) c' (CodeO c' q) ∧ ∀ G G' : Hp, TblOk G q ps → (∀ b o, G b = some o → (∀ ps, o ≠ .tbl ps) → G' b = some o) → G' c' = some (CodeO c' q) → TblOk G' q (ps ++ more)
  fun_ : ∃ pm ctv, s'.heap.get? f = some (o pm c' ctv)
  off : H1 f = none
  nofr : f ∉ frs X.stack
  code : H1 c' = some (CodeO c' q)
  beyond : n ≤ f
end
end DL
namespace DL
open PySem PySem.Spec PyProof.Rows L2 Evl
open LamX
structure Kp (fs : List Addr) (s s' : Shared) : Prop where
  keep : ∀ b o, s.heap.get? b = some o → b ∉ fs → s'.heap.get? b = some o
  slot : ∀ b o, s.heap.get? b = some o → b ∈ fs → ∃ sl, s'.heap.get? b = some { o with slots := sl }
  os : s'.os = s.os
  bare : AllBare s'.gens
theorem Kp.refl {fs : List Addr} {s : Shared} (hb : AllBare s.gens) : Kp fs s s := ⟨fun _ _ e _ => e, fun b o e _ => ⟨o.slots, e⟩, rfl, hb⟩
theorem Kp.trans {fs : List Addr} {s s1 s2 : Shared} (a : Kp fs s s1) (b : Kp fs s1 s2) : Kp fs s s2 := ⟨fun c o e h => b.keep c o (a.keep c o e h) h, fun c o e h => by
  obtain ⟨sl, e1⟩ := a.slot c o e h
  obtain ⟨sl2, e2⟩ := b.slot c _ e1 h
  exact ⟨sl2, e2⟩, b.os.trans a.os, b.bare⟩
section
variable {P : Program} {w : World} {K : PySem.W.Frag} {mg : Str → Option Value} {base : Heap} {A : Around} {outer : List Env} {s s' : Shared} {H : Hp}
theorem Kp.hok (e0 : Env0 P w K mg base A outer s H) (k : Kp (frs outer) s s') : HOk P w H s'.heap := fun a u e => by
  have nf : ∀ b, H b ≠ none → b ∉ frs outer := fun b h z => h (e0.frf b z)
  exact (e0.hok a u e).stay (fun b v hb q => k.keep b v q (nf b (by rcases hb with z | z <;> rw [z] <;> simp [e]))) (fun b z => z) fun b xs z => z
theorem Kp.env0 (e0 : Env0 P w K mg base A outer s H) (k : Kp (frs outer) s s') (hb : base.objs.size ≤ s'.heap.objs.size) : Env0 P w K mg base A outer s' H := by
  have nb : ∀ b o, base.get? b = some o → b ∉ frs outer := fun b o e z => by
    have := (e0.funs.mem z).1
    rw [e] at this
    cases this
  refine ⟨e0.frames, e0.mod, fun b o e => ⟨k.keep b o (e0.bs b o e).1 (nb b o e), (e0.bs b o e).2⟩, hb, ?_, e0.frf, k.hok e0, k.bare⟩
  refine e0.funs.of_keeps fun b o e _ => ?_
  by_cases z : b ∈ frs outer
  · obtain ⟨sl, e1⟩ := k.slot b o e z
    exact ⟨_, e1, rfl⟩
  · exact ⟨o, k.keep b o e z, rfl⟩
theorem Kp.un (k : Kp (frs outer) s s') : Un (frs outer) [] H H s.heap s'.heap :=
  ⟨fun b o e _ h _ => k.keep b o e h, fun b o e _ h _ => k.slot b o e h, fun b o _ e _ => e, fun b o e _ => by
    by_cases z : b ∈ frs outer
    · obtain ⟨sl, e1⟩ := k.slot b o e z
      exact ⟨_, e1⟩
    · exact ⟨o, k.keep b o e z⟩, fun b xs e => e, fun b o u e => e, fun b ps e => ⟨#[], by simpa using e⟩⟩
end
section
variable {X : Cx} {pins : List (Addr × Obj)} {σ : L2.St} {H : Hp} {s : Shared}
end
end DL
namespace DL
open PySem PySem.Spec PyProof.Rows L2 Evl
open LamX
section
variable {X : Cx} {K : PySem.W.Frag}
def Made (P : Addr) (q : Str) (ps : Array Value) (H H1 : Hp) : Prop := H1 = H ∨ ∃ c' more, H c' = none ∧ H1 = upd (upd H P (.tbl (ps ++ more))) c' (CodeO c' q) ∧ ∀ G G' : Hp, TblOk G q ps → (∀ b o, G b = some o → (∀ ps, o ≠ .tbl ps) → G' b = some o) → G' c' = some (CodeO c' q) → TblOk G' q (ps ++ more)
theorem Made.at {P : Addr} {q : Str} {ps : Array Value} {H H1 : Hp} (h : Made P q ps H H1) (hP : H P = some (.tbl ps)) : ∀ b o, H b = some o → (∀ ps, o ≠ .tbl ps) → H1 b = some o := by
  intro b o e n
  rcases h with rfl | ⟨c', more, nC, rfl, _⟩
  · exact e
  · rw [upd_ne (ne_of_none e nC), upd_ne (fun z => n ps (Option.some.inj (e.symm.trans (by rw [z]; exact hP))))]
    exact e
end
end DL
namespace DL
open PySem PySem.Spec PyProof.Rows L2 Evl
open LamX
end DL
namespace DL
open PySem PySem.Spec PyProof.Rows L2 Evl
open LamX
section
variable {P : Program} {w : World} {K : PySem.W.Frag} {mg mb : Str → Option Value} {k : Nat} {fa a c T : Addr} {fd : FuncData} {x : Str} {sp : Sp} {s₁ : Shared} {vs : List Value} {ns : List Int}
end
end DL
namespace DL
open PySem PySem.Spec PyProof.Rows L2 Evl
section
variable {CX : CXT} {P : Program} {w : World} {K : PySem.W.Frag} {mg : Str → Option Value} {base : Heap} {k : Nat} {f : Addr} {ps : List Str} {sp : Sp}
end
section
variable {P : Program} {w : World} {K : PySem.W.Frag} {mg : Str → Option Value} {base : Heap}
end
class TabAt where
  T : Addr
end DL
namespace DL
open PySem PySem.Spec PyProof.Rows L2 Evl
open LamX
end DL
namespace DL
open PySem PySem.Spec PyProof.Rows L2 Evl
section
variable {X : Cx}
end
structure KasOk (K : PySem.W.Frag) (G : Hp) (ps : List Addr) (kas : List (List Key × Addr × V)) (acc : List (List Key × PyData)) : Prop where
  pair : Paired (fun p k => G p = some (.tup [.ref k.2.1, k.2.2]) ∧ G k.2.1 = some (.tup (k.1.map kV))) ps kas
  dat : Paired (fun k a => k.1 = a.1 ∧ Dv K G k.2.2 a.2) kas acc
section
variable {X : Cx} {K : PySem.W.Frag}
theorem KasOk.mono {G G' : Hp} {ps : List Addr} {kas : List (List Key × Addr × V)} {acc : List (List Key × PyData)} (h : KasOk K G ps kas acc) (e : Ex G G') : KasOk K G' ps kas acc :=
  ⟨Paired.mapP h.pair fun _ _ z => ⟨e _ _ z.1, e _ _ z.2⟩, Paired.mapP h.dat fun _ _ z => ⟨z.1, z.2.mono e⟩⟩
theorem KasOk.snoc {G : Hp} {ps : List Addr} {kas : List (List Key × Addr × V)} {acc : List (List Key × PyData)} (h : KasOk K G ps kas acc) {p b : Addr} {ks : List Key} {v : V} {d : PyData} (h1 : G p = some (.tup [.ref b, v])) (h2 : G b = some (.tup (ks.map kV))) (h3 : Dv K G v d) : KasOk K G (ps ++ [p]) (kas ++ [(ks, b, v)]) (acc ++ [(ks, d)]) :=
  ⟨Paired.snoc h.pair ⟨h1, h2⟩, Paired.snoc h.dat ⟨rfl, h3⟩⟩
variable {vx tg iter : Expr} {es : List Expr} {x1 x2} {ifs : List Expr} {scope : Scope} {own : List (Str × Nat)} {pos kpos epos p cpos : Pos} {i : DI} {g : DG} {t : DT} {ak : DA} {ev : DE} {n : Nat}
end
end DL
namespace DL
open PySem PySem.Spec PyProof.Rows L2 Evl
section
variable {X : Cx} {o i e value : Expr} {pos pos' tpos : Pos} {td ty tv : TE} {k : Nat}
def putKV (x y v : Sl) (μ : Mu) (Q : Mu → Prop) : Prop := match x, v with
  | .cell k, .dat d => match μ[k]? with
    | some (.dctT es) => ∃ ds ks, rd μ y = some (.tuple ds) ∧ keysA ds = some ks ∧ (valD es ks).isSome = true ∧ es.length < sizeLine ∧ Q (μ.set k (.dctT (putD es ks d)))
    | _ => False
  | _, _ => False
def dDPutV (od id vd : DE) : DS := fun D ρ μ => vd ρ μ fun v μ1 => od ρ μ1 fun x μ2 => id ρ μ2 fun y μ3 => putKV x y v μ3 (D.nx ρ)
end
section
variable {D : DEnds} {ρ : Rho} {μ : Mu} {Q : DQ} {a b c : DE}
@[simp ↓] theorem e_dDPutV : dDPutV a b c D ρ μ = c ρ μ fun v μ1 => a ρ μ1 fun x μ2 => b ρ μ2 fun y μ3 => putKV x y v μ3 (D.nx ρ) := rfl
end
end DL
namespace DL
open PySem PySem.Spec PyProof.Rows L2 Evl
section
variable {K : PySem.W.Frag}
end
section
variable {P : Program} {w : World} {K : PySem.W.Frag} {mg : Str → Option Value} {base : Heap}
end
section
variable {X : Cx} {K : PySem.W.Frag}
end
section
variable {D : DEnds} {ρ : Rho} {μ : Mu} {Q : DQ}
end
end DL
namespace DLZ
open PySem PySem.Spec PyProof.Rows L2 Evl DL
open PySem.Sem (wp)
section
variable {P : Program} {w : World} {A : Around} {E : Value → Shared → Prop} {s : Shared} {z TI TO i1 i2 : Addr} {f1 f2 : List Addr} {n1 n2 i : Nat} {P1 P2 : Nat → Value → Prop} {S1 S2 : Nat → Heap → Prop} {a1 a2 F0 : Value} {f : Bool}
theorem seen {a : Addr} {Q : Option Obj → Shared → Prop} (h : Q (s.heap.get? a) s) : wpAny (model P w) A (loadIfAlive a) Q E s := fun _ _ _ => h
end
end DLZ
namespace DL
open PySem PySem.Spec PyProof.Rows L2 Evl DLZ
section
variable {X : Cx} {p pos : Pos}
end
end DL
namespace DL
open PySem PySem.Spec PyProof.Rows L2 Evl
section
variable {X : Cx}
end
section
variable {μ : Mu} {Q : DQ}
end
end DL
namespace DL
open PySem PySem.Spec PyProof.Rows L2 Evl
open PySem.W (alike alikeAll dataLt minD maxD AlikeAll)
section
variable {X : Cx} {K : PySem.W.Frag} {e : Expr} {es : List Expr} {p pos : Pos} {k : Nat}
end
section
variable {μ : Mu} {Q : DQ}
end
end DL
namespace DL
open PySem PySem.Spec PyProof.Rows L2 Evl
section
variable {X : Cx} {o i e value : Expr} {pos pos' tpos : Pos} {k : Nat}
end
section
variable {D : DEnds} {ρ : Rho} {μ : Mu} {Q : DQ} {a b c : DE}
end
end DL
namespace DL
open PySem PySem.Spec PyProof.Rows L2 Evl
section
variable {X : Cx}
end
section
variable {μ : Mu} {Q : DQ}
end
end DL
namespace L2
open PySem PySem.Spec PyProof.Rows
section
variable {X : Cx} {pins : List (Addr × Obj)} {σ : St} {H : Hp} {s : Shared} {d : Addr} {o : Obj}
end
section
variable {P : Program} {w : World} {K : PySem.W.Frag} {d : Addr} {o : Obj} {es : Array DictEntry} {ep : Nat}
end
section
variable {X : Cx} {e : Expr} {td : TE} {apos cpos : Pos}
end
end L2
namespace DL
open PySem PySem.Spec PyProof.Rows L2 Evl
section
variable {K : PySem.W.Frag} {W W' : Wd} {H H' : Hp} {μ : Mu} {a : Addr} {od : Obj} {u : HO} {j : Nat}
end
section
variable {X : Cx} {K : PySem.W.Frag}
variable {elt e0 : Expr} {ifs : List Expr} {elts : List Expr} {scope : Scope} {own : List (Str × Nat)} {pos apos cpos tpos npos : Pos} {kk : Nat} {x : Str} {g : DG} {t : DT} {e : DE}
end
end DL
namespace DL
open PySem PySem.Spec PyProof.Rows L2 Evl
section
variable {X : Cx} {K : PySem.W.Frag}
variable {kx vx tg iter : Expr} {ifs : List Expr} {scope : Scope} {own : List (Str × Nat)} {pos : Pos} {i : DI} {g : DG} {t : DT} {ek : DE} {ev : DE} {n : Nat}
end
end DL
namespace DL
open PySem PySem.Spec PyProof.Rows L2 Evl
section
variable {X : Cx}
variable {kx vx tg iter : Expr} {ifs : List Expr} {scope : Scope} {own : List (Str × Nat)} {pos spos py : Pos} {y : Str} {i : DI} {g : DG} {t : DT} {ek : DE} {ev : DE} {n : Nat}
end
end DL
namespace DL
open PySem PySem.Spec PyProof.Rows L2 Evl
section
variable {X : Cx} {K : PySem.W.Frag} {o e e2 : Expr} {apos cpos : Pos} {od ed ed2 : DE}
def mSw : DM := fun o vs μ Q => match o, vs with
  | .dat (.str a), [.dat (.str b)] => Q (.dat (.bool (Txt.startswith a b))) μ
  | _, _ => False
def mSw3 : DM := fun o vs μ Q => match o, vs with
  | .dat (.str a), [.dat (.str b), .dat (.int i)] => Q (.dat (.bool (Txt.startswith3 a b i))) μ
  | _, _ => False
def strsOf : List PyData → Option (List Str)
  | [] => some []
  | .str z :: r => (strsOf r).map (z :: ·)
  | _ :: _ => none
theorem strsOf_of : ∀ {ds : List PyData} {ys : List Str}, strsOf ds = some ys → ds = ys.map PyData.str
  | [], ys, h => by cases h; rfl
  | d :: r, ys, h => by
    cases d <;> first | cases h | skip
    rename_i z
    obtain ⟨zs, h1, rfl⟩ := Option.map_eq_some_iff.mp (show (strsOf r).map (z :: ·) = some ys from h)
    rw [strsOf_of h1]
    rfl
theorem strs_vals {H : Hp} : ∀ {ys : List Str} {vs : List V}, DvAll K H vs (ys.map PyData.str) → vs = ys.map V.str
  | [], _, h => by cases h; rfl
  | y :: r, _, h => by
    cases h with
    | cons h1 h2 =>
      cases h1
      rw [strs_vals h2]
      rfl
def joinOk (a : Str) (ys : List Str) : Prop := (ys.map (·.length)).sum + ys.length * a.length ≤ 16777216
def mJoin : DM := fun o vs μ Q => match o, vs with
  | .dat (.str a), [x] => match rd μ x with
    | some (.list ds) => ∃ ys, strsOf ds = some ys ∧ joinOk a ys ∧ Q (.dat (.str (Str.join a ys))) μ
    | some (.tuple ds) => ∃ ys, strsOf ds = some ys ∧ joinOk a ys ∧ Q (.dat (.str (Str.join a ys))) μ
    | _ => False
  | _, _ => False
def dMtS (m : DM) (o : DE) (a : DA) : DE := fun ρ μ Q => o ρ μ fun x μ1 => (∃ z, x = .dat (.str z)) ∧ a ρ μ1 fun ss μ2 => m x ss μ2 Q
theorem le_bmStr {r : V → List V → Hp → VK → Prop} {m : DM} {to : TE} {ta : TA} {o : DE} {a : DA} (ho : LE K to o) (ha : LA K ta a)
    (hr : ∀ x xs μ Q', m x xs μ Q' → ∀ W H v vs, Rep K W H μ → SlOk K W v x → SlAll K W vs xs → ∀ Q, VOk K W Q' Q → r v vs H Q) : LE K (tBM K "str" r to ta) (dMtS m o a) := fun ρ μ Q' h W σ H he rp Q q =>
  ho ρ μ _ h W σ H he rp _ fun v x W1 H1 μ1 le1 r1 hx h1 => by
    obtain ⟨⟨z, rfl⟩, h1⟩ := h1
    cases (show Dv K W1.G v (.str z) from hx)
    exact ⟨rfl, ha ρ μ1 _ h1 W1 σ H1 (he.mono le1) r1 _ fun vs ss W2 H2 μ2 le2 r2 hss h2 => hr _ ss μ2 Q' h2 W2 H2 _ vs r2 (Dv.str z) hss Q (q.le (le1.trans le2))⟩
def dNevE : DE := fun _ _ _ => False
theorem pd_nevE : PD X e dNevE := ⟨fun _ _ _ => False, ⟨fun _ _ _ _ _ _ h => h.elim⟩, fun _ _ _ h => h.elim⟩
def fStrI : DRA := arg1 fun d _ μ Q => match d with
  | .int i => i.natAbs.log2 < 1920 ∧ Q (.dat (.str (PySem.Str.ofString (toString i)))) μ
  | _ => False
theorem pd_strI {p pos : Pos} {es : List Expr} {a : DA} (ha : PDA X (e :: es) a) (hm : X.mg "str" = none) (hg : Gl X "str" := by rfl)
    (he : starEach (e :: es) X.env = (false, eval e X.env) :: starEach es X.env := by rfl) (hpl : (backTo pos (starEach es X.env)).any (·.1) = false := by rfl) : PD X (.Call (.Name "str" p) (e :: es) [] pos) (dCB fStrI a) := by
  refine pd_ct call_str_int (fun xs μ Q' h W H vs r hs Q q => ?_) (by decide +kernel) ha hm hg (by decide) (by decide) he hpl
  obtain ⟨x, d, rfl, e1, h⟩ := arg1_of h
  obtain ⟨v, rfl, hx⟩ := slAll1 hs
  cases d <;> first | exact False.elim h | skip
  cases rd_int r hx e1
  exact ⟨_, rfl, h.1, q.dat r (Dv.str _) h.2⟩
theorem pd_startswith (ho : PD X o od) (he : PD X e ed) (hs1 : starEach [e] X.env = (false, eval e X.env) :: starEach [] X.env := by rfl)
    (hbase : attributeBase o "startswith" X.env (eval o X.env) = eval o X.env := by rfl)
    (hfew : ((backTo cpos (starEach [e] X.env)).all (fun x => !x.1) && (backToKw cpos (keywordEach [] X.env)).all (fun x => x.1.isSome) && decide ([e].length + ([] : List Keyword).length + (if ([] : List Keyword).isEmpty then 0 else 1) < 30)) = true := by rfl)
    (hline : (apos.endLine == cpos.line) = true := by rfl) (hplain : (backTo cpos (starEach [] X.env)).any (·.1) = false := by rfl) : PD X (.Call (.Attribute o "startswith" apos) [e] [] cpos) (dMtS mSw od (aCons ed aNil)) := by
  obtain ⟨t1, p1, l1⟩ := ho
  obtain ⟨t2, p2, l2⟩ := he
  refine ⟨_, pe_bm F.plainAttrs_str F.slot_str_startswith F.type_str_startswith mt_startswith p1 (pa_cons p2 pa_nil hs1) hbase hfew hline hs1 hplain, le_bmStr l1 (la_cons l2 la_nil) fun x xs μ Q' h W H v vs r hx hss Q q => ?_⟩
  unfold mSw at h
  split at h
  · rename_i a b
    obtain ⟨u, rfl, hu⟩ := slAll1 hss
    cases (show Dv X.K W.G v (.str a) from hx)
    cases (show Dv X.K W.G u (.str b) from hu)
    exact ⟨a, b, rfl, rfl, q.dat r (Dv.bl _) h⟩
  · exact False.elim h
theorem pd_startswith3 (ho : PD X o od) (he : PD X e ed) (he2 : PD X e2 ed2) (hs1 : starEach [e, e2] X.env = (false, eval e X.env) :: starEach [e2] X.env := by rfl) (hs2 : starEach [e2] X.env = (false, eval e2 X.env) :: starEach [] X.env := by rfl)
    (hbase : attributeBase o "startswith" X.env (eval o X.env) = eval o X.env := by rfl)
    (hfew : ((backTo cpos (starEach [e, e2] X.env)).all (fun x => !x.1) && (backToKw cpos (keywordEach [] X.env)).all (fun x => x.1.isSome) && decide ([e, e2].length + ([] : List Keyword).length + (if ([] : List Keyword).isEmpty then 0 else 1) < 30)) = true := by rfl)
    (hline : (apos.endLine == cpos.line) = true := by rfl) (hplain : (backTo cpos (starEach [e2] X.env)).any (·.1) = false := by rfl) : PD X (.Call (.Attribute o "startswith" apos) [e, e2] [] cpos) (dMtS mSw3 od (aCons ed (aCons ed2 aNil))) := by
  obtain ⟨t1, p1, l1⟩ := ho
  obtain ⟨t2, p2, l2⟩ := he
  obtain ⟨t3, p3, l3⟩ := he2
  refine ⟨_, pe_bm F.plainAttrs_str F.slot_str_startswith F.type_str_startswith mt_startswith3 p1 (pa_cons p2 (pa_cons p3 pa_nil hs2) hs1) hbase hfew hline hs1 hplain, le_bmStr l1 (la_cons l2 (la_cons l3 la_nil)) fun x xs μ Q' h W H v vs r hx hss Q q => ?_⟩
  unfold mSw3 at h
  split at h
  · rename_i a b i
    obtain ⟨u, w, rfl, hu, hw⟩ := slAll2 hss
    cases (show Dv X.K W.G v (.str a) from hx)
    cases (show Dv X.K W.G u (.str b) from hu)
    cases (show Dv X.K W.G w (.int i) from hw)
    exact ⟨a, b, i, rfl, rfl, q.dat r (Dv.bl _) h⟩
  · exact False.elim h
theorem pd_join (ho : PD X o od) (he : PD X e ed) (hs1 : starEach [e] X.env = (false, eval e X.env) :: starEach [] X.env := by rfl)
    (hbase : attributeBase o "join" X.env (eval o X.env) = eval o X.env := by rfl)
    (hfew : ((backTo cpos (starEach [e] X.env)).all (fun x => !x.1) && (backToKw cpos (keywordEach [] X.env)).all (fun x => x.1.isSome) && decide ([e].length + ([] : List Keyword).length + (if ([] : List Keyword).isEmpty then 0 else 1) < 30)) = true := by rfl)
    (hline : (apos.endLine == cpos.line) = true := by rfl) (hplain : (backTo cpos (starEach [] X.env)).any (·.1) = false := by rfl) : PD X (.Call (.Attribute o "join" apos) [e] [] cpos) (dMtS mJoin od (aCons ed aNil)) := by
  obtain ⟨t1, p1, l1⟩ := ho
  obtain ⟨t2, p2, l2⟩ := he
  refine ⟨_, pe_bm F.plainAttrs_str F.slot_str_join F.type_str_join mt_join p1 (pa_cons p2 pa_nil hs1) hbase hfew hline hs1 hplain, le_bmStr l1 (la_cons l2 la_nil) fun x xs μ Q' h W H v vs r hx hss Q q => ?_⟩
  unfold mJoin at h
  split at h
  · rename_i a y
    obtain ⟨u, rfl, hu⟩ := slAll1 hss
    cases (show Dv X.K W.G v (.str a) from hx)
    split at h
    · rename_i ds e1
      obtain ⟨ys, h1, h2, h3⟩ := h
      obtain ⟨p, xs, rfl, hl, hi⟩ := rd_lst r hu e1
      rw [strsOf_of h1] at hi
      rw [strs_vals hi] at hl
      exact ⟨a, p, ys, rfl, rfl, .inl hl, h2, by rw [TL.join_eq]; exact q.dat r (Dv.str _) h3⟩
    · rename_i ds e1
      obtain ⟨ys, h1, h2, h3⟩ := h
      obtain ⟨p, xs, rfl, hl, hi⟩ := rd_tup r hu e1
      rw [strsOf_of h1] at hi
      rw [strs_vals hi] at hl
      exact ⟨a, p, ys, rfl, rfl, .inr hl, h2, by rw [TL.join_eq]; exact q.dat r (Dv.str _) h3⟩
    · exact False.elim h
  · exact False.elim h
end
end DL
namespace K11
open PySem PySem.Spec PyProof.Rows L2 Evl DL
open WL
open TL (numL tl tl_num numL_digits numL_lt numL_step numL_ne numL_val tl_append ext_tl len_tl int_num numL_len)
def rat (n u : Int) : PyData := .tuple [.int n, .int u]
def gcdI (n u : Int) : Int := ((Nat.gcd n.natAbs u.natAbs : Nat) : Int)
def IsR (n u : Int) : Prop := 1 ≤ u ∧ gcdI n u = 1
instance (n u : Int) : Decidable (IsR n u) := inferInstanceAs (Decidable (_ ∧ _))
def ratB : PyData → Bool
  | .tuple [.int n, .int u] => decide (IsR n u)
  | _ => false
def Dg (n : Int) : Prop := n.natAbs < 10 ^ 60
def T (l : List Nat) : Str := ⟨l.toArray⟩
def ratL (n u : Int) : List Nat := (if n < 0 then [45] else []) ++ (numL n.natAbs ++ (if u = 1 then [] else 47 :: numL u.natAbs))
def isDg (c : Nat) : Bool := decide (48 ≤ c) && decide (c ≤ 57)
def digE (l : List Nat) (b : Nat) : Nat := if l[b]? = some 48 then b + 1 else b + ((l.drop b).takeWhile isDg).length
def ph_check_text : DF := fun ss μ Q => ∃ z, ss = [.dat (.str z)] ∧ Q (.dat .none) μ
def ph_is_ratio : DF := fun ss μ Q => ∃ d, ss = [.dat d] ∧ Q (.dat (.bool (ratB d))) μ
def ph_check_ratio : DF := fun ss μ Q => ∃ n u, ss = [.dat (rat n u)] ∧ IsR n u ∧ Q (.dat .none) μ
def ph_reduced : DF := fun ss μ Q => ∃ n u, ss = [.dat (.int n), .dat (.int u)] ∧ IsR n u ∧ Q (.dat (rat n u)) μ
def ph_ratio_text : DF := fun ss μ Q => ∃ n u, ss = [.dat (rat n u)] ∧ (IsR n u ∧ Dg n ∧ Dg u) ∧ Q (.dat (.str (T (ratL n u)))) μ
def ph_count_text : DF := fun ss μ Q => ∃ n : Int, ss = [.dat (.int n)] ∧ (0 ≤ n ∧ Dg n) ∧ Q (.dat (.str (T (numL n.toNat)))) μ
def ph_parse_ratio : DF := fun ss μ Q => ∃ n u, ss = [.dat (.str (T (ratL n u)))] ∧ (IsR n u ∧ Dg n ∧ Dg u) ∧ Q (.dat (rat n u)) μ
def ph_digits_end : DF := fun ss μ Q => ∃ (l : List Nat) (b : Nat), ss = [.dat (.str (T l)), .dat (.int (b : Int))] ∧ (b ≤ l.length ∧ l.length ≤ 1000 ∧ digE l b ≠ b) ∧ Q (.dat (.int (digE l b : Nat))) μ
def ph_law_common : DF := fun ss μ Q => ∃ a b, ss = [.dat (.int a), .dat (.int b)] ∧ (Sm 8000 a ∧ Sm 8000 b) ∧ Q (.dat (.int (gcdI a b))) μ
def ph_law_is_whole : DF := ph_is_integer
end K11
namespace K11
open PySem PySem.Spec PyProof.Rows L2 Evl DL
open WL
open TL (numL tl tl_num numL_digits numL_lt numL_step numL_ne numL_val tl_append ext_tl len_tl int_num numL_len)
theorem cps_T (l : List Nat) : (T l).cps.toList = l := rfl
theorem len_T (l : List Nat) : (T l).length = l.length := rfl
theorem T_app (a b : List Nat) : T a ++ T b = T (a ++ b) := ext_tl (by rw [tl_append]; rfl)
theorem T_inj {a b : List Nat} (h : T a = T b) : a = b := by
  have := congrArg TL.tl h
  exact this
theorem num_T (n : Nat) : PySem.Str.ofString (toString ((n : Nat) : Int)) = T (numL n) := ext_tl (tl_num n)
theorem isDg_num {n c : Nat} (h : c ∈ numL n) : isDg c = true := by
  have := numL_digits n c h
  simp [isDg, this.1, this.2]
theorem tw_all {p : Nat → Bool} : ∀ {l r : List Nat}, (∀ c ∈ l, p c = true) → (∀ c, r.head? = some c → p c = false) → (l ++ r).takeWhile p = l
  | [], [], _, _ => rfl
  | [], c :: r, _, h => by simp [h c rfl]
  | a :: l, r, h, g => by
    rw [List.cons_append, List.takeWhile_cons, h a (List.mem_cons_self ..)]
    simp only [if_true]
    rw [tw_all (fun c hc => h c (List.mem_cons_of_mem _ hc)) g]
theorem num_head : ∀ (m n : Nat), n ≤ m → 0 < n → (numL n).head? ≠ some 48
  | 0, n, h, h0 => by omega
  | m + 1, n, h, h0 => by
    by_cases c : n < 10
    · rw [numL_lt c]
      simp
      omega
    · rw [numL_step (by omega)]
      have hne := numL_ne (n / 10)
      rw [List.head?_append, List.head?_eq_some_head hne]
      have ih := num_head m (n / 10) (by omega) (by omega)
      rw [List.head?_eq_some_head hne] at ih
      exact ih
theorem num0 : numL 0 = [48] := numL_lt (by decide)
theorem digE_num (p r : List Nat) (n : Nat) (hr : ∀ c, r.head? = some c → isDg c = false) : digE (p ++ (numL n ++ r)) p.length = p.length + (numL n).length := by
  unfold digE
  rw [List.drop_left]
  have e : (p ++ (numL n ++ r))[p.length]? = (numL n ++ r).head? := by
    rw [List.getElem?_append_right (Nat.le_refl _), Nat.sub_self, List.head?_eq_getElem?]
  rw [e]
  by_cases h0 : n = 0
  · subst h0
    rw [num0]
    simp
  · have hh := num_head n n (Nat.le_refl _) (by omega)
    have : (numL n ++ r).head? = (numL n).head? := by
      rw [List.head?_append, List.head?_eq_some_head (numL_ne n)]
      rfl
    rw [this, if_neg hh, tw_all (fun c hc => isDg_num hc) hr]
theorem gcdI_step (a b : Int) : gcdI b (a - a.fdiv b * b) = gcdI a b := by
  show ((Int.gcd b (a - a.fdiv b * b) : Nat) : Int) = ((Int.gcd a b : Nat) : Int)
  rw [Int.gcd_sub_mul_right_right, Int.gcd_comm]
theorem step_abs (a b : Int) (h : b ≠ 0) : (a - a.fdiv b * b).natAbs < b.natAbs := by
  have e : a - a.fdiv b * b = a.fmod b := by
    rw [Int.fmod_def, Int.mul_comm]
  rw [e]
  by_cases hb : 0 < b
  · have h1 := Int.fmod_lt_of_pos a hb
    have h2 := Int.fmod_nonneg_of_pos a hb
    omega
  · have hb : 0 < -b := by omega
    have h1 := Int.fmod_lt_of_pos (-a) hb
    have h2 := Int.fmod_nonneg_of_pos (-a) hb
    rw [Int.neg_fmod_neg] at h1 h2
    omega
theorem gcdI_zero (a : Int) : gcdI a 0 = (a.natAbs : Int) := by
  unfold gcdI
  rw [Int.natAbs_zero, Nat.gcd_zero_right]
theorem abs_if (a : Int) : (if a < 0 then -a else a) = (a.natAbs : Int) := by
  split <;> omega
structure Rq (w : Nat) (d : PyData) : Prop where
  show_ : d.showable = true
  dict : d.hasDict = false
  leaves : d.leavesShort 64 = true
  wt : d.weight ≤ w
theorem Rq.mono {v w : Nat} {d : PyData} (h : Rq v d) (hv : v ≤ w) : Rq w d := ⟨h.1, h.2, h.3, Nat.le_trans h.4 hv⟩
theorem Rq.okR {w n : Nat} {d : PyData} (h : Rq w d) (hw : w ≤ 2 ^ 16) (s : Sh n d) (hn : n ≤ 64) : okR d := by
  refine ⟨h.1, .inl h.2, Nat.le_trans s.2 hn, ?_⟩
  have z := PyData.shown_le 64 (by decide) d h.3
  have e : (2 : Nat) ^ 16 = 65536 := by decide
  have h4 := h.4
  have h2 : (64 + 2) * d.weight ≤ 66 * 65536 := Nat.mul_le_mul (by omega) (by omega)
  rw [sizeLine_eq]
  omega
theorem Rq.int {i : Int} (h : Dg i) : Rq 300 (.int i) := by
  refine ⟨?_, by simp only [PyData.hasDict], ?_, ?_⟩
  · simp only [PyData.showable]
    refine decide_eq_true ?_
    by_cases h0 : i.natAbs = 0
    · rw [h0]; decide
    · have : i.natAbs.log2 < 200 := (Nat.log2_lt h0).mpr (Nat.lt_trans h (by decide))
      omega
  · simp only [PyData.leavesShort]
    refine decide_eq_true ?_
    have e := int_text_length_le10 (k := 60) (by decide) h
    show (PySem.Str.ofString (toString i)).length ≤ 64
    rw [PyProof.Rows.ofString_length]
    have e2 : (toString i).toList.length ≤ 61 := e
    omega
  · simp only [PyData.weight]
    split
    · exact Nat.zero_le _
    · rename_i h0
      have : i.natAbs ≠ 0 := fun z => h0 (by rw [Int.natAbs_eq_zero.mp z]; rfl)
      have : i.natAbs.log2 < 200 := (Nat.log2_lt this).mpr (Nat.lt_trans h (by decide))
      omega
theorem Rq.bool {b : Bool} : Rq 0 (.bool b) := ⟨by simp only [PyData.showable], by simp only [PyData.hasDict], by simp only [PyData.leavesShort], by simp only [PyData.weight]; exact Nat.le_refl _⟩
theorem Rq.none : Rq 0 .none := ⟨by simp only [PyData.showable], by simp only [PyData.hasDict], by simp only [PyData.leavesShort], by simp only [PyData.weight]; exact Nat.le_refl _⟩
theorem Rq.all {w : Nat} : ∀ {ds : List PyData}, (∀ d ∈ ds, Rq w d) → PyData.showableAll ds = true ∧ PyData.hasDictAll ds = false ∧ PyData.leavesShortAll 64 ds = true ∧ PyData.weightAll ds ≤ ds.length * (w + 1)
  | [], _ => by simp only [PyData.showableAll, PyData.hasDictAll, PyData.leavesShortAll, PyData.weightAll, List.length_nil]; simp
  | d :: r, h => by
    obtain ⟨a, b, c, e⟩ := Rq.all fun x hx => h x (List.mem_cons_of_mem _ hx)
    obtain ⟨a1, b1, c1, e1⟩ := h d (List.mem_cons_self ..)
    simp only [PyData.showableAll, PyData.hasDictAll, PyData.leavesShortAll, PyData.weightAll, List.length_cons, a, b, c, a1, b1, c1, Bool.and_self, Bool.or_self, true_and]
    rw [Nat.add_mul]
    omega
theorem Rq.tup {w m : Nat} {ds : List PyData} (h : ∀ d ∈ ds, Rq w d) (hm : ds.length ≤ m) : Rq (m * (w + 1)) (.tuple ds) := by
  obtain ⟨a, b, c, e⟩ := Rq.all h
  exact ⟨by simp only [PyData.showable]; exact a, by simp only [PyData.hasDict]; exact b, by simp only [PyData.leavesShort]; exact c, by simp only [PyData.weight]; exact Nat.le_trans e (Nat.mul_le_mul_right _ hm)⟩
theorem Rq.list {w m : Nat} {ds : List PyData} (h : ∀ d ∈ ds, Rq w d) (hm : ds.length ≤ m) : Rq (m * (w + 1)) (.list ds) := by
  obtain ⟨a, b, c, e⟩ := Rq.all h
  exact ⟨by simp only [PyData.showable]; exact a, by simp only [PyData.hasDict]; exact b, by simp only [PyData.leavesShort]; exact c, by simp only [PyData.weight]; exact Nat.le_trans e (Nat.mul_le_mul_right _ hm)⟩
end K11
namespace DL
open PySem PySem.Spec PyProof.Rows L2 Evl
section
variable {X : Cx} {k : Nat} {y x f q : Str} {e : Expr} {es : List Expr} {p pos : Pos} {ps : List Str} {C fI : Addr}
end
end DL
namespace DL
open PySem PySem.Spec PyProof.Rows L2 Evl
abbrev RQ := Addr → Str → Sl → Rho → Mu → Prop
abbrev RQF := Addr → Str → Sl → Mu → Prop
abbrev DSX := RQ → DS
abbrev DEX := RQ → DE
abbrev DFE := List Sl → Mu → DQ → RQF → Prop
section
variable (K : PySem.W.Frag)
def ROk (W : Wd) (R' : RQ) (XW : WX) : Prop := ∀ (C : Addr) (f : Str) (v : V) (s : Sl) (σ' : L2.St) (ρ' : Rho) (W' : Wd) (H' : Hp) (μ' : Mu) (dx : Addr),
  Le W W' → Rep K W' H' μ' → EnvOk K W' σ' ρ' → SlOk K W' v s → H' dx = some (.xd [(f, v)]) → R' C f s ρ' μ' → XW (.ref C) (some dx) σ' H'
def REOk (W : Wd) (R' : RQF) (E : XK) : Prop := ∀ (C : Addr) (f : Str) (v : V) (s : Sl) (W' : Wd) (H' : Hp) (μ' : Mu) (dx : Addr),
  Le W W' → Rep K W' H' μ' → SlOk K W' v s → H' dx = some (.xd [(f, v)]) → R' C f s μ' → E (.ref C) (some dx) H'
def LSX (XW : WX) (t : TS) (d : DSX) : Prop := ∀ R' D' ρ μ, d R' D' ρ μ → ∀ W σ H, EnvOk K W σ ρ → Rep K W H μ → ∀ D : Ends, EndsOk K W D' D → ROk K W R' XW → t D σ H
def LEX (XW : WX) (t : TE) (d : DEX) : Prop := ∀ R' ρ μ Q', d R' ρ μ Q' → ∀ W σ H, EnvOk K W σ ρ → Rep K W H μ → ∀ Q : VK, VOk K W Q' Q → ROk K W R' XW → t σ H Q
end
def PDSX (X : Cx) (XW : WX) (st : Stmt) (d : DSX) : Prop := ∃ t, PS X st t ∧ LSX X.K XW t d
def PDSsX (X : Cx) (XW : WX) (sts : List Stmt) (d : DSX) : Prop := ∃ t, PSs X sts t ∧ LSX X.K XW t d
def PDX (X : Cx) (XW : WX) (e : Expr) (d : DEX) : Prop := ∃ t, PE X e t ∧ LEX X.K XW t d
section
variable {K : PySem.W.Frag} {W W1 : Wd} {R' : RQ} {XW : WX}
theorem ROk.le (h : ROk K W R' XW) (l : Le W W1) : ROk K W1 R' XW := fun C f v s σ' ρ' W' H' μ' dx l' => h C f v s σ' ρ' W' H' μ' dx (l.trans l')
end
section
variable {X : Cx} {XW : WX} {st : Stmt} {sts rest : List Stmt} {e : Expr} {d a : DSX} {b : DSX} {dd : DS} {de : DEX} {pos : Pos}
theorem pdx_of (h : PDS X st dd) : PDSX X XW st (fun _ => dd) := by
  obtain ⟨t, p, l⟩ := h
  exact ⟨t, p, fun R' D' ρ μ h W σ H he r D hd _ => l D' ρ μ h W σ H he r D hd⟩
theorem pdsx_of (h : PDSs X sts dd) : PDSsX X XW sts (fun _ => dd) := by
  obtain ⟨t, p, l⟩ := h
  exact ⟨t, p, fun R' D' ρ μ h W σ H he r D hd _ => l D' ρ μ h W σ H he r D hd⟩
theorem pdsx_nil : PDSsX X XW [] (fun _ => dNext) := pdsx_of pds_nil
theorem pdsx_cons (h1 : PDSX X XW st a) (h2 : PDSsX X XW rest b) : PDSsX X XW (st :: rest) (fun R => dSeq (a R) (b R)) := by
  obtain ⟨t1, p1, l1⟩ := h1
  obtain ⟨t2, p2, l2⟩ := h2
  exact ⟨_, pss_cons p1 p2, fun R' D' ρ μ h W σ H he r D hd hR => l1 R' _ ρ μ h W σ H he r _ (hd.with_nx fun σ1 ρ1 W1 H1 μ1 le1 r1 he1 q => l2 R' D' ρ1 μ1 q W1 σ1 H1 he1 r1 D (hd.le le1) (hR.le le1)) hR⟩
theorem pdsx_one (h1 : PDSX X XW st a) : PDSsX X XW [st] a := by
  obtain ⟨t1, p1, l1⟩ := h1
  exact ⟨_, pss_one p1, l1⟩
theorem pdx_if {c : Expr} {sa sb : List Stmt} {t : DT} (hc : PDT X c t) (ha : PDSsX X XW sa a) (hb : PDSsX X XW sb b) : PDSX X XW (.If c sa sb pos) (fun R => dIfS t (a R) (b R)) := by
  obtain ⟨tc, p, l⟩ := hc
  obtain ⟨t1, p1, l1⟩ := ha
  obtain ⟨t2, p2, l2⟩ := hb
  refine ⟨_, ps_if p p1 p2, fun R' D' ρ μ h W σ H he r D hd hR => l ρ μ _ h W σ H he r _ fun k W1 H1 μ1 le1 r1 q => ?_⟩
  cases k with
  | true => exact l1 R' D' ρ μ1 q W1 σ H1 (he.mono le1) r1 D (hd.le le1) (hR.le le1)
  | false => exact l2 R' D' ρ μ1 q W1 σ H1 (he.mono le1) r1 D (hd.le le1) (hR.le le1)
theorem pdx_set {i : Nat} {x : Str} {pos' : Pos} (hN : X.N.Nodup) (h : PDX X XW e de) (hi : X.N[i]? = some x := by rfl) (hx : Loc X.env.scope x := by exact Or.inl rfl) (hs : swapsWith e (some (.Name x pos')) pos.line X.env = pure false := by rfl)
    (hf : X.fn x = true ∨ X.env.scope.names.lookup x = some .local := by exact .inl rfl) : PDSX X XW (.Assign [.Name x pos'] e pos) (fun R => dAsg (de R) i) := by
  obtain ⟨t, p, l⟩ := h
  exact ⟨_, ps_set hN hi hx p hs hf, fun R' D' ρ μ h W σ H he r D hd hR => l R' ρ μ _ h W σ H he r _ (fun v s W1 H1 μ1 le1 r1 hs q => hd.nx _ _ W1 H1 μ1 le1 r1 ((he.mono le1).set i hs) q) hR⟩
def dRaise (C : Addr) (f : Str) (da : DA) : DSX := fun R _ ρ μ => da ρ μ fun ss μ1 => ∃ s, ss = [s] ∧ R C f s ρ μ1
theorem pdx_raise {x f q : Str} {sti : Stmt} {C fI : Addr} {ae : Expr} {da : DA} {N : List Str} {fdI : FuncData} {p pos2 : Pos} {j : Nat} (tk : Takes X XW) (T : ErrT X.K X.mg x f sti q C fI) (F1 : FnOk X.prog X.w X.K X.mg X.base CX0 1 fI fdI N (spInit X.K f C)) (hrm : Room (j + 2) X.A) (hb : Binds X.K fdI N [])
    (ha : PDA X [ae] da) (hcalm : X.calm = true := by rfl) (hg : Gl X x := by rfl) (hdb : (x == ("__debug__" : Str)) = false := by decide) (hse : starEach (ae :: []) X.env = (false, eval ae X.env) :: starEach [] X.env := by rfl) (hpl : (backTo pos (starEach [] X.env)).any (·.1) = false := by rfl) :
    PDSX X XW (.Raise (some (.Call (.Name x p) [ae] [] pos)) none pos2) (dRaise C f da) := by
  obtain ⟨ta, pa, la⟩ := ha
  have P := pmk_oex (X := X) (p := p) (pos := pos) (dvs := []) (ds := []) T.oex T.iC T.tI F1 (hrm.mono (by omega)) hb .nil pass0 hg T.gC pa hdb hse hpl
  refine ⟨_, ps_raise hcalm tk P, fun R' D' ρ μ h W σ H hE r D hd hR => ?_⟩
  refine la ρ μ _ h W σ H hE r _ fun vs ss W2 H2 μ2 le2 r2 hss h2 => ?_
  obtain ⟨s, rfl, h2⟩ := h2
  obtain ⟨v, rfl, hs⟩ := slAll1 hss
  exact mk_err (Q := fun cls d H2 => XW cls d σ H2) fun dx H' ex hx => hR C f v s σ ρ W2 H' μ2 dx le2 (r2.ex ex) (hE.mono le2) hs hx h2
def SpE (K : PySem.W.Frag) (n : Nat) (φ : DFE) : Sp := fun vs H Q E => ∃ W ss μ Q' R', vs.length = n ∧ SlAll K W vs ss ∧ Rep K W H μ ∧ φ ss μ Q' R' ∧ VOk K W Q' Q ∧ REOk K W R' E
structure OwnE (P : Program) (w : World) (K : PySem.W.Frag) (mg : Str → Option Value) (base : Heap) (y : Str) (st : Stmt) (ps : List Str) (k n : Nat) (φ : DFE) : Prop where
  ex : ∃ g fd, Fun K y y st g fd ∧ FnG P w K mg base (L2.CX P w) k g fd ps (SpE K n φ) ∧ mg y = some (.ref g)
def PureE (N : List Str) (n : Nat) (φ : DFE) (ds : DSX) : Prop := ∀ ss μ Q' R', ss.length = n → φ ss μ Q' R' →
  ds (fun C f s _ μ' => finQ μ.length (R' C f) s μ') ⟨fun _ μ' => finQ μ.length Q' (.dat .none) μ', finQ μ.length Q', fun _ _ => False, fun _ _ => False⟩ (startD N ss) μ
theorem okE {P : Program} {w : World} {K : PySem.W.Frag} {mg : Str → Option Value} {base : Heap} {x qual : Str} {st : Stmt} {f : Addr} {fd : FuncData} {N ps : List Str} {k n : Nat} {φ : DFE} {ds : DSX} (F : Fun K x qual st f fd) (S : FnScope N ps (defScope st)) (hn : n = ps.length)
    (hbody : ∀ (cdv : Value) (A : Around) (outer : List Env) (s : Shared) (H : Hp) (E : XK), RoomG k (A.deeper (envOfC qual (defScope st) s.heap.objs.size f cdv)) →
      PDSsX (cxOf (L2.CX P w) P w K mg base N qual (defScope st) f cdv A outer s H E) (fun cls d _ H => E cls d H) (defBody st) ds)
    (hφ : PureE N n φ ds) : FnG P w K mg base (L2.CX P w) (k + 1) f fd ps (SpE K n φ) := by
  refine fnG_of F S (fun vs H Q E h => ?_) (fun cdv A outer s H vs Q E hr h => ?_)
  · obtain ⟨_, _, _, _, _, h, _⟩ := h
    exact h.trans hn
  · obtain ⟨W, ss, μ, Q', R', hl, hss, r, hp, q, qE⟩ := h
    obtain ⟨t, p, l⟩ := hbody cdv A outer s H E hr
    refine ⟨t, p, l _ _ (startD N ss) μ (hφ ss μ Q' R' (by rw [← hss.length]; exact hl) hp) W _ H (env_start hss) r _ ?_ ?_⟩
    · have fq := finQ_ok q
      rw [r.len] at fq
      refine ⟨fun σ1 ρ1 W1 H1 μ1 l1 r1 he1 h1 => ?_, fq, fun σ1 ρ1 W1 H1 μ1 l1 r1 he1 h1 => h1, fun σ1 ρ1 W1 H1 μ1 l1 r1 he1 h1 => h1⟩
      exact fq .non (.dat .none) W1 H1 μ1 l1 r1 .non h1
    · intro C fn v s1 σ1 ρ1 W1 H1 μ1 dx l1 r1 he1 hs1 hx h1
      have fq := finQ_ok (Q' := R' C fn) (Q := fun v H' => ∀ dx, H' dx = some (.xd [(fn, v)]) → E (.ref C) (some dx) H') (W := W) (K := K) fun v s W' H' μ' l' r' hs' h' dx hx' => qE C fn v s W' H' μ' dx l' r' hs' hx' h'
      rw [r.len] at fq
      exact fq v s1 W1 H1 μ1 l1 r1 hs1 h1 dx hx
def dCallE (n : Nat) (φ : DFE) (a : DA) : DEX := fun R ρ μ Q => a ρ μ fun ss μ1 => ss.length = n ∧ φ ss μ1 Q (fun C f s μ2 => R C f s ρ μ2)
theorem pdx_call {φ : DFE} {a : DA} {y : Str} {es : List Expr} {p : Pos} {stg : Stmt} {ps : List Str} {k n : Nat} (tk : Takes X XW) (o : OwnE X.prog X.w X.K X.mg X.base y stg ps k n φ) (hr : RoomG k X.A)
    (hb : ∀ (kV doc pm : Value) (an : Option Addr) (cdv ct : Value) (us : List Value), us.length = ps.length → bindArgs (PySem.W.fnOf y y (defArgs stg) (defBody stg) (defScope stg) .none kV doc pm an cdv ct) ⟨us, []⟩ = pure (ps.zip us))
    (ha : PDA X (e :: es) a) (hg : Gl X y := by rfl) (hdb : (y == ("__debug__" : Str)) = false := by decide)
    (he : starEach (e :: es) X.env = (false, eval e X.env) :: starEach es X.env := by rfl) (hpl : (backTo pos (starEach es X.env)).any (·.1) = false := by rfl) : PDX X XW (.Call (.Name y p) (e :: es) [] pos) (dCallE n φ a) := by
  obtain ⟨g, fd, F, G, hm⟩ := o
  obtain ⟨ta, pa, la⟩ := ha
  refine ⟨_, pe_callSG G hr hg hm F.kp (F.binds hb) (fun σ => passAt tk σ) pa hdb he hpl, fun R' ρ μ Q' h W σ H hE r Q q hR => ?_⟩
  refine la ρ μ _ h W σ H hE r _ fun vs ss W1 H1 μ1 le1 r1 hss h1 => ?_
  obtain ⟨hn, h1⟩ := h1
  exact ⟨W1, ss, μ1, _, _, by rw [hss.length]; exact hn, hss, r1, h1, q.le le1, fun C f v s W2 H2 μ2 dx le2 r2 hs2 hx h2 => hR C f v s σ ρ W2 H2 μ2 dx (le1.trans le2) r2 (hE.mono (le1.trans le2)) hs2 hx h2⟩
end
end DL
namespace PySem.W
open PySem PySem.Calls PyProof.Rows PySem.Spec
theorem isa_yes {K : Frag} {x t c : Value} {P : Heap → Prop} (ne : (t == c) = false) (below : kitCls K t c = some true) (ty : ∀ (M : Model) (h : Heap), K.In h → P h → Looks M h (typeOf x) t) : Answers (fun s => K.In s.heap ∧ P s.heap) x c true := by
  intro dep tk prog w A R st hst
  obtain ⟨hp, g, dr, n, os⟩ := st
  obtain ⟨⟨inK, p⟩, fin⟩ := hst
  have tx := ty (model prog w) hp inK p
  obtain ⟨tc, isT, sub⟩ := kit_cls (M := model prog w) (h := hp) inK below
  have yes : Looks (model prog w) hp (isInstance x c) true := tx.andThen sub
  have nt : ¬ (t == c) = true := by rw [ne]; exact Bool.false_ne_true
  unfold Builtin.«isinstance.nested»
  refine wpAny_bind (tx.at ?_)
  rw [if_neg nt]
  refine wpAny_bind (tc.at ?_)
  rw [if_pos (by decide)]
  k_delta "plainIsInstance"
  refine wpAny_bind (wpAny_bind (isT.at ?_))
  simp only [Bool.not_true, Bool.false_eq_true, if_false]
  refine wpAny_bind (Looks.at yes ?_)
  first
    | exact wpAny_pure (wpAny_pure (fin n))
    | (simp only [if_true]; first | exact wpAny_pure (wpAny_pure (fin n)) | exact wpAny_pure (fin n) | exact wpAny_bind (wpAny_pure (wpAny_pure (fin n))))
end PySem.W
namespace DL
open PySem PySem.Spec PyProof.Rows L2 Evl
def rIsX (K : PySem.W.Frag) (a : Addr) (cls : Value) (C : Addr) : List V → Hp → VK → Prop := fun xs H Q => ∃ (c : V) (cv : Value), xs = [.ref a, c] ∧ (∀ u, RelV c u → u = cv) ∧ cls = .ref C ∧ (Value.ref C == cv) = false ∧ PySem.W.kitCls K (.ref C) cv = some true ∧ Q (.bl true) H
theorem call_isX {X : Cx} {a C : Addr} {oe : Obj} {cls : Value} {d : Option Addr} {pn : List (Addr × Obj)} (hz : Zc cls d oe) : CallR (X.suite a ((a, oe) :: pn)) (.builtin "isinstance") (rIsX X.K a cls C) := by
  intro pins s σ H xs us Q I rs h
  obtain ⟨c, cv, rfl, hcv, rfl, ne, e, q⟩ := h
  rcases rs with _ | ⟨ra, _ | ⟨rc, rs'⟩⟩
  cases rs'
  cases ra
  cases hcv _ rc
  have at_ := (I.pin (a, oe) (List.mem_append.mpr (.inl List.mem_cons_self))).1
  have A0 := PySem.W.isa_yes (K := X.K) (x := .ref a) (t := .ref C) (c := cv) (P := fun h => h.get? a = some oe) ne e fun M h _ p A Q E s k q' => wpAny_typeOf_ref (k _ _ p) (by rw [hz.1]; exact q')
  refine PySem.call_isinstance (S := fun _ R st => (X.K.In st.heap ∧ st.heap.get? a = some oe) ∧ ∀ n, R (.ok (.ret (.bool true))) { st with toks := n }) ?_ ⟨⟨I.kIn, at_⟩, fun n => ⟨.bl true, H, I.kept (t' := n) fun _ _ z => z, rfl, q⟩⟩
  exact fun prog w A R st hs => PySem.isinstance_outer (A0 0 _ prog w A R st hs) (fun z => nomatch z)
end DL
namespace DL
open PySem PySem.Spec PyProof.Rows L2 Evl
structure Kin (K : PySem.W.Frag) (mg : Str → Option Value) (bn : Str) (C B : Addr) : Prop where
  gB : mg bn = some (.ref B)
  ne : (Value.ref C == Value.ref B) = false
  below : PySem.W.kitCls K (.ref C) (.ref B) = some true
def dTryE (iT iE n : Nat) (φ : DFE) (a : DA) (C : Addr) (fn : Str) (wd : Str) : DS := fun D ρ μ => iE < ρ.length ∧ a ρ μ fun ss μ1 => ss.length = n ∧ φ ss μ1 (fun s μ2 => D.nx (ρ.set iT (some s)) μ2)
  (fun C' f s μ2 => C' = C ∧ f = fn ∧ ∃ d, s = .dat d ∧ D.nx (((ρ.set iE none).set iT (some (.dat (.list [.str wd, d, .bool true])))).set iE none) μ2)
section
variable {X : Cx} {k : Nat} {y x f q bn : Str} {e : Expr} {es : List Expr} {p pos : Pos} {ps : List Str} {C B fI : Addr}
theorem pd_tryE {φ : DFE} {da : DA} {ta : TA} {iT iE n k : Nat} {tn en wd : Str} {stg : Stmt} {sti : Stmt} {np tp tp2 hpos tpos apos epos epos2 rp rpos lpos bpos wpos pos1 pos2 : Pos} {j : Nat} (o : OwnE X.prog X.w X.K X.mg X.base y stg ps k n φ) (T : ErrT X.K X.mg x f sti q C fI) (KB : Kin X.K X.mg bn C B) (hr : RoomG k X.A)
    (hb : ∀ (kV doc pm : Value) (an : Option Addr) (cdv ct : Value) (us : List Value), us.length = ps.length → bindArgs (PySem.W.fnOf y y (defArgs stg) (defBody stg) (defScope stg) .none kV doc pm an cdv ct) ⟨us, []⟩ = pure (ps.zip us))
    (hta : ∀ (pn : List (Addr × Obj)) (xe : Value → Shared → Prop), PA (X.tr pn xe) (e :: es) ta) (lta : LA X.K ta da) (hN : X.N.Nodup) (hisi : X.mg "isinstance" = none)
    (hiT : X.N[iT]? = some tn := by rfl) (hiE : X.N[iE]? = some en := by rfl) (hs : X.stack = X.env :: X.outer := by rfl) (hf : X.env.frame = some X.env.locals := by rfl) (hlE : X.env.kindOf en = some .local := by rfl) (hvE : Vis X.env.scope en := by exact Or.inl rfl)
    (hdE : (en == ("__debug__" : Str)) = false := by decide) (hcE : (en == ("__classdict__" : Str)) = false := by decide) (hgx : Gl X x := by rfl) (hdx : (x == ("__debug__" : Str)) = false := by decide) (hgy : Gl X y := by rfl) (hdy : (y == ("__debug__" : Str)) = false := by decide) (hgi : Gl X "isinstance" := by rfl) (hgb : Gl X bn := by rfl) (hdbn : (bn == ("__debug__" : Str)) = false := by decide)
    (hlT : Loc X.env.scope tn := by exact Or.inl rfl) (hfT : X.fn tn = true ∨ X.env.scope.names.lookup tn = some .local := by exact .inl rfl)
    (he1 : starEach (e :: es) X.env = (false, eval e X.env) :: starEach es X.env := by rfl) (hp1 : (backTo pos (starEach es X.env)).any (·.1) = false := by rfl)
    (hs1 : swapsWith (.Call (.Name y p) (e :: es) [] pos) (some (.Name tn tp)) pos1.line X.env = pure false := by rfl)
    (hbE : attributeBase (.Name en epos) f X.env (eval (.Name en epos) X.env) = eval (.Name en epos) X.env := by rfl)
    (hi2 : starEach [.Name en epos2, .Name bn bpos] X.env = (false, eval (.Name en epos2) X.env) :: starEach [.Name bn bpos] X.env := by rfl) (hi3 : starEach [.Name bn bpos] X.env = (false, eval (.Name bn bpos) X.env) :: starEach [] X.env := by rfl) (hip : (backTo rpos (starEach [.Name bn bpos] X.env)).any (·.1) = false := by rfl)
    (hl1 : starEach [.Constant (.str wd) j wpos, .Attribute (.Name en epos) f apos, .Call (.Name "isinstance" rp) [.Name en epos2, .Name bn bpos] [] rpos] X.env = (false, eval (.Constant (.str wd) j wpos) X.env) :: starEach [.Attribute (.Name en epos) f apos, .Call (.Name "isinstance" rp) [.Name en epos2, .Name bn bpos] [] rpos] X.env := by rfl)
    (hl2 : starEach [.Attribute (.Name en epos) f apos, .Call (.Name "isinstance" rp) [.Name en epos2, .Name bn bpos] [] rpos] X.env = (false, eval (.Attribute (.Name en epos) f apos) X.env) :: starEach [.Call (.Name "isinstance" rp) [.Name en epos2, .Name bn bpos] [] rpos] X.env := by rfl)
    (hl3 : starEach [.Call (.Name "isinstance" rp) [.Name en epos2, .Name bn bpos] [] rpos] X.env = (false, eval (.Call (.Name "isinstance" rp) [.Name en epos2, .Name bn bpos] [] rpos) X.env) :: starEach [] X.env := by rfl)
    (hs2 : swapsWith (.List [.Constant (.str wd) j wpos, .Attribute (.Name en epos) f apos, .Call (.Name "isinstance" rp) [.Name en epos2, .Name bn bpos] [] rpos] lpos) (some (.Name tn tp2)) pos2.line X.env = pure false := by rfl) :
    PDS X (.Try [.Assign [.Name tn tp] (.Call (.Name y p) (e :: es) [] pos) pos1] [.ExceptHandler (some (.Name x np)) (some en) [.Assign [.Name tn tp2] (.List [.Constant (.str wd) j wpos, .Attribute (.Name en epos) f apos, .Call (.Name "isinstance" rp) [.Name en epos2, .Name bn bpos] [] rpos] lpos) pos2] hpos] [] [] tpos) (dTryE iT iE n φ da C f wd) := by
  obtain ⟨g, fd, F, G, hm⟩ := o
  refine ⟨_, ps_try_as (i := iE) (tb := fun W => tAsg (tCallS (SpE X.K n φ) (WE W) ta) (gName iT)) (ts := fun a cls d => tAsg (tLst (tCons (tC (.str wd)) (tCons (tXf a cls d C f (tVar iE)) (tCons (tCB (rIsX X.K a cls C) (tCons (tVar iE) (tCons (tC (.ref B)) tNil))) tNil)))) (gName iT)) (Wout := fun _ _ _ _ => False) hs hf hN hiE hlE ⟨hgx, hdx, Or.inl T.gC⟩ takes0
      (fun W pn xe tk _ => pss_one (ps_set (i := iT) hN hiT hlT (pe_callSG G hr hgy hm F.kp (F.binds hb) (fun σ => passAt tk σ) (hta pn xe) hdy he1 hp1) hs1 hfT))
      (fun a oe cls d pn hz hff => pss_one (ps_set (i := iT) hN hiT hlT (pe_lst (pa_cons pe_str (pa_cons (pe_xf T.xfc T.noF hz hff (pe_var hiE hvE hdE hcE) hbE) (pa_cons (pe_callB (X := X.suite a ((a, oe) :: pn)) (call_isX hz) hgi hisi (by decide +kernel) (pa_cons (pe_var hiE hvE hdE hcE) (pa_cons (pe_glob (X := X.suite a ((a, oe) :: pn)) (v := .ref B) (u := .ref B) hgb KB.gB rfl hdbn) pa_nil hi3) hi2) (by decide) (by decide) hi2 hip) pa_nil hl3) hl2) hl1)) hs2 hfT)), fun D' ρ μ h W σ H hE r D hd => ?_⟩
  obtain ⟨hil, h⟩ := h
  refine lta ρ μ _ h W σ H hE r _ fun vs ss W1 H1 μ1 le1 r1 hss h1 => ?_
  obtain ⟨hn, h1⟩ := h1
  have hE1 := hE.mono le1
  refine ⟨W1, ss, μ1, _, _, by rw [hss.length]; exact hn, hss, r1, h1, fun v s W2 H2 μ2 le2 r2 hs2 h2 => ?_, fun C' f' v s W2 H2 μ2 dx le2 r2 hs2 hx h2 => ?_⟩
  · exact hd.nx _ _ W2 H2 μ2 (le1.trans le2) r2 ((hE1.mono le2).set iT hs2) h2
  · obtain ⟨rfl, rfl, d, rfl, h2⟩ := h2
    refine ⟨true, T.te, fun _ a0 _ => ?_, fun z => Bool.noConfusion z⟩
    have hil' : iE < σ.length := by rw [hE.len]; exact hil
    have at_ := List.getElem?_set_self (a := some (V.ref a0)) hil'
    refine ⟨.ref a0, at_, rfl, rfl, dx, _, v, rfl, hx, by simp [List.lookup], .ref a0, at_, .ref B, .ref B, rfl, fun u hu => hu, rfl, KB.ne, KB.below, ?_⟩
    refine ⟨show 3 ≤ sizeLine by decide, fun pp hpp => ?_⟩
    have dvs : DvAll X.K W2.G [.str wd, v, .bl true] [.str wd, d, .bool true] := .cons (.str _) (.cons hs2 (.cons (.bl true) .nil))
    have lN : Le W2 (W2.new pp (.lst [.str wd, v, .bl true])) := Le.new r2 hpp
    have sN : SlOk X.K (W2.new pp (.lst [.str wd, v, .bl true])) (.ref pp) (.dat (.list [.str wd, d, .bool true])) := Dv.lst (.inl (.inl upd_same)) (dvs.mono lN.g)
    exact hd.nx _ _ _ _ μ2 (le1.trans (le2.trans lN)) (r2.new hpp) (((((hE1.mono le2).mono lN).none iE _).set iT sN).none iE _) h2
end
end DL
namespace DL
open PySem PySem.Spec PyProof.Rows L2 Evl
section
variable {X : Cx} {K : PySem.W.Frag}
theorem op_mulS : OpR X (binaryOp .Mult) (fun x y H Q => ∃ a n, x = .str a ∧ y = .int n ∧ MulOk a n ∧ Q (.str (Txt.mul a n)) H) := by
  intro pins s σ H x y v u Q I rx ry h
  obtain ⟨a, n, rfl, rfl, hz, q⟩ := h
  obtain ⟨t, rfl⟩ := rx
  obtain ⟨t', rfl⟩ := ry
  exact SB.mul hz fun t2 tk => ⟨.str _, H, I.tok _, ⟨_, rfl⟩, q⟩
def rMulS : DR2 := fun x y μ Q => match x, y with
  | .dat (.str a), .dat (.int n) => MulOk a n ∧ Q (.dat (.str (Txt.mul a n))) μ
  | _, _ => False
theorem lr_mulS : LR2 K (fun x y H Q => ∃ a n, x = .str a ∧ y = .int n ∧ MulOk a n ∧ Q (.str (Txt.mul a n)) H) rMulS := fun x y μ Q' h W H vx vy r hx hy Q q => by
  unfold rMulS at h
  split at h
  · rename_i a n
    cases (show Dv K W.G vx (.str a) from hx)
    cases (show Dv K W.G vy (.int n) from hy)
    exact ⟨a, n, rfl, rfl, h.1, q.dat r (Dv.str _) h.2⟩
  · exact h.elim
theorem pd_mulS {a b : Expr} {da db : DE} {pos : Pos} (ha : PD X a da) (hb : PD X b db) : PD X (.BinOp a .Mult b pos) (dOp rMulS da db) := pd_op op_mulS lr_mulS ha hb
end
section
variable {P : Program} {w : World} {K : PySem.W.Frag} {mg : Str → Option Value} {base : Heap} {x f q : Str} {st : Stmt} {C fI : Addr}
theorem ok_init2 {fd : FuncData} {N : List Str} (hN : ∃ a b, N = [a, b]) (T : ErrT K mg x f st q C fI) (F : Fun K "__init__" q st fI fd) (S : FnScope N N (defScope st))
    (hb : ∀ (cdv : Value) (A : Around) (outer : List Env) (s : Shared) (H : Hp) (E : XK), PSs (cxOf CX0 P w K mg base N q (defScope st) fI cdv A outer s H E).nox (defBody st) (tOst K f (tVar 0) (tVar 1))) : FnOk P w K mg base CX0 1 fI fd N (spInit K f C) := by
  obtain ⟨n1, n2, rfl⟩ := hN
  refine F.ok S (fun vs H Q E h => ?_) (fun cdv A outer s H vs Q E hr h => ⟨_, hb cdv A outer s H E, ?_⟩)
  · obtain ⟨a, y, rfl, _⟩ := h
    rfl
  · obtain ⟨a, y, rfl, ha, k⟩ := h
    exact ⟨y, rfl, .ref a, rfl, a, C, rfl, T.oex, T.noF, .inl ⟨ha, fun dx h1 h2 => k dx h1 h2⟩⟩
end
theorem kin_of {K : PySem.W.Frag} {h : Heap} {mg : Str → Option Value} {bn : Str} {C B : Addr} {Z : Prop} (X : K.In h) (G : h.Ns mainGlobals mg) (aB : PySem.W.nsIn K mainGlobals bn = some (some (.ref B))) (hB : PySem.W.hasDictIn K B = true) (tB : PySem.W.typeIn K (.ref B) = some (.type "type"))
    (neB : (Value.ref C == Value.ref B) = false) (sB : PySem.W.subIn K (.ref C) (.ref B) = some true) (z : Kin K mg bn C B → Z) : Z := by
  refine z ⟨PySem.W.mg_of X G aB, neB, ?_⟩
  obtain ⟨cd, hc, _⟩ := PySem.W.any_some hB
  have e : ((PySem.W.clsIn K B).isSome && PySem.W.typeIn K (.ref B) == some (.type "type")) = true := by rw [hc, tB]; rfl
  show (if ((PySem.W.clsIn K B).isSome && PySem.W.typeIn K (.ref B) == some (.type "type")) = true then PySem.W.subIn K (.ref C) (.ref B) else none) = some true
  rw [if_pos e]
  exact sB
end DL
namespace K13
open PySem PySem.Spec PyProof.Rows L2 Evl DL
open WL
open K11 (T rat IsR gcdI Dg isDg digE ratL)
def dv (l : List Nat) : Int := ((NumText.digitsVal l : Nat) : Int)
def begL (l : List Nat) : Nat := if l[0]? = some 45 then 1 else 0
def sv (l : List Nat) (e : Nat) : Int := if l[0]? = some 45 then -dv ((l.drop 1).take (e - 1)) else dv (l.take e)
def redN (n u : Int) : Int := n.fdiv (gcdI n u)
def redD (n u : Int) : Int := u.fdiv (gcdI n u)
def rdL (l : List Nat) : Nat ⊕ (Int × Int) :=
  let b := begL l
  let e := digE l b
  if e = b then .inl b
  else if e = l.length then .inr (sv l e, 1)
  else if l[e]? ≠ some 47 then .inl e
  else if l[e + 1]? = some 48 then .inl (e + 1)
  else
    let f := digE l (e + 1)
    if f = e + 1 then .inl (e + 1)
    else if f < l.length then .inl f
    else .inr (redN (sv l e) (dv (l.drop (e + 1))), redD (sv l e) (dv (l.drop (e + 1))))
def readD (l : List Nat) : PyData := match rdL l with
  | .inl p => .tuple [.int (p : Nat), .none]
  | .inr z => .tuple [.none, rat z.1 z.2]
def heardD (l : List Nat) : PyData := match rdL l with
  | .inl p => .list [.str (PySem.Str.ofString "bad"), .int (p : Nat), .bool true]
  | .inr z => rat z.1 z.2
def digL (l : List Nat) (b : Nat) (z : Bool) : Nat := if l[b]? = some 48 then (if z then b + 1 else b) else b + ((l.drop b).takeWhile isDg).length
def phE_digits_end (C : Addr) : DFE := fun ss μ Q R => ∃ (l : List Nat) (b : Nat), ss = [.dat (.str (T l)), .dat (.int (b : Int))] ∧ (b ≤ l.length ∧ l.length ≤ 600) ∧ (digE l b ≠ b → Q (.dat (.int (digE l b : Nat))) μ) ∧ (digE l b = b → R C (PySem.Str.ofString "position") (.dat (.int (b : Nat))) μ)
def ph_reduced : DF := fun ss μ Q => ∃ n u, ss = [.dat (.int n), .dat (.int u)] ∧ (1 ≤ u ∧ Sm 8000 n ∧ Sm 8000 u) ∧ Q (.dat (rat (redN n u) (redD n u))) μ
def phE_parse_ratio (C : Addr) : DFE := fun ss μ Q R => ∃ (l : List Nat), ss = [.dat (.str (T l))] ∧ l.length ≤ 600 ∧ (∀ z, rdL l = .inr z → Q (.dat (rat z.1 z.2)) μ) ∧ (∀ p, rdL l = .inl p → R C (PySem.Str.ofString "position") (.dat (.int (p : Nat))) μ)
def ph_law_ratio : DF := ph_reduced
def ph_law_text : DF := fun ss μ Q => ∃ n u, ss = [.dat (rat n u)] ∧ (1 ≤ u ∧ Dg n ∧ Dg u) ∧ Q (.dat (.str (T (ratL n u)))) μ
def ph_law_digits : DF := fun ss μ Q => ∃ (l : List Nat) (b : Nat) (z : Bool), ss = [.dat (.str (T l)), .dat (.int (b : Int)), .dat (.bool z)] ∧ (b ≤ l.length ∧ l.length ≤ 600) ∧ Q (.dat (.int (digL l b z : Nat))) μ
def ph_law_read : DF := fun ss μ Q => ∃ l, ss = [.dat (.str (T l))] ∧ l.length ≤ 600 ∧ Q (.dat (readD l)) μ
def ph_law_bent : DF := fun ss μ Q => ∃ k l, ss = [.cell k, .dat (.str (T l))] ∧ Pot μ k ∧ l.length ≤ 300 ∧ ∀ l' μ', l'.length ≤ l.length + 1 → Ch k μ μ' → Q (.dat (.str (T l'))) μ'
def ph_law_heard : DF := fun ss μ Q => ∃ l, ss = [.dat (.str (T l))] ∧ l.length ≤ 600 ∧ Q (.dat (heardD l)) μ
def ph_law_right : DF := fun ss μ Q => ∃ l, ss = [.dat (.str (T l))] ∧ l.length ≤ 600 ∧ Q (.dat (.bool true)) μ
def ph_law : DF := lawF
end K13
namespace K11
open PySem PySem.Spec PyProof.Rows L2 Evl DL
def ds_check_text : DS := (dIfS (dNot (dTru (dUn (fIsi .str) (dVar 0)))) dNever dNext)
def ds_is_ratio : DS := (dSeq (dIfS (dOr (dNot (dTru (dCall 2 WL.ph_is_tuple_of (aCons (dVar 0) (aCons (dC (.int 2)) aNil))))) (dOr (dNot (dTru (dCall 1 WL.ph_is_integer (aCons (dOp rIx (dVar 0) (dC (.int 0))) aNil)))) (dNot (dTru (dCall 1 WL.ph_is_integer (aCons (dOp rIx (dVar 0) (dC (.int 1))) aNil)))))) (dRet (dC (.bool false))) dNext)
    (dSeq (dAsgG (dVar 0) (gT 2 (gsCons (gN 1) (gsCons (gN 2) gsNil))))
    (dRet (dAndV (dOp wGe (dVar 2) (dC (.int 1))) (dOp rEq (dCB fGcd (aCons (dVar 1) (aCons (dVar 2) aNil))) (dC (.int 1)))))))
def ds_check_ratio : DS := (dIfS (dNot (dTru (dCall 1 ph_is_ratio (aCons (dVar 0) aNil)))) dNever dNext)
def ds_reduced : DS := (dSeq (dAsg (dCB fGcd (aCons (dVar 0) (aCons (dVar 1) aNil))) 2)
    (dSeq (dIfS (dTest (dOp wLt (dVar 1) (dC (.int 0)))) (dAsg (dUn rNeg (dVar 2)) 2) dNext)
    (dRet (dTup (aCons (dOp rDv (dVar 0) (dVar 2)) (aCons (dOp rDv (dVar 1) (dVar 2)) aNil))))))
def ds_ratio_text : DS := (dSeq (dDrop (dCall 1 ph_check_ratio (aCons (dVar 0) aNil)))
    (dSeq (dAsgG (dVar 0) (gT 2 (gsCons (gN 1) (gsCons (gN 2) gsNil))))
    (dSeq (dAsg (dIf (dTest (dOp wLt (dVar 1) (dC (.int 0)))) (dC (.str (PySem.Str.ofString "-"))) (dC (.str (PySem.Str.ofString "")))) 3)
    (dSeq (dAsg (dOp rAdd (dVar 3) (dCall 1 ph_count_text (aCons (dCB fAbs (aCons (dVar 1) aNil)) aNil))) 4)
    (dRet (dIf (dTest (dOp rEq (dVar 2) (dC (.int 1)))) (dVar 4) (dOp rAdd (dOp rAdd (dVar 4) (dC (.str (PySem.Str.ofString "/")))) (dCall 1 ph_count_text (aCons (dVar 2) aNil)))))))))
def ds_count_text : DS := (dSeq (dAsg (dLstC aNil) 1)
    (dSeq (dWhile (dTest (dOp wGe (dVar 0) (dOp rPw (dC (.int 10)) (dC (.int 60))))) (dSeq (dAsgG (dCB fDm (aCons (dVar 0) (aCons (dOp rPw (dC (.int 10)) (dC (.int 60))) aNil))) (gT 2 (gsCons (gN 0) (gsCons (gN 2) gsNil))))
    (dDrop (dMtL mApp (dVar 1) (aCons dNevE aNil)))))
    (dSeq (dDrop (dMtL mApp (dVar 1) (aCons (dCB fStrI (aCons (dVar 0) aNil)) aNil)))
    (dRet (dMtS mJoin (dC (.str (PySem.Str.ofString ""))) (aCons (dUn rRevL (dVar 1)) aNil))))))
def ds_parse_ratio : DS := (dSeq (dDrop (dCall 1 ph_check_text (aCons (dVar 0) aNil)))
    (dSeq (dAsg (dIf (dTru (dMtS mSw (dVar 0) (aCons (dC (.str (PySem.Str.ofString "-"))) aNil))) (dC (.int 1)) (dC (.int 0))) 1)
    (dSeq (dAsg (dCall 2 ph_digits_end (aCons (dVar 0) (aCons (dVar 1) aNil))) 2)
    (dSeq (dIfS (dTest (dOp rEq (dVar 2) (dCB fLen (aCons (dVar 0) aNil)))) (dRet (dTup (aCons (dCB fInt (aCons (dVar 0) aNil)) (aCons (dC (.int 1)) aNil)))) dNext)
    (dSeq (dIfS (dTest (dOp rNe (dOp rIx (dVar 0) (dVar 2)) (dC (.str (PySem.Str.ofString "/"))))) dNever dNext)
    (dSeq (dIfS (dTru (dMtS mSw3 (dVar 0) (aCons (dC (.str (PySem.Str.ofString "0"))) (aCons (dOp rAdd (dVar 2) (dC (.int 1))) aNil)))) dNever dNext)
    (dSeq (dAsg (dCall 2 ph_digits_end (aCons (dVar 0) (aCons (dOp rAdd (dVar 2) (dC (.int 1))) aNil))) 3)
    (dSeq (dIfS (dTest (dOp wLt (dVar 3) (dCB fLen (aCons (dVar 0) aNil)))) dNever dNext)
    (dRet (dCall 2 ph_reduced (aCons (dCB fInt (aCons (dSl (dVar 0) oNone (oSome (dVar 2))) aNil)) (aCons (dCB fInt (aCons (dSl (dVar 0) (oSome (dOp rAdd (dVar 2) (dC (.int 1)))) oNone) aNil)) aNil))))))))))))
def ds_digits_end : DS := (dSeq (dIfS (dTru (dMtS mSw3 (dVar 0) (aCons (dC (.str (PySem.Str.ofString "0"))) (aCons (dVar 1) aNil)))) (dRet (dOp rAdd (dVar 1) (dC (.int 1)))) dNext)
    (dSeq (dAsg (dVar 1) 2)
    (dSeq (dWhile (dAnd (dTest (dOp wLt (dVar 2) (dCB fLen (aCons (dVar 0) aNil)))) (dTest (dChain wLe wLe (dC (.str (PySem.Str.ofString "0"))) (dOp rIx (dVar 0) (dVar 2)) (dC (.str (PySem.Str.ofString "9")))))) (dAug 2 rIadd (dC (.int 1))))
    (dSeq (dIfS (dTest (dOp rEq (dVar 2) (dVar 1))) dNever dNext)
    (dRet (dVar 2))))))
def ds_law_common : DS := (dSeq (dWhile (dTest (dOp rNe (dVar 1) (dC (.int 0)))) (dPar 0 1 (aCons (dVar 1) (aCons (dOp rSub (dVar 0) (dOp rMul (dOp rDv (dVar 0) (dVar 1)) (dVar 1))) aNil))))
    (dRet (dCB fAbs (aCons (dVar 0) aNil))))
end K11
namespace K13
open PySem PySem.Spec PyProof.Rows L2 Evl DL
def ds_law_pot : DS := (dSeq (dAsg (dIf (dTest (dOp wLt (dVar 1) (dCB fLen (aCons (dVar 0) aNil)))) (dCB fAbs (aCons (dOp rIx (dVar 0) (dVar 1)) aNil)) (dOp rAdd (dOp rMul (dC (.int 1277)) (dVar 1)) (dC (.int 1013)))) 2)
    (dRet (dLstC (aCons (dCB fMax2 (aCons (dC (.int 0)) (aCons (dOp rSub (dVar 2) (dOp rPw (dC (.int 10)) (dC (.int 18)))) aNil))) (aCons (dOp rAdd (dOp rMd (dCB fInt (aCons (dOp rAdd (dOp rAdd (dOp rMul (dOp rMd (dCB fInt (aCons (dVar 2) aNil)) (dC (.int 2147483543))) (dC (.int 41801))) (dOp rMul (dC (.int 7411)) (dVar 1))) (dC (.int 997))) aNil)) (dC (.int 2147483549))) (dC (.int 1))) aNil)))))
def ds_law_draw : DS := (dSeq (dIfS (dTest (dOp wGt (dOp rIx (dVar 0) (dC (.int 0))) (dC (.int 0)))) (dSeq (dAsgG (dCB fDm (aCons (dOp rIx (dVar 0) (dC (.int 0))) (aCons (dVar 1) aNil))) (gT 2 (gsCons (gS (dVar 0) (dC (.int 0))) (gsCons (gN 2) gsNil))))
    (dRet (dVar 2))) dNext)
    (dSeq (dAsgG (dOp rMd (dCB fInt (aCons (dOp rAdd (dOp rMul (dOp rIx (dVar 0) (dC (.int 1))) (dC (.int 41143))) (dC (.int 31643))) aNil)) (dC (.int 2147483549))) (gS (dVar 0) (dC (.int 1))))
    (dRet (dOp rMd (dCB fInt (aCons (dOp rDv (dOp rMd (dCB fInt (aCons (dOp rMul (dOp rIx (dVar 0) (dC (.int 1))) (dOp rIx (dVar 0) (dC (.int 1)))) aNil)) (dC (.int 2147483543))) (dC (.int 23))) aNil)) (dVar 1)))))
def ds_law_ratio : DS := (dSeq (dAsg (dCall 2 K11.ph_law_common (aCons (dVar 0) (aCons (dVar 1) aNil))) 2)
    (dSeq (dIfS (dTest (dOp wLt (dVar 1) (dC (.int 0)))) (dAsg (dUn rNeg (dVar 2)) 2) dNext)
    (dRet (dTup (aCons (dOp rDv (dVar 0) (dVar 2)) (aCons (dOp rDv (dVar 1) (dVar 2)) aNil))))))
def ds_law_text : DS := (dRet (dIf (dTest (dOp rEq (dOp rIx (dVar 0) (dC (.int 1))) (dC (.int 1)))) (dCB fStrI (aCons (dOp rIx (dVar 0) (dC (.int 0))) aNil)) (dOp rAdd (dOp rAdd (dCB fStrI (aCons (dOp rIx (dVar 0) (dC (.int 0))) aNil)) (dC (.str (PySem.Str.ofString "/")))) (dCB fStrI (aCons (dOp rIx (dVar 0) (dC (.int 1))) aNil)))))
def ds_law_digits : DS := (dSeq (dIfS (dAnd (dTest (dOp rEq (dSl (dVar 0) (oSome (dVar 1)) (oSome (dOp rAdd (dVar 1) (dC (.int 1))))) (dC (.str (PySem.Str.ofString "0"))))) (dTru (dVar 2))) (dRet (dOp rAdd (dVar 1) (dC (.int 1)))) dNext)
    (dSeq (dAsg (dVar 1) 3)
    (dSeq (dWhile (dAnd (dTest (dOp wLt (dVar 3) (dCB fLen (aCons (dVar 0) aNil)))) (dAnd (dTest (dOp (wIn id) (dOp rIx (dVar 0) (dVar 3)) (dC (.str (PySem.Str.ofString "0123456789"))))) (dOr (dTest (dOp wGt (dVar 3) (dVar 1))) (dTest (dOp rNe (dOp rIx (dVar 0) (dVar 3)) (dC (.str (PySem.Str.ofString "0")))))))) (dAsg (dOp rAdd (dVar 3) (dC (.int 1))) 3))
    (dRet (dVar 3)))))
def ds_law_read : DS := (dSeq (dAsg (dIf (dTest (dOp rEq (dSl (dVar 0) oNone (oSome (dC (.int 1)))) (dC (.str (PySem.Str.ofString "-"))))) (dC (.int 1)) (dC (.int 0))) 1)
    (dSeq (dAsg (dCall 3 ph_law_digits (aCons (dVar 0) (aCons (dVar 1) (aCons (dC (.bool true)) aNil)))) 2)
    (dSeq (dIfS (dTest (dOp rEq (dVar 2) (dVar 1))) (dRet (dTup (aCons (dVar 1) (aCons (dC .none) aNil)))) dNext)
    (dSeq (dAsg (dIf (dTest (dOp rEq (dVar 1) (dC (.int 0)))) (dCB fInt (aCons (dSl (dVar 0) (oSome (dVar 1)) (oSome (dVar 2))) aNil)) (dUn rNeg (dCB fInt (aCons (dSl (dVar 0) (oSome (dVar 1)) (oSome (dVar 2))) aNil)))) 3)
    (dSeq (dIfS (dTest (dOp rEq (dVar 2) (dCB fLen (aCons (dVar 0) aNil)))) (dRet (dTup (aCons (dC .none) (aCons (dTup (aCons (dVar 3) (aCons (dC (.int 1)) aNil))) aNil)))) dNext)
    (dSeq (dIfS (dTest (dOp rNe (dOp rIx (dVar 0) (dVar 2)) (dC (.str (PySem.Str.ofString "/"))))) (dRet (dTup (aCons (dVar 2) (aCons (dC .none) aNil)))) dNext)
    (dSeq (dAsg (dCall 3 ph_law_digits (aCons (dVar 0) (aCons (dOp rAdd (dVar 2) (dC (.int 1))) (aCons (dC (.bool false)) aNil)))) 4)
    (dSeq (dIfS (dOr (dTest (dOp rEq (dVar 4) (dOp rAdd (dVar 2) (dC (.int 1))))) (dTest (dOp wLt (dVar 4) (dCB fLen (aCons (dVar 0) aNil))))) (dRet (dTup (aCons (dVar 4) (aCons (dC .none) aNil)))) dNext)
    (dRet (dTup (aCons (dC .none) (aCons (dCall 2 ph_law_ratio (aCons (dVar 3) (aCons (dCB fInt (aCons (dSl (dVar 0) (oSome (dOp rAdd (dVar 2) (dC (.int 1)))) oNone) aNil)) aNil))) aNil))))))))))))
def ds_law_bent : DS := (dSeq (dPar 2 3 (aCons (dOp rMd (dCall 2 WL.ph_law_draw (aCons (dVar 0) (aCons (dC (.int 40)) aNil))) (dOp rAdd (dCB fLen (aCons (dVar 1) aNil)) (dC (.int 1)))) (aCons (dCall 2 WL.ph_law_draw (aCons (dVar 0) (aCons (dC (.int 4)) aNil))) aNil)))
    (dSeq (dAsg (dCall 2 WL.ph_law_pick (aCons (dVar 0) (aCons (dLst (aCons (dC (.str (PySem.Str.ofString "0"))) (aCons (dC (.str (PySem.Str.ofString "1"))) (aCons (dC (.str (PySem.Str.ofString "9"))) (aCons (dC (.str (PySem.Str.ofString "-"))) (aCons (dC (.str (PySem.Str.ofString "/"))) (aCons (dC (.str (PySem.Str.ofString " "))) (aCons (dC (.str (PySem.Str.ofString "+"))) (aCons (dC (.str (PySem.Str.ofString "a"))) (aCons (dC (.str (PySem.Str.ofString "."))) (aCons (dC (.str (PySem.Str.ofString "\n"))) aNil))))))))))) aNil))) 4)
    (dSeq (dIfS (dTest (dOp rEq (dVar 3) (dC (.int 0)))) (dRet (dOp rAdd (dSl (dVar 1) oNone (oSome (dVar 2))) (dSl (dVar 1) (oSome (dOp rAdd (dVar 2) (dC (.int 1)))) oNone))) dNext)
    (dSeq (dIfS (dTest (dOp rEq (dVar 3) (dC (.int 1)))) (dRet (dOp rAdd (dOp rAdd (dSl (dVar 1) oNone (oSome (dVar 2))) (dVar 4)) (dSl (dVar 1) (oSome (dVar 2)) oNone))) dNext)
    (dRet (dIf (dTest (dOp rEq (dVar 3) (dC (.int 2)))) (dSl (dVar 1) oNone (oSome (dVar 2))) (dOp rAdd (dOp rAdd (dSl (dVar 1) oNone (oSome (dVar 2))) (dVar 4)) (dSl (dVar 1) (oSome (dOp rAdd (dVar 2) (dC (.int 1)))) oNone))))))))
def ds_law_right : DS := (dSeq (dAsgG (dCall 1 ph_law_read (aCons (dVar 0) aNil)) (gT 2 (gsCons (gN 1) (gsCons (gN 2) gsNil))))
    (dRet (dOp rEq (dCall 1 ph_law_heard (aCons (dVar 0) aNil)) (dIf (dTest (dOp (rIs false) (dVar 1) (dC .none))) (dVar 2) (dLst (aCons (dC (.str (PySem.Str.ofString "bad"))) (aCons (dVar 1) (aCons (dC (.bool true)) aNil))))))))
def ds_law : DS := (dSeq (dAsg (dCall 2 WL.ph_law_pot (aCons (dVar 0) (aCons (dC (.int 0)) aNil))) 1)
    (dSeq (dAsg (dLst (aCons (dC (.str (PySem.Str.ofString ""))) (aCons (dC (.str (PySem.Str.ofString "-"))) (aCons (dC (.str (PySem.Str.ofString "0"))) (aCons (dC (.str (PySem.Str.ofString "-0"))) (aCons (dC (.str (PySem.Str.ofString "00"))) (aCons (dC (.str (PySem.Str.ofString "01"))) (aCons (dC (.str (PySem.Str.ofString "-01"))) (aCons (dC (.str (PySem.Str.ofString "--1"))) (aCons (dC (.str (PySem.Str.ofString "+1"))) (aCons (dC (.str (PySem.Str.ofString "1/"))) (aCons (dC (.str (PySem.Str.ofString "1/0"))) (aCons (dC (.str (PySem.Str.ofString "1/05"))) (aCons (dC (.str (PySem.Str.ofString "0/5"))) (aCons (dC (.str (PySem.Str.ofString "4/2"))) (aCons (dC (.str (PySem.Str.ofString "-4/6"))) (aCons (dC (.str (PySem.Str.ofString "1 /2"))) (aCons (dC (.str (PySem.Str.ofString "1/2 "))) (aCons (dC (.str (PySem.Str.ofString " 1"))) (aCons (dC (.str (PySem.Str.ofString "1/-2"))) aNil)))))))))))))))))))) 2)
    (dSeq (dFor (iSeq (dOp rAdd (dVar 2) (dLst (aCons (dC (.str (PySem.Str.ofString "a"))) (aCons (dC (.str (PySem.Str.ofString "1/2/3"))) (aCons (dC (.str (PySem.Str.ofString "10/100"))) (aCons (dC (.str (PySem.Str.ofString "1/1"))) (aCons (dC (.str (PySem.Str.ofString "/2"))) (aCons (dC (.str (PySem.Str.ofString "-/2"))) (aCons (dC (.str (PySem.Str.ofString "1.5"))) (aCons (dOp rMulS (dC (.str (PySem.Str.ofString "9"))) (dC (.int 30))) (aCons (dC (.str (PySem.Str.ofString "1\n"))) aNil)))))))))))) (gN 3) (dIfS (dNot (dTru (dCall 1 ph_law_right (aCons (dVar 3) aNil)))) (dRet (dC (.bool false))) dNext))
    (dSeq (dFor (iRg1 (aCons (dC (.int 8)) aNil)) (gN 4) (dSeq (dPar 5 6 (aCons (dOp rMul (dOp rSub (dCall 2 WL.ph_law_draw (aCons (dVar 1) (aCons (dC (.int 401)) aNil))) (dC (.int 200))) (dCall 2 WL.ph_law_pick (aCons (dVar 1) (aCons (dLst (aCons (dC (.int 1)) (aCons (dC (.int 1)) (aCons (dOp rPw (dC (.int 10)) (dC (.int 9))) aNil)))) aNil)))) (aCons (dOp rAdd (dC (.int 1)) (dCall 2 WL.ph_law_draw (aCons (dVar 1) (aCons (dC (.int 30)) aNil)))) aNil)))
    (dSeq (dPar 7 3 (aCons (dCall 2 ph_law_ratio (aCons (dVar 5) (aCons (dVar 6) aNil))) (aCons (dOp rAdd (dOp rAdd (dCB fStrI (aCons (dVar 5) aNil)) (dC (.str (PySem.Str.ofString "/")))) (dCB fStrI (aCons (dVar 6) aNil))) aNil)))
    (dSeq (dIfS (dOr (dTest (dOp rNe (dCall 1 K11.ph_ratio_text (aCons (dVar 7) aNil)) (dCall 1 ph_law_text (aCons (dVar 7) aNil)))) (dTest (dOp rNe (dCallK 0 [0] 1 K11.ph_parse_ratio aNil (aCons (dCallK 0 [0] 1 K11.ph_ratio_text aNil (aCons (dVar 7) aNil)) aNil)) (dVar 7)))) (dRet (dC (.bool false))) dNext)
    (dSeq (dAsg (dCall 2 ph_law_bent (aCons (dVar 1) (aCons (dVar 3) aNil))) 8)
    (dIfS (dOr (dNot (dTru (dCall 1 ph_law_right (aCons (dVar 3) aNil)))) (dOr (dNot (dTru (dCall 1 ph_law_right (aCons (dVar 8) aNil)))) (dNot (dTru (dCall 1 ph_law_right (aCons (dCall 2 ph_law_bent (aCons (dVar 1) (aCons (dVar 8) aNil))) aNil)))))) (dRet (dC (.bool false))) dNext))))))
    (dRet (dC (.bool true)))))))
end K13
namespace K13
open PySem PySem.Spec PyProof.Rows L2 Evl DL
def topS (i : Nat) : Stmt := PySem.Challenge.pw_wishways_k13_any_text_as_ratio.main.body.getD i (.Pass ⟨0, 0, 0, 0⟩)
abbrev s_is_integer : Stmt := topS 7
theorem sc_is_integer : FnScope ["value"] ["value"] (defScope s_is_integer) := ⟨rfl, rfl, rfl, by decide +kernel, rfl, by decide +kernel, by decide +kernel⟩
abbrev s_is_tuple_of : Stmt := topS 8
theorem sc_is_tuple_of : FnScope ["value", "many"] ["value", "many"] (defScope s_is_tuple_of) := ⟨rfl, rfl, rfl, by decide +kernel, rfl, by decide +kernel, by decide +kernel⟩
abbrev s_check_text : Stmt := topS 9
theorem sc_check_text : FnScope ["text"] ["text"] (defScope s_check_text) := ⟨rfl, rfl, rfl, by decide +kernel, rfl, by decide +kernel, by decide +kernel⟩
abbrev s_is_ratio : Stmt := topS 11
theorem sc_is_ratio : FnScope ["value", "number", "under"] ["value"] (defScope s_is_ratio) := ⟨rfl, rfl, rfl, by decide +kernel, rfl, by decide +kernel, by decide +kernel⟩
abbrev s_check_ratio : Stmt := topS 12
theorem sc_check_ratio : FnScope ["value"] ["value"] (defScope s_check_ratio) := ⟨rfl, rfl, rfl, by decide +kernel, rfl, by decide +kernel, by decide +kernel⟩
abbrev s_reduced : Stmt := topS 13
theorem sc_reduced : FnScope ["number", "under", "divisor"] ["number", "under"] (defScope s_reduced) := ⟨rfl, rfl, rfl, by decide +kernel, rfl, by decide +kernel, by decide +kernel⟩
abbrev s_ratio_text : Stmt := topS 14
theorem sc_ratio_text : FnScope ["ratio", "number", "under", "sign", "text"] ["ratio"] (defScope s_ratio_text) := ⟨rfl, rfl, rfl, by decide +kernel, rfl, by decide +kernel, by decide +kernel⟩
abbrev s_count_text : Stmt := topS 15
theorem sc_count_text : FnScope ["number", "pieces", "low"] ["number"] (defScope s_count_text) := ⟨rfl, rfl, rfl, by decide +kernel, rfl, by decide +kernel, by decide +kernel⟩
abbrev s_parse_ratio : Stmt := topS 16
theorem sc_parse_ratio : FnScope ["text", "begin", "end", "last"] ["text"] (defScope s_parse_ratio) := ⟨rfl, rfl, rfl, by decide +kernel, rfl, by decide +kernel, by decide +kernel⟩
abbrev s_digits_end : Stmt := topS 17
theorem sc_digits_end : FnScope ["text", "begin", "end"] ["text", "begin"] (defScope s_digits_end) := ⟨rfl, rfl, rfl, by decide +kernel, rfl, by decide +kernel, by decide +kernel⟩
abbrev s_law_pot : Stmt := topS 19
theorem sc_law_pot : FnScope ["script", "k", "cell"] ["script", "k"] (defScope s_law_pot) := ⟨rfl, rfl, rfl, by decide +kernel, rfl, by decide +kernel, by decide +kernel⟩
abbrev s_law_draw : Stmt := topS 20
theorem sc_law_draw : FnScope ["pot", "size", "digit"] ["pot", "size"] (defScope s_law_draw) := ⟨rfl, rfl, rfl, by decide +kernel, rfl, by decide +kernel, by decide +kernel⟩
abbrev s_law_pick : Stmt := topS 21
theorem sc_law_pick : FnScope ["pot", "some"] ["pot", "some"] (defScope s_law_pick) := ⟨rfl, rfl, rfl, by decide +kernel, rfl, by decide +kernel, by decide +kernel⟩
abbrev s_law_common : Stmt := topS 22
theorem sc_law_common : FnScope ["one", "other"] ["one", "other"] (defScope s_law_common) := ⟨rfl, rfl, rfl, by decide +kernel, rfl, by decide +kernel, by decide +kernel⟩
abbrev s_law_ratio : Stmt := topS 23
theorem sc_law_ratio : FnScope ["number", "under", "common"] ["number", "under"] (defScope s_law_ratio) := ⟨rfl, rfl, rfl, by decide +kernel, rfl, by decide +kernel, by decide +kernel⟩
abbrev s_law_text : Stmt := topS 24
theorem sc_law_text : FnScope ["ratio"] ["ratio"] (defScope s_law_text) := ⟨rfl, rfl, rfl, by decide +kernel, rfl, by decide +kernel, by decide +kernel⟩
abbrev s_law_digits : Stmt := topS 25
theorem sc_law_digits : FnScope ["text", "begin", "is_nought_let", "end"] ["text", "begin", "is_nought_let"] (defScope s_law_digits) := ⟨rfl, rfl, rfl, by decide +kernel, rfl, by decide +kernel, by decide +kernel⟩
abbrev s_law_read : Stmt := topS 26
theorem sc_law_read : FnScope ["text", "begin", "end", "number", "last"] ["text"] (defScope s_law_read) := ⟨rfl, rfl, rfl, by decide +kernel, rfl, by decide +kernel, by decide +kernel⟩
abbrev s_law_bent : Stmt := topS 27
theorem sc_law_bent : FnScope ["pot", "text", "at", "way", "sign"] ["pot", "text"] (defScope s_law_bent) := ⟨rfl, rfl, rfl, by decide +kernel, rfl, by decide +kernel, by decide +kernel⟩
abbrev s_law_heard : Stmt := topS 28
theorem sc_law_heard : FnScope ["text", "told", "e"] ["text"] (defScope s_law_heard) := ⟨rfl, rfl, rfl, by decide +kernel, rfl, by decide +kernel, by decide +kernel⟩
abbrev s_law_right : Stmt := topS 29
theorem sc_law_right : FnScope ["text", "place", "due"] ["text"] (defScope s_law_right) := ⟨rfl, rfl, rfl, by decide +kernel, rfl, by decide +kernel, by decide +kernel⟩
abbrev s_law : Stmt := topS 30
theorem sc_law : FnScope ["script", "pot", "told", "text", "turn", "number", "under", "ratio", "bent"] ["script"] (defScope s_law) := ⟨rfl, rfl, rfl, by decide +kernel, rfl, by decide +kernel, by decide +kernel⟩
end K13
namespace K13
open PySem PySem.Spec PyProof.Rows L2 Evl DL
section
variable {P : Program} {w : World} {K : PySem.W.Frag} {mg : Str → Option Value} {base : Heap}
theorem ow_is_integer (hm : ∃ f fd, Fun K "is_integer" "is_integer" s_is_integer f fd ∧ mg "is_integer" = some (.ref f)) (z_bool : mg "bool" = none) (z_int : mg "int" = none) (z_isinstance : mg "isinstance" = none)  (hp : Pure ["value"] 1 WL.ph_is_integer WL.ds_is_integer) : Own P w K mg base "is_integer" s_is_integer ["value"] 1 1 WL.ph_is_integer := by
  obtain ⟨f, fd, F, hf⟩ := hm
  exact ⟨f, fd, F, okD F sc_is_integer rfl (fun cdv A outer s H E hr => (pds_one (pd_ret (pd_and (pd_isi .int (pd_var 0) z_isinstance z_int (by decide +kernel)) (pd_one (pd_not (pd_isi .bool (pd_var 0) z_isinstance z_bool (by decide +kernel)))))))) hp, hf⟩
theorem ow_is_tuple_of (hm : ∃ f fd, Fun K "is_tuple_of" "is_tuple_of" s_is_tuple_of f fd ∧ mg "is_tuple_of" = some (.ref f)) (z_isinstance : mg "isinstance" = none) (z_len : mg "len" = none) (z_tuple : mg "tuple" = none)  (hp : Pure ["value", "many"] 2 WL.ph_is_tuple_of WL.ds_is_tuple_of) : Own P w K mg base "is_tuple_of" s_is_tuple_of ["value", "many"] 1 2 WL.ph_is_tuple_of := by
  obtain ⟨f, fd, F, hf⟩ := hm
  exact ⟨f, fd, F, okD F sc_is_tuple_of rfl (fun cdv A outer s H E hr => (pds_one (pd_ret (pd_and (pd_isi .tup (pd_var 0) z_isinstance z_tuple (by decide +kernel)) (pd_one (pd_cmp (op_eqV hr.u64) lr_eq (pd_len  (pda_cons (pd_var 0) pda_nil) z_len) (pd_var 1) (nomark _))))))) hp, hf⟩
theorem ow_check_text (hm : ∃ f fd, Fun K "check_text" "check_text" s_check_text f fd ∧ mg "check_text" = some (.ref f)) (z_isinstance : mg "isinstance" = none) (z_str : mg "str" = none)  (hp : Pure ["text"] 1 K11.ph_check_text K11.ds_check_text) : Own P w K mg base "check_text" s_check_text ["text"] 1 1 K11.ph_check_text := by
  obtain ⟨f, fd, F, hf⟩ := hm
  exact ⟨f, fd, F, okD F sc_check_text rfl (fun cdv A outer s H E hr => (pds_one (pd_if (pdt_not (pdt_tru (pd_isi .str (pd_var 0) z_isinstance z_str (by decide +kernel)))) (pds_one pd_never) pds_nil))) hp, hf⟩
theorem ow_is_ratio (hm : ∃ f fd, Fun K "is_ratio" "is_ratio" s_is_ratio f fd ∧ mg "is_ratio" = some (.ref f)) (z_gcd : mg "gcd" = some (.builtin "math.gcd")) (o_is_integer : Own P w K mg base "is_integer" s_is_integer ["value"] 1 1 WL.ph_is_integer) (o_is_tuple_of : Own P w K mg base "is_tuple_of" s_is_tuple_of ["value", "many"] 1 2 WL.ph_is_tuple_of) (hp : Pure ["value", "number", "under"] 1 K11.ph_is_ratio K11.ds_is_ratio) : Own P w K mg base "is_ratio" s_is_ratio ["value"] 2 1 K11.ph_is_ratio := by
  obtain ⟨f, fd, F, hf⟩ := hm
  exact ⟨f, fd, F, okD F sc_is_ratio rfl (fun cdv A outer s H E hr => (pds_cons (pd_if (PDW.pdt (pdw_or (pdt_not (pdt_tru (pd_call o_is_tuple_of (hr.mono (by decide)) (fun _ _ _ _ _ _ us hl => match us, hl with | [_, _], _ => rfl) (pda_cons (pd_var 0) (pda_cons pd_int pda_nil))))) (pdw_or (pdt_not (pdt_tru (pd_call o_is_integer (hr.mono (by decide)) (fun _ _ _ _ _ _ us hl => match us, hl with | [_], _ => rfl) (pda_cons (pd_ix (pd_var 0) pd_int) pda_nil)))) (pdw_or1 (pdt_not (pdt_tru (pd_call o_is_integer (hr.mono (by decide)) (fun _ _ _ _ _ _ us hl => match us, hl with | [_], _ => rfl) (pda_cons (pd_ix (pd_var 0) pd_int) pda_nil)))))))) (pds_one (pd_ret pd_bl)) pds_nil)
    (pds_cons (pd_asgG (pd_var 0) (pdg_tup rfl (pdgs_cons (pdg_name (i := 1) sc_is_ratio.nd) (pdgs_cons (pdg_name (i := 2) sc_is_ratio.nd) pdgs_nil))))
    (pds_one (pd_ret (pd_and (pd_cmp (op_geW hr.u128) lr_ordW (pd_var 2) pd_int (nomark _)) (pd_one (pd_cmp (op_eqV hr.u64) lr_eq (pd_gcd (pda_cons (pd_var 1) (pda_cons (pd_var 2) pda_nil)) z_gcd) pd_int (nomark _))))))))) hp, hf⟩
theorem ow_check_ratio (hm : ∃ f fd, Fun K "check_ratio" "check_ratio" s_check_ratio f fd ∧ mg "check_ratio" = some (.ref f))  (o_is_ratio : Own P w K mg base "is_ratio" s_is_ratio ["value"] 2 1 K11.ph_is_ratio) (hp : Pure ["value"] 1 K11.ph_check_ratio K11.ds_check_ratio) : Own P w K mg base "check_ratio" s_check_ratio ["value"] 3 1 K11.ph_check_ratio := by
  obtain ⟨f, fd, F, hf⟩ := hm
  exact ⟨f, fd, F, okD F sc_check_ratio rfl (fun cdv A outer s H E hr => (pds_one (pd_if (pdt_not (pdt_tru (pd_call o_is_ratio (hr.mono (by decide)) (fun _ _ _ _ _ _ us hl => match us, hl with | [_], _ => rfl) (pda_cons (pd_var 0) pda_nil)))) (pds_one pd_never) pds_nil))) hp, hf⟩
theorem ow_reduced (hm : ∃ f fd, Fun K "reduced" "reduced" s_reduced f fd ∧ mg "reduced" = some (.ref f)) (z_gcd : mg "gcd" = some (.builtin "math.gcd"))  (hp : Pure ["number", "under", "divisor"] 2 K11.ph_reduced K11.ds_reduced) : Own P w K mg base "reduced" s_reduced ["number", "under"] 1 2 K11.ph_reduced := by
  obtain ⟨f, fd, F, hf⟩ := hm
  exact ⟨f, fd, F, okD F sc_reduced rfl (fun cdv A outer s H E hr => (pds_cons (pd_set (i := 2) sc_reduced.nd (pd_gcd (pda_cons (pd_var 0) (pda_cons (pd_var 1) pda_nil)) z_gcd))
    (pds_cons (pd_if (pdt_cmp (op_ltW hr.u128) lr_ordW (pd_var 1) pd_int (nomark _)) (pds_one (pd_set (i := 2) sc_reduced.nd (pd_neg (pd_var 2)))) pds_nil)
    (pds_one (pd_ret (pd_tup (pda_cons (pd_dv (pd_var 0) (pd_var 2)) (pda_cons (pd_dv (pd_var 1) (pd_var 2)) pda_nil)))))))) hp, hf⟩
theorem ow_ratio_text (hm : ∃ f fd, Fun K "ratio_text" "ratio_text" s_ratio_text f fd ∧ mg "ratio_text" = some (.ref f)) (z_abs : mg "abs" = none) (o_check_ratio : Own P w K mg base "check_ratio" s_check_ratio ["value"] 3 1 K11.ph_check_ratio) (o_count_text : Own P w K mg base "count_text" s_count_text ["number"] 1 1 K11.ph_count_text) (hp : Pure ["ratio", "number", "under", "sign", "text"] 1 K11.ph_ratio_text K11.ds_ratio_text) : Own P w K mg base "ratio_text" s_ratio_text ["ratio"] 4 1 K11.ph_ratio_text := by
  obtain ⟨f, fd, F, hf⟩ := hm
  exact ⟨f, fd, F, okD F sc_ratio_text rfl (fun cdv A outer s H E hr => (pds_cons (pd_expr (pd_call o_check_ratio (hr.mono (by decide)) (fun _ _ _ _ _ _ us hl => match us, hl with | [_], _ => rfl) (pda_cons (pd_var 0) pda_nil)))
    (pds_cons (pd_asgG (pd_var 0) (pdg_tup rfl (pdgs_cons (pdg_name (i := 1) sc_ratio_text.nd) (pdgs_cons (pdg_name (i := 2) sc_ratio_text.nd) pdgs_nil))))
    (pds_cons (pd_set (i := 3) sc_ratio_text.nd (pd_ifExp (pdt_cmp (op_ltW hr.u128) lr_ordW (pd_var 1) pd_int (nomark _)) pd_str pd_str))
    (pds_cons (pd_set (i := 4) sc_ratio_text.nd (pd_add (pd_var 3) (pd_call o_count_text (hr.mono (by decide)) (fun _ _ _ _ _ _ us hl => match us, hl with | [_], _ => rfl) (pda_cons (pd_abs  (pda_cons (pd_var 1) pda_nil) z_abs) pda_nil))))
    (pds_one (pd_ret (pd_ifExp (pdt_cmp (op_eqV hr.u64) lr_eq (pd_var 2) pd_int (nomark _)) (pd_var 4) (pd_add (pd_add (pd_var 4) pd_str) (pd_call o_count_text (hr.mono (by decide)) (fun _ _ _ _ _ _ us hl => match us, hl with | [_], _ => rfl) (pda_cons (pd_var 2) pda_nil))))))))))) hp, hf⟩
theorem ow_count_text (hm : ∃ f fd, Fun K "count_text" "count_text" s_count_text f fd ∧ mg "count_text" = some (.ref f)) (z_divmod : mg "divmod" = none) (z_str : mg "str" = none)  (hp : Pure ["number", "pieces", "low"] 1 K11.ph_count_text K11.ds_count_text) : Own P w K mg base "count_text" s_count_text ["number"] 1 1 K11.ph_count_text := by
  obtain ⟨f, fd, F, hf⟩ := hm
  exact ⟨f, fd, F, okD F sc_count_text rfl (fun cdv A outer s H E hr => (pds_cons (pd_set (i := 1) sc_count_text.nd (pd_lstC pda_nil))
    (pds_cons (pd_while PassesOwn.never (pdt_cmp (op_geW hr.u128) lr_ordW (pd_var 0) (pd_pw pd_int pd_int) (nomark _)) (pds_cons (pd_asgG (pd_dm  (pda_cons (pd_var 0) (pda_cons (pd_pw pd_int pd_int) pda_nil)) z_divmod) (pdg_tup rfl (pdgs_cons (pdg_name (i := 0) sc_count_text.nd) (pdgs_cons (pdg_name (i := 2) sc_count_text.nd) pdgs_nil))))
    (pds_one (pd_expr (pd_append (pd_var 1) pd_nevE)))))
    (pds_cons (pd_expr (pd_append (pd_var 1) (pd_strI  (pda_cons (pd_var 0) pda_nil) z_str)))
    (pds_one (pd_ret (pd_join pd_str (pd_revL (pd_var 1))))))))) hp, hf⟩
theorem ow_parse_ratio (hm : ∃ f fd, Fun K "parse_ratio" "parse_ratio" s_parse_ratio f fd ∧ mg "parse_ratio" = some (.ref f)) (z_int : mg "int" = none) (z_len : mg "len" = none) (o_check_text : Own P w K mg base "check_text" s_check_text ["text"] 1 1 K11.ph_check_text) (o_reduced : Own P w K mg base "reduced" s_reduced ["number", "under"] 1 2 K11.ph_reduced) (o_digits_end : Own P w K mg base "digits_end" s_digits_end ["text", "begin"] 1 2 K11.ph_digits_end) (hp : Pure ["text", "begin", "end", "last"] 1 K11.ph_parse_ratio K11.ds_parse_ratio) : Own P w K mg base "parse_ratio" s_parse_ratio ["text"] 2 1 K11.ph_parse_ratio := by
  obtain ⟨f, fd, F, hf⟩ := hm
  exact ⟨f, fd, F, okD F sc_parse_ratio rfl (fun cdv A outer s H E hr => (pds_cons (pd_expr (pd_call o_check_text (hr.mono (by decide)) (fun _ _ _ _ _ _ us hl => match us, hl with | [_], _ => rfl) (pda_cons (pd_var 0) pda_nil)))
    (pds_cons (pd_set (i := 1) sc_parse_ratio.nd (pd_ifExp (pdt_tru (pd_startswith (pd_var 0) pd_str)) pd_int pd_int))
    (pds_cons (pd_set (i := 2) sc_parse_ratio.nd (pd_call o_digits_end (hr.mono (by decide)) (fun _ _ _ _ _ _ us hl => match us, hl with | [_, _], _ => rfl) (pda_cons (pd_var 0) (pda_cons (pd_var 1) pda_nil))))
    (pds_cons (pd_if (pdt_cmp (op_eqV hr.u64) lr_eq (pd_var 2) (pd_len  (pda_cons (pd_var 0) pda_nil) z_len) (nomark _)) (pds_one (pd_ret (pd_tup (pda_cons (pd_intc  (pda_cons (pd_var 0) pda_nil) z_int) (pda_cons pd_int pda_nil))))) pds_nil)
    (pds_cons (pd_if (pdt_cmp (op_neV hr.u64) lr_ne (pd_ix (pd_var 0) (pd_var 2)) pd_str (nomark _)) (pds_one pd_never) pds_nil)
    (pds_cons (pd_if (pdt_tru (pd_startswith3 (pd_var 0) pd_str (pd_add (pd_var 2) pd_int))) (pds_one pd_never) pds_nil)
    (pds_cons (pd_set (i := 3) sc_parse_ratio.nd (pd_call o_digits_end (hr.mono (by decide)) (fun _ _ _ _ _ _ us hl => match us, hl with | [_, _], _ => rfl) (pda_cons (pd_var 0) (pda_cons (pd_add (pd_var 2) pd_int) pda_nil))))
    (pds_cons (pd_if (pdt_cmp (op_ltW hr.u128) lr_ordW (pd_var 3) (pd_len  (pda_cons (pd_var 0) pda_nil) z_len) (nomark _)) (pds_one pd_never) pds_nil)
    (pds_one (pd_ret (pd_call o_reduced (hr.mono (by decide)) (fun _ _ _ _ _ _ us hl => match us, hl with | [_, _], _ => rfl) (pda_cons (pd_intc  (pda_cons (pd_sl (pd_var 0) pdo_none (pdo_some (pd_var 2))) pda_nil) z_int) (pda_cons (pd_intc  (pda_cons (pd_sl (pd_var 0) (pdo_some (pd_add (pd_var 2) pd_int)) pdo_none) pda_nil) z_int) pda_nil)))))))))))))) hp, hf⟩
theorem ow_digits_end (hm : ∃ f fd, Fun K "digits_end" "digits_end" s_digits_end f fd ∧ mg "digits_end" = some (.ref f)) (z_len : mg "len" = none)  (hp : Pure ["text", "begin", "end"] 2 K11.ph_digits_end K11.ds_digits_end) : Own P w K mg base "digits_end" s_digits_end ["text", "begin"] 1 2 K11.ph_digits_end := by
  obtain ⟨f, fd, F, hf⟩ := hm
  exact ⟨f, fd, F, okD F sc_digits_end rfl (fun cdv A outer s H E hr => (pds_cons (pd_if (pdt_tru (pd_startswith3 (pd_var 0) pd_str (pd_var 1))) (pds_one (pd_ret (pd_add (pd_var 1) pd_int))) pds_nil)
    (pds_cons (pd_set (i := 2) sc_digits_end.nd (pd_var 1))
    (pds_cons (pd_while PassesOwn.never (PDW.pdt (pdw_and (pdt_cmp (op_ltW hr.u128) lr_ordW (pd_var 2) (pd_len  (pda_cons (pd_var 0) pda_nil) z_len) (nomark _)) (pdw_and1 (pdt_chain (op_leW hr.u128) (op_leW hr.u128) lr_ordW lr_ordW pd_str (pd_ix (pd_var 0) (pd_var 2)) pd_str)))) (pds_one (pd_augAdd (i := 2) sc_digits_end.nd pd_int)))
    (pds_cons (pd_if (pdt_cmp (op_eqV hr.u64) lr_eq (pd_var 2) (pd_var 1) (nomark _)) (pds_one pd_never) pds_nil)
    (pds_one (pd_ret (pd_var 2)))))))) hp, hf⟩
theorem ow_law_pot (hm : ∃ f fd, Fun K "_law_pot" "_law_pot" s_law_pot f fd ∧ mg "_law_pot" = some (.ref f)) (z_abs : mg "abs" = none) (z_int : mg "int" = none) (z_len : mg "len" = none) (z_max : mg "max" = none)  (hp : Pure ["script", "k", "cell"] 2 WL.ph_law_pot ds_law_pot) : Own P w K mg base "_law_pot" s_law_pot ["script", "k"] 1 2 WL.ph_law_pot := by
  obtain ⟨f, fd, F, hf⟩ := hm
  exact ⟨f, fd, F, okD F sc_law_pot rfl (fun cdv A outer s H E hr => (pds_cons (pd_set (i := 2) sc_law_pot.nd (pd_ifExp (pdt_cmp (op_ltW hr.u128) lr_ordW (pd_var 1) (pd_len  (pda_cons (pd_var 0) pda_nil) z_len) (nomark _)) (pd_abs  (pda_cons (pd_ix (pd_var 0) (pd_var 1)) pda_nil) z_abs) (pd_add (pd_mul pd_int (pd_var 1)) pd_int)))
    (pds_one (pd_ret (pd_lstC (pda_cons (pd_max2 rfl (pda_cons pd_int (pda_cons (pd_sub (pd_var 2) (pd_pw pd_int pd_int)) pda_nil)) z_max) (pda_cons (pd_add (pd_md (pd_intc  (pda_cons (pd_add (pd_add (pd_mul (pd_md (pd_intc  (pda_cons (pd_var 2) pda_nil) z_int) pd_int) pd_int) (pd_mul pd_int (pd_var 1))) pd_int) pda_nil) z_int) pd_int) pd_int) pda_nil))))))) hp, hf⟩
theorem ow_law_draw (hm : ∃ f fd, Fun K "_law_draw" "_law_draw" s_law_draw f fd ∧ mg "_law_draw" = some (.ref f)) (z_divmod : mg "divmod" = none) (z_int : mg "int" = none)  (hp : Pure ["pot", "size", "digit"] 2 WL.ph_law_draw ds_law_draw) : Own P w K mg base "_law_draw" s_law_draw ["pot", "size"] 1 2 WL.ph_law_draw := by
  obtain ⟨f, fd, F, hf⟩ := hm
  exact ⟨f, fd, F, okD F sc_law_draw rfl (fun cdv A outer s H E hr => (pds_cons (pd_if (pdt_cmp (op_gtW hr.u128) lr_ordW (pd_ix (pd_var 0) pd_int) pd_int (nomark _)) (pds_cons (pd_asgG (pd_dm  (pda_cons (pd_ix (pd_var 0) pd_int) (pda_cons (pd_var 1) pda_nil)) z_divmod) (pdg_tup rfl (pdgs_cons (pdg_sub (pd_var 0) pd_int) (pdgs_cons (pdg_name (i := 2) sc_law_draw.nd) pdgs_nil))))
    (pds_one (pd_ret (pd_var 2)))) pds_nil)
    (pds_cons (pd_asgG (pd_md (pd_intc  (pda_cons (pd_add (pd_mul (pd_ix (pd_var 0) pd_int) pd_int) pd_int) pda_nil) z_int) pd_int) (pdg_sub (pd_var 0) pd_int))
    (pds_one (pd_ret (pd_md (pd_intc  (pda_cons (pd_dv (pd_md (pd_intc  (pda_cons (pd_mul (pd_ix (pd_var 0) pd_int) (pd_ix (pd_var 0) pd_int)) pda_nil) z_int) pd_int) pd_int) pda_nil) z_int) (pd_var 1))))))) hp, hf⟩
theorem ow_law_pick (hm : ∃ f fd, Fun K "_law_pick" "_law_pick" s_law_pick f fd ∧ mg "_law_pick" = some (.ref f)) (z_len : mg "len" = none) (o_law_draw : Own P w K mg base "_law_draw" s_law_draw ["pot", "size"] 1 2 WL.ph_law_draw) (hp : Pure ["pot", "some"] 2 WL.ph_law_pick WL.ds_law_pick) : Own P w K mg base "_law_pick" s_law_pick ["pot", "some"] 2 2 WL.ph_law_pick := by
  obtain ⟨f, fd, F, hf⟩ := hm
  exact ⟨f, fd, F, okD F sc_law_pick rfl (fun cdv A outer s H E hr => (pds_one (pd_ret (pd_ix (pd_var 1) (pd_call o_law_draw (hr.mono (by decide)) (fun _ _ _ _ _ _ us hl => match us, hl with | [_, _], _ => rfl) (pda_cons (pd_var 0) (pda_cons (pd_len  (pda_cons (pd_var 1) pda_nil) z_len) pda_nil))))))) hp, hf⟩
theorem ow_law_common (hm : ∃ f fd, Fun K "_law_common" "_law_common" s_law_common f fd ∧ mg "_law_common" = some (.ref f)) (z_abs : mg "abs" = none)  (hp : Pure ["one", "other"] 2 K11.ph_law_common K11.ds_law_common) : Own P w K mg base "_law_common" s_law_common ["one", "other"] 1 2 K11.ph_law_common := by
  obtain ⟨f, fd, F, hf⟩ := hm
  exact ⟨f, fd, F, okD F sc_law_common rfl (fun cdv A outer s H E hr => (pds_cons (pd_while PassesOwn.never (pdt_cmp (op_neV hr.u64) lr_ne (pd_var 1) pd_int (nomark _)) (pds_one (pd_par (i := 0) (j := 1) rfl sc_law_common.nd (pda_cons (pd_var 1) (pda_cons (pd_sub (pd_var 0) (pd_mul (pd_dv (pd_var 0) (pd_var 1)) (pd_var 1))) pda_nil)))))
    (pds_one (pd_ret (pd_abs  (pda_cons (pd_var 0) pda_nil) z_abs))))) hp, hf⟩
theorem ow_law_ratio (hm : ∃ f fd, Fun K "_law_ratio" "_law_ratio" s_law_ratio f fd ∧ mg "_law_ratio" = some (.ref f))  (o_law_common : Own P w K mg base "_law_common" s_law_common ["one", "other"] 1 2 K11.ph_law_common) (hp : Pure ["number", "under", "common"] 2 ph_law_ratio ds_law_ratio) : Own P w K mg base "_law_ratio" s_law_ratio ["number", "under"] 2 2 ph_law_ratio := by
  obtain ⟨f, fd, F, hf⟩ := hm
  exact ⟨f, fd, F, okD F sc_law_ratio rfl (fun cdv A outer s H E hr => (pds_cons (pd_set (i := 2) sc_law_ratio.nd (pd_call o_law_common (hr.mono (by decide)) (fun _ _ _ _ _ _ us hl => match us, hl with | [_, _], _ => rfl) (pda_cons (pd_var 0) (pda_cons (pd_var 1) pda_nil))))
    (pds_cons (pd_if (pdt_cmp (op_ltW hr.u128) lr_ordW (pd_var 1) pd_int (nomark _)) (pds_one (pd_set (i := 2) sc_law_ratio.nd (pd_neg (pd_var 2)))) pds_nil)
    (pds_one (pd_ret (pd_tup (pda_cons (pd_dv (pd_var 0) (pd_var 2)) (pda_cons (pd_dv (pd_var 1) (pd_var 2)) pda_nil)))))))) hp, hf⟩
theorem ow_law_text (hm : ∃ f fd, Fun K "_law_text" "_law_text" s_law_text f fd ∧ mg "_law_text" = some (.ref f)) (z_str : mg "str" = none)  (hp : Pure ["ratio"] 1 ph_law_text ds_law_text) : Own P w K mg base "_law_text" s_law_text ["ratio"] 1 1 ph_law_text := by
  obtain ⟨f, fd, F, hf⟩ := hm
  exact ⟨f, fd, F, okD F sc_law_text rfl (fun cdv A outer s H E hr => (pds_one (pd_ret (pd_ifExp (pdt_cmp (op_eqV hr.u64) lr_eq (pd_ix (pd_var 0) pd_int) pd_int (nomark _)) (pd_strI  (pda_cons (pd_ix (pd_var 0) pd_int) pda_nil) z_str) (pd_add (pd_add (pd_strI  (pda_cons (pd_ix (pd_var 0) pd_int) pda_nil) z_str) pd_str) (pd_strI  (pda_cons (pd_ix (pd_var 0) pd_int) pda_nil) z_str)))))) hp, hf⟩
theorem ow_law_digits (hm : ∃ f fd, Fun K "_law_digits" "_law_digits" s_law_digits f fd ∧ mg "_law_digits" = some (.ref f)) (z_len : mg "len" = none)  (hp : Pure ["text", "begin", "is_nought_let", "end"] 3 ph_law_digits ds_law_digits) : Own P w K mg base "_law_digits" s_law_digits ["text", "begin", "is_nought_let"] 1 3 ph_law_digits := by
  obtain ⟨f, fd, F, hf⟩ := hm
  exact ⟨f, fd, F, okD F sc_law_digits rfl (fun cdv A outer s H E hr => (pds_cons (pd_if (PDW.pdt (pdw_and (pdt_cmp (op_eqV hr.u64) lr_eq (pd_sl (pd_var 0) (pdo_some (pd_var 1)) (pdo_some (pd_add (pd_var 1) pd_int))) pd_str (nomark _)) (pdw_and1 (pdt_tru (pd_var 2))))) (pds_one (pd_ret (pd_add (pd_var 1) pd_int))) pds_nil)
    (pds_cons (pd_set (i := 3) sc_law_digits.nd (pd_var 1))
    (pds_cons (pd_while PassesOwn.never (PDW.pdt (pdw_and (pdt_cmp (op_ltW hr.u128) lr_ordW (pd_var 3) (pd_len  (pda_cons (pd_var 0) pda_nil) z_len) (nomark _)) (pdw_and (pdt_cmp (op_inAll hr.u128) lr_in (pd_ix (pd_var 0) (pd_var 3)) pd_str rfl) (pdw_and1 (PDW.pdt (pdw_or (pdt_cmp (op_gtW hr.u128) lr_ordW (pd_var 3) (pd_var 1) (nomark _)) (pdw_or1 (pdt_cmp (op_neV hr.u64) lr_ne (pd_ix (pd_var 0) (pd_var 3)) pd_str (nomark _))))))))) (pds_one (pd_set (i := 3) sc_law_digits.nd (pd_add (pd_var 3) pd_int))))
    (pds_one (pd_ret (pd_var 3))))))) hp, hf⟩
theorem ow_law_read (hm : ∃ f fd, Fun K "_law_read" "_law_read" s_law_read f fd ∧ mg "_law_read" = some (.ref f)) (z_int : mg "int" = none) (z_len : mg "len" = none) (o_law_ratio : Own P w K mg base "_law_ratio" s_law_ratio ["number", "under"] 2 2 ph_law_ratio) (o_law_digits : Own P w K mg base "_law_digits" s_law_digits ["text", "begin", "is_nought_let"] 1 3 ph_law_digits) (hp : Pure ["text", "begin", "end", "number", "last"] 1 ph_law_read ds_law_read) : Own P w K mg base "_law_read" s_law_read ["text"] 3 1 ph_law_read := by
  obtain ⟨f, fd, F, hf⟩ := hm
  exact ⟨f, fd, F, okD F sc_law_read rfl (fun cdv A outer s H E hr => (pds_cons (pd_set (i := 1) sc_law_read.nd (pd_ifExp (pdt_cmp (op_eqV hr.u64) lr_eq (pd_sl (pd_var 0) pdo_none (pdo_some pd_int)) pd_str (nomark _)) pd_int pd_int))
    (pds_cons (pd_set (i := 2) sc_law_read.nd (pd_call o_law_digits (hr.mono (by decide)) (fun _ _ _ _ _ _ us hl => match us, hl with | [_, _, _], _ => rfl) (pda_cons (pd_var 0) (pda_cons (pd_var 1) (pda_cons pd_bl pda_nil)))))
    (pds_cons (pd_if (pdt_cmp (op_eqV hr.u64) lr_eq (pd_var 2) (pd_var 1) (nomark _)) (pds_one (pd_ret (pd_tup (pda_cons (pd_var 1) (pda_cons pd_non pda_nil))))) pds_nil)
    (pds_cons (pd_set (i := 3) sc_law_read.nd (pd_ifExp (pdt_cmp (op_eqV hr.u64) lr_eq (pd_var 1) pd_int (nomark _)) (pd_intc  (pda_cons (pd_sl (pd_var 0) (pdo_some (pd_var 1)) (pdo_some (pd_var 2))) pda_nil) z_int) (pd_neg (pd_intc  (pda_cons (pd_sl (pd_var 0) (pdo_some (pd_var 1)) (pdo_some (pd_var 2))) pda_nil) z_int))))
    (pds_cons (pd_if (pdt_cmp (op_eqV hr.u64) lr_eq (pd_var 2) (pd_len  (pda_cons (pd_var 0) pda_nil) z_len) (nomark _)) (pds_one (pd_ret (pd_tup (pda_cons pd_non (pda_cons (pd_tup (pda_cons (pd_var 3) (pda_cons pd_int pda_nil))) pda_nil))))) pds_nil)
    (pds_cons (pd_if (pdt_cmp (op_neV hr.u64) lr_ne (pd_ix (pd_var 0) (pd_var 2)) pd_str (nomark _)) (pds_one (pd_ret (pd_tup (pda_cons (pd_var 2) (pda_cons pd_non pda_nil))))) pds_nil)
    (pds_cons (pd_set (i := 4) sc_law_read.nd (pd_call o_law_digits (hr.mono (by decide)) (fun _ _ _ _ _ _ us hl => match us, hl with | [_, _, _], _ => rfl) (pda_cons (pd_var 0) (pda_cons (pd_add (pd_var 2) pd_int) (pda_cons pd_bl pda_nil)))))
    (pds_cons (pd_if (PDW.pdt (pdw_or (pdt_cmp (op_eqV hr.u64) lr_eq (pd_var 4) (pd_add (pd_var 2) pd_int) (nomark _)) (pdw_or1 (pdt_cmp (op_ltW hr.u128) lr_ordW (pd_var 4) (pd_len  (pda_cons (pd_var 0) pda_nil) z_len) (nomark _))))) (pds_one (pd_ret (pd_tup (pda_cons (pd_var 4) (pda_cons pd_non pda_nil))))) pds_nil)
    (pds_one (pd_ret (pd_tup (pda_cons pd_non (pda_cons (pd_call o_law_ratio (hr.mono (by decide)) (fun _ _ _ _ _ _ us hl => match us, hl with | [_, _], _ => rfl) (pda_cons (pd_var 3) (pda_cons (pd_intc  (pda_cons (pd_sl (pd_var 0) (pdo_some (pd_add (pd_var 2) pd_int)) pdo_none) pda_nil) z_int) pda_nil))) pda_nil)))))))))))))) hp, hf⟩
theorem ow_law_bent (hm : ∃ f fd, Fun K "_law_bent" "_law_bent" s_law_bent f fd ∧ mg "_law_bent" = some (.ref f)) (z_len : mg "len" = none) (o_law_draw : Own P w K mg base "_law_draw" s_law_draw ["pot", "size"] 1 2 WL.ph_law_draw) (o_law_pick : Own P w K mg base "_law_pick" s_law_pick ["pot", "some"] 2 2 WL.ph_law_pick) (hp : Pure ["pot", "text", "at", "way", "sign"] 2 ph_law_bent ds_law_bent) : Own P w K mg base "_law_bent" s_law_bent ["pot", "text"] 3 2 ph_law_bent := by
  obtain ⟨f, fd, F, hf⟩ := hm
  exact ⟨f, fd, F, okD F sc_law_bent rfl (fun cdv A outer s H E hr => (pds_cons (pd_par (i := 2) (j := 3) rfl sc_law_bent.nd (pda_cons (pd_md (pd_call o_law_draw (hr.mono (by decide)) (fun _ _ _ _ _ _ us hl => match us, hl with | [_, _], _ => rfl) (pda_cons (pd_var 0) (pda_cons pd_int pda_nil))) (pd_add (pd_len  (pda_cons (pd_var 1) pda_nil) z_len) pd_int)) (pda_cons (pd_call o_law_draw (hr.mono (by decide)) (fun _ _ _ _ _ _ us hl => match us, hl with | [_, _], _ => rfl) (pda_cons (pd_var 0) (pda_cons pd_int pda_nil))) pda_nil)))
    (pds_cons (pd_set (i := 4) sc_law_bent.nd (pd_call o_law_pick (hr.mono (by decide)) (fun _ _ _ _ _ _ us hl => match us, hl with | [_, _], _ => rfl) (pda_cons (pd_var 0) (pda_cons (pd_lst (pda_cons pd_str (pda_cons pd_str (pda_cons pd_str (pda_cons pd_str (pda_cons pd_str (pda_cons pd_str (pda_cons pd_str (pda_cons pd_str (pda_cons pd_str (pda_cons pd_str pda_nil))))))))))) pda_nil))))
    (pds_cons (pd_if (pdt_cmp (op_eqV hr.u64) lr_eq (pd_var 3) pd_int (nomark _)) (pds_one (pd_ret (pd_add (pd_sl (pd_var 1) pdo_none (pdo_some (pd_var 2))) (pd_sl (pd_var 1) (pdo_some (pd_add (pd_var 2) pd_int)) pdo_none)))) pds_nil)
    (pds_cons (pd_if (pdt_cmp (op_eqV hr.u64) lr_eq (pd_var 3) pd_int (nomark _)) (pds_one (pd_ret (pd_add (pd_add (pd_sl (pd_var 1) pdo_none (pdo_some (pd_var 2))) (pd_var 4)) (pd_sl (pd_var 1) (pdo_some (pd_var 2)) pdo_none)))) pds_nil)
    (pds_one (pd_ret (pd_ifExp (pdt_cmp (op_eqV hr.u64) lr_eq (pd_var 3) pd_int (nomark _)) (pd_sl (pd_var 1) pdo_none (pdo_some (pd_var 2))) (pd_add (pd_add (pd_sl (pd_var 1) pdo_none (pdo_some (pd_var 2))) (pd_var 4)) (pd_sl (pd_var 1) (pdo_some (pd_add (pd_var 2) pd_int)) pdo_none)))))))))) hp, hf⟩
theorem ow_law_right (hm : ∃ f fd, Fun K "_law_right" "_law_right" s_law_right f fd ∧ mg "_law_right" = some (.ref f))  (o_law_read : Own P w K mg base "_law_read" s_law_read ["text"] 3 1 ph_law_read) (o_law_heard : Own P w K mg base "_law_heard" s_law_heard ["text"] 5 1 ph_law_heard) (hp : Pure ["text", "place", "due"] 1 ph_law_right ds_law_right) : Own P w K mg base "_law_right" s_law_right ["text"] 6 1 ph_law_right := by
  obtain ⟨f, fd, F, hf⟩ := hm
  exact ⟨f, fd, F, okD F sc_law_right rfl (fun cdv A outer s H E hr => (pds_cons (pd_asgG (pd_call o_law_read (hr.mono (by decide)) (fun _ _ _ _ _ _ us hl => match us, hl with | [_], _ => rfl) (pda_cons (pd_var 0) pda_nil)) (pdg_tup rfl (pdgs_cons (pdg_name (i := 1) sc_law_right.nd) (pdgs_cons (pdg_name (i := 2) sc_law_right.nd) pdgs_nil))))
    (pds_one (pd_ret (pd_cmp (op_eqV hr.u64) lr_eq (pd_call o_law_heard (hr.mono (by decide)) (fun _ _ _ _ _ _ us hl => match us, hl with | [_], _ => rfl) (pda_cons (pd_var 0) pda_nil)) (pd_ifExp (pdt_cmp op_isV lr_is (pd_var 1) pd_non (nomark _)) (pd_var 2) (pd_lst (pda_cons pd_str (pda_cons (pd_var 1) (pda_cons pd_bl pda_nil))))) (nomark _)))))) hp, hf⟩
theorem fn_law {f : Addr} {fd : FuncData} (F : Fun K "law" "law" s_law f fd) (z_range : mg "range" = none) (z_str : mg "str" = none) (o_ratio_text : Own P w K mg base "ratio_text" s_ratio_text ["ratio"] 4 1 K11.ph_ratio_text) (o_parse_ratio : Own P w K mg base "parse_ratio" s_parse_ratio ["text"] 2 1 K11.ph_parse_ratio) (o_law_pot : Own P w K mg base "_law_pot" s_law_pot ["script", "k"] 1 2 WL.ph_law_pot) (o_law_draw : Own P w K mg base "_law_draw" s_law_draw ["pot", "size"] 1 2 WL.ph_law_draw) (o_law_pick : Own P w K mg base "_law_pick" s_law_pick ["pot", "some"] 2 2 WL.ph_law_pick) (o_law_ratio : Own P w K mg base "_law_ratio" s_law_ratio ["number", "under"] 2 2 ph_law_ratio) (o_law_text : Own P w K mg base "_law_text" s_law_text ["ratio"] 1 1 ph_law_text) (o_law_bent : Own P w K mg base "_law_bent" s_law_bent ["pot", "text"] 3 2 ph_law_bent) (o_law_right : Own P w K mg base "_law_right" s_law_right ["text"] 6 1 ph_law_right) (hp : Pure ["script", "pot", "told", "text", "turn", "number", "under", "ratio", "bent"] 1 ph_law ds_law) : FnG P w K mg base CX0 7 f fd ["script"] (SpD K 1 ph_law) :=
  okD F sc_law rfl (fun cdv A outer s H E hr => (pds_cons (pd_set (i := 1) sc_law.nd (pd_call o_law_pot (hr.mono (by decide)) (fun _ _ _ _ _ _ us hl => match us, hl with | [_, _], _ => rfl) (pda_cons (pd_var 0) (pda_cons pd_int pda_nil))))
    (pds_cons (pd_set (i := 2) sc_law.nd (pd_lst (pda_cons pd_str (pda_cons pd_str (pda_cons pd_str (pda_cons pd_str (pda_cons pd_str (pda_cons pd_str (pda_cons pd_str (pda_cons pd_str (pda_cons pd_str (pda_cons pd_str (pda_cons pd_str (pda_cons pd_str (pda_cons pd_str (pda_cons pd_str (pda_cons pd_str (pda_cons pd_str (pda_cons pd_str (pda_cons pd_str (pda_cons pd_str pda_nil)))))))))))))))))))))
    (pds_cons (pd_for PassesOwn.never rfl (pdi_seq (pd_add (pd_var 2) (pd_lst (pda_cons pd_str (pda_cons pd_str (pda_cons pd_str (pda_cons pd_str (pda_cons pd_str (pda_cons pd_str (pda_cons pd_str (pda_cons (pd_mulS pd_str pd_int) (pda_cons pd_str pda_nil)))))))))))) (pdg_name (i := 3) sc_law.nd) (pds_one (pd_if (pdt_not (pdt_tru (pd_call o_law_right (hr.mono (by decide)) (fun _ _ _ _ _ _ us hl => match us, hl with | [_], _ => rfl) (pda_cons (pd_var 3) pda_nil)))) (pds_one (pd_ret pd_bl)) pds_nil)))
    (pds_cons (pd_for PassesOwn.never rfl (pdi_range1 (pda_cons pd_int pda_nil) z_range) (pdg_name (i := 4) sc_law.nd) (pds_cons (pd_par (i := 5) (j := 6) rfl sc_law.nd (pda_cons (pd_mul (pd_sub (pd_call o_law_draw (hr.mono (by decide)) (fun _ _ _ _ _ _ us hl => match us, hl with | [_, _], _ => rfl) (pda_cons (pd_var 1) (pda_cons pd_int pda_nil))) pd_int) (pd_call o_law_pick (hr.mono (by decide)) (fun _ _ _ _ _ _ us hl => match us, hl with | [_, _], _ => rfl) (pda_cons (pd_var 1) (pda_cons (pd_lst (pda_cons pd_int (pda_cons pd_int (pda_cons (pd_pw pd_int pd_int) pda_nil)))) pda_nil)))) (pda_cons (pd_add pd_int (pd_call o_law_draw (hr.mono (by decide)) (fun _ _ _ _ _ _ us hl => match us, hl with | [_, _], _ => rfl) (pda_cons (pd_var 1) (pda_cons pd_int pda_nil)))) pda_nil)))
    (pds_cons (pd_par (i := 7) (j := 3) rfl sc_law.nd (pda_cons (pd_call o_law_ratio (hr.mono (by decide)) (fun _ _ _ _ _ _ us hl => match us, hl with | [_, _], _ => rfl) (pda_cons (pd_var 5) (pda_cons (pd_var 6) pda_nil))) (pda_cons (pd_add (pd_add (pd_strI  (pda_cons (pd_var 5) pda_nil) z_str) pd_str) (pd_strI  (pda_cons (pd_var 6) pda_nil) z_str)) pda_nil)))
    (pds_cons (pd_if (PDW.pdt (pdw_or (pdt_cmp (op_neV hr.u64) lr_ne (pd_call o_ratio_text (hr.mono (by decide)) (fun _ _ _ _ _ _ us hl => match us, hl with | [_], _ => rfl) (pda_cons (pd_var 7) pda_nil)) (pd_call o_law_text (hr.mono (by decide)) (fun _ _ _ _ _ _ us hl => match us, hl with | [_], _ => rfl) (pda_cons (pd_var 7) pda_nil)) (nomark _)) (pdw_or1 (pdt_cmp (op_neV hr.u64) lr_ne (pd_callK0 (ks := ["text"]) [0] o_parse_ratio (hr.mono (by decide)) (by decide) (fun _ _ _ _ _ _ us ws h1 h2 => match us, ws, h1, h2 with | [], [_], _, _ => rfl) (pdk_cons (pd_callK0 (ks := ["ratio"]) [0] o_ratio_text (hr.mono (by decide)) (by decide) (fun _ _ _ _ _ _ us ws h1 h2 => match us, ws, h1, h2 with | [], [_], _, _ => rfl) (pdk_cons (pd_var 7) pdk_nil)) pdk_nil)) (pd_var 7) (nomark _))))) (pds_one (pd_ret pd_bl)) pds_nil)
    (pds_cons (pd_set (i := 8) sc_law.nd (pd_call o_law_bent (hr.mono (by decide)) (fun _ _ _ _ _ _ us hl => match us, hl with | [_, _], _ => rfl) (pda_cons (pd_var 1) (pda_cons (pd_var 3) pda_nil))))
    (pds_one (pd_if (PDW.pdt (pdw_or (pdt_not (pdt_tru (pd_call o_law_right (hr.mono (by decide)) (fun _ _ _ _ _ _ us hl => match us, hl with | [_], _ => rfl) (pda_cons (pd_var 3) pda_nil)))) (pdw_or (pdt_not (pdt_tru (pd_call o_law_right (hr.mono (by decide)) (fun _ _ _ _ _ _ us hl => match us, hl with | [_], _ => rfl) (pda_cons (pd_var 8) pda_nil)))) (pdw_or1 (pdt_not (pdt_tru (pd_call o_law_right (hr.mono (by decide)) (fun _ _ _ _ _ _ us hl => match us, hl with | [_], _ => rfl) (pda_cons (pd_call o_law_bent (hr.mono (by decide)) (fun _ _ _ _ _ _ us hl => match us, hl with | [_, _], _ => rfl) (pda_cons (pd_var 1) (pda_cons (pd_var 8) pda_nil))) pda_nil)))))))) (pds_one (pd_ret pd_bl)) pds_nil)))))))
    (pds_one (pd_ret pd_bl))))))) hp
end
end K13
namespace K13
open PySem PySem.Spec PyProof.Rows L2 Evl DL
open WL
open K11 (T rat IsR gcdI Dg isDg digE ratL)
theorem digE_ge (l : List Nat) (b : Nat) : b ≤ digE l b := by
  unfold digE
  split <;> omega
theorem digE_le {l : List Nat} {b : Nat} (h : b ≤ l.length) : digE l b ≤ l.length := by
  unfold digE
  split
  · rename_i e
    have := (List.getElem?_eq_some_iff.mp e).1
    omega
  · have := (List.takeWhile_sublist isDg (l := l.drop b)).length_le
    rw [List.length_drop] at this
    omega
theorem take_tw (p : Nat → Bool) : ∀ l : List Nat, l.take (l.takeWhile p).length = l.takeWhile p
  | [] => rfl
  | a :: l => by
    rw [List.takeWhile_cons]
    split
    · rw [List.length_cons, List.take_succ_cons, take_tw p l]
    · rfl
theorem isDg_iff {c : Nat} : isDg c = true ↔ 48 ≤ c ∧ c ≤ 57 := by
  unfold isDg
  rw [Bool.and_eq_true, decide_eq_true_iff, decide_eq_true_iff]
theorem digs {l : List Nat} {b : Nat} : NumText.AllDigits ((l.drop b).take (digE l b - b)) := by
  unfold digE
  split
  · rename_i e
    have hb := (List.getElem?_eq_some_iff.mp e).1
    have e2 := (List.getElem?_eq_some_iff.mp e).2
    rw [show b + 1 - b = 1 by omega, List.drop_eq_getElem_cons hb, e2]
    intro c hc
    simp at hc
    omega
  · rw [Nat.add_sub_cancel_left, take_tw]
    intro c hc
    have h := List.all_takeWhile (p := isDg) (l := l.drop b)
    exact isDg_iff.mp (List.all_eq_true.mp h c hc)
theorem digs_ne {l : List Nat} {b : Nat} (hb : b ≤ l.length) (h : digE l b ≠ b) : (l.drop b).take (digE l b - b) ≠ [] := by
  have h1 := digE_ge l b
  have h2 := digE_le hb
  intro z
  have := congrArg List.length z
  rw [List.length_take, List.length_drop, List.length_nil] at this
  omega
theorem foldl_lt : ∀ (cs : List Nat) (a : Nat), (∀ c ∈ cs, 48 ≤ c ∧ c ≤ 57) → cs.foldl (fun acc c => acc * 10 + (c - 48)) a < (a + 1) * 10 ^ cs.length
  | [], a, _ => by simp
  | c :: r, a, h => by
    have hc := h c (List.mem_cons_self ..)
    have ih := foldl_lt r (a * 10 + (c - 48)) fun x hx => h x (List.mem_cons_of_mem _ hx)
    rw [List.foldl_cons, List.length_cons, Nat.pow_succ]
    refine Nat.lt_of_lt_of_le ih ?_
    have : a * 10 + (c - 48) + 1 ≤ (a + 1) * 10 := by omega
    calc (a * 10 + (c - 48) + 1) * 10 ^ r.length ≤ ((a + 1) * 10) * 10 ^ r.length := Nat.mul_le_mul_right _ this
      _ = (a + 1) * (10 ^ r.length * 10) := by rw [Nat.mul_assoc, Nat.mul_comm 10]
theorem big : (10 : Nat) ^ 600 < 2 ^ 8000 := by decide +kernel
theorem dv_sm {l : List Nat} (h : NumText.AllDigits l) (hl : l.length ≤ 600) : Sm 8000 (dv l) := by
  have := foldl_lt l 0 h
  rw [Nat.zero_add, Nat.one_mul] at this
  have h2 : (10 : Nat) ^ l.length ≤ 10 ^ 600 := Nat.pow_le_pow_right (by decide) hl
  unfold Sm dv
  rw [Int.natAbs_natCast]
  exact Nat.lt_trans (Nat.lt_of_lt_of_le this h2) big
theorem dv_pos {l : List Nat} {b : Nat} (hb : b ≤ l.length) (h0 : l[b]? ≠ some 48) (h : digE l b ≠ b) : 1 ≤ dv ((l.drop b).take (digE l b - b)) := by
  have hne := digs_ne hb h
  have hd := digs (l := l) (b := b)
  have hlt : b < l.length := by
    have := digE_ge l b
    have := digE_le hb
    omega
  cases e : (l.drop b).take (digE l b - b) with
  | nil => exact absurd e hne
  | cons c r =>
    rw [e] at hd
    have hc := hd c (List.mem_cons_self ..)
    have e2 : l.drop b = l[b] :: l.drop (b + 1) := List.drop_eq_getElem_cons hlt
    have e3 : c = l[b] := by
      have := digE_ge l b
      rw [e2, show digE l b - b = (digE l b - b - 1) + 1 by omega, List.take_succ_cons] at e
      exact (List.cons.inj e).1.symm
    have : c ≠ 48 := fun z => h0 (by rw [List.getElem?_eq_getElem hlt, ← e3, z])
    have p := NumText.digitsVal_pos (c := c) (cs := r) (by omega)
    unfold dv
    omega
theorem digL_t (l : List Nat) (b : Nat) : digL l b true = digE l b := rfl
theorem digL_f (l : List Nat) (b : Nat) : digL l b false = if l[b]? = some 48 then b else digE l b := by
  unfold digL digE
  split <;> rfl
theorem beg_le {l : List Nat} : begL l ≤ l.length := by
  unfold begL
  split
  · rename_i e
    have := (List.getElem?_eq_some_iff.mp e).1
    omega
  · omega
theorem int_dv {l : List Nat} (h : NumText.AllDigits l) (hne : l ≠ []) (hl : l.length ≤ 640) : intText? (T l) = some (dv l) :=
  intText_digits (x := T l) h hne (by rw [K11.len_T]; omega)
theorem int_ndv {l : List Nat} (h : NumText.AllDigits l) (hne : l ≠ []) (hl : l.length ≤ 640) : intText? (T (45 :: l)) = some (-dv l) :=
  intText_neg (x := T (45 :: l)) (cs := l) rfl h hne (by rw [K11.len_T, List.length_cons]; omega)
theorem sv_text {l : List Nat} {e : Nat} (he : e = digE l (begL l)) (hne : e ≠ begL l) (hl : l.length ≤ 600) : intText? (T (l.take e)) = some (sv l e) := by
  have hd := digs (l := l) (b := begL l)
  have h2 := digs_ne beg_le (he ▸ hne)
  rw [← he] at hd h2
  unfold sv
  unfold begL at hd h2 he
  by_cases c : l[0]? = some 45
  · rw [if_pos c] at hd h2 ⊢
    have e1 : l.take e = 45 :: (l.drop 1).take (e - 1) := by
      cases l with
      | nil => cases c
      | cons x r =>
        cases c
        have : e ≠ 0 := by
          have := digE_ge (45 :: r) 1
          rw [he]
          simp
          omega
        obtain ⟨m, rfl⟩ := Nat.exists_eq_succ_of_ne_zero this
        rfl
    rw [e1]
    exact int_ndv hd h2 (by rw [List.length_take, List.length_drop]; omega)
  · rw [if_neg c] at hd h2 ⊢
    rw [List.drop_zero, Nat.sub_zero] at hd h2
    exact int_dv hd h2 (by rw [List.length_take]; omega)
theorem sv_sm {l : List Nat} {e : Nat} (he : e = digE l (begL l)) (hl : l.length ≤ 600) : Sm 8000 (sv l e) := by
  have hd := digs (l := l) (b := begL l)
  rw [← he] at hd
  unfold sv
  unfold begL at hd
  by_cases c : l[0]? = some 45
  · rw [if_pos c] at hd ⊢
    have := dv_sm hd (by rw [List.length_take, List.length_drop]; omega)
    unfold Sm at this ⊢
    rw [Int.natAbs_neg]
    exact this
  · rw [if_neg c] at hd ⊢
    rw [List.drop_zero, Nat.sub_zero] at hd
    exact dv_sm hd (by rw [List.length_take]; omega)
theorem gcd_pos {n u : Int} (h : 1 ≤ u) : 1 ≤ gcdI n u := by
  have : 0 < Nat.gcd n.natAbs u.natAbs := Nat.gcd_pos_of_pos_right _ (by omega)
  unfold gcdI
  omega
theorem gcd_sm {n u : Int} (h : 1 ≤ u) (hs : Sm 8000 u) : Sm 8000 (gcdI n u) := by
  have h1 : Nat.gcd n.natAbs u.natAbs ≤ u.natAbs := Nat.le_of_dvd (by omega) (Nat.gcd_dvd_right ..)
  unfold Sm gcdI
  rw [Int.natAbs_natCast]
  exact Nat.lt_of_le_of_lt h1 hs
theorem cdv_of {i j : Int} (h : 1 ≤ j) (hs : Sm 8000 j) : CDv i j := hs.cdv (by decide) (by omega)
end K13
namespace K11
open PySem PySem.Spec PyProof.Rows L2 Evl DL
open WL
open TL (numL tl tl_num numL_digits numL_lt numL_step numL_ne numL_val tl_append ext_tl len_tl int_num numL_len)
section
variable {μ ν : Mu} {Q : DQ} {n u i j : Int} {l : List Nat} {z y : Str}
theorem sub1 (l : List Nat) (c b : Nat) : (decide (b + (T [c]).length ≤ (T l).length) && (((T l).cps.toList.drop b).take (T [c]).length == (T [c]).cps.toList)) = decide (l[b]? = some c) := by
  rw [len_T, len_T, cps_T, cps_T]
  show (decide (b + 1 ≤ l.length) && ((l.drop b).take 1 == [c])) = _
  rw [← List.head?_drop]
  cases h : l.drop b with
  | nil =>
    have := List.drop_eq_nil_iff.mp h
    rw [decide_eq_false (by omega)]
    rfl
  | cons x r =>
    have hb : b < l.length := by
      refine Nat.lt_of_not_le fun z => ?_
      rw [List.drop_eq_nil_iff.mpr z] at h
      cases h
    rw [decide_eq_true (show b + 1 ≤ l.length from hb)]
    show (x == c && true) = decide (some x = some c)
    rw [Bool.and_true, Bool.beq_eq_decide_eq]
    simp
theorem w_leS : wLe (.dat (.str y)) (.dat (.str z)) μ Q = Q (.dat (.bool (!decide (z.cps.toList < y.cps.toList)))) μ := rfl
theorem o_lenS (h : l.length ≤ 1000) : fLen [.dat (.str (T l))] μ Q = Q (.dat (.int (l.length : Nat))) μ := by
  show ((T l).length ≤ sizeLine ∧ Q (.dat (.int ((T l).length : Nat))) μ) = _
  rw [len_T]
  exact propext ⟨fun z => z.2, fun z => ⟨Nat.le_trans h (by decide), z⟩⟩
theorem o_ixS {b c : Nat} (h : l.length ≤ 1000) (e : l[b]? = some c) : DL.rIx (.dat (.str (T l))) (.dat (.int (b : Int))) μ Q = Q (.dat (.str (T [c]))) μ := by
  have a := atI_nat (xs := l) (j := b) e
  show ((T l).length ≤ sizeLine ∧ ∃ c', atI (T l).cps.toList (b : Int) = some c' ∧ Q (.dat (.str ⟨#[c']⟩)) μ) = _
  rw [len_T, cps_T, a]
  exact propext ⟨fun ⟨_, c', e, q⟩ => by cases e; exact q, fun q => ⟨Nat.le_trans h (by decide), c, rfl, q⟩⟩
theorem o_sw3 {b c : Nat} (hb : b ≤ l.length) : mSw3 (.dat (.str (T l))) [.dat (.str (T [c])), .dat (.int (b : Int))] μ Q = Q (.dat (.bool (decide (l[b]? = some c)))) μ := by
  show Q (.dat (.bool (Txt.startswith3 (T l) (T [c]) (b : Int)))) μ = _
  have e : Txt.startswith3 (T l) (T [c]) (b : Int) = decide (l[b]? = some c) := by
    unfold Txt.startswith3
    have f : fromIndex (T l).length (b : Int) = b := by
      unfold fromIndex
      rw [len_T]
      omega
    rw [f, StrLaws.subAt_eq]
    exact sub1 l c b
  rw [e]
theorem o_sw {c : Nat} : mSw (.dat (.str (T l))) [.dat (.str (T [c]))] μ Q = Q (.dat (.bool (decide (l[0]? = some c)))) μ := by
  show Q (.dat (.bool (Txt.startswith (T l) (T [c])))) μ = _
  have e : Txt.startswith (T l) (T [c]) = decide (l[0]? = some c) := by
    unfold Txt.startswith
    rw [StrLaws.subAt_eq]
    exact sub1 l c 0
  rw [e]
theorem dig_of (c : Nat) : (!decide ((T [c]).cps.toList < (T [48]).cps.toList) && !decide ((T [57]).cps.toList < (T [c]).cps.toList)) = isDg c := by
  show (!decide ([c] < [48]) && !decide ([57] < [c])) = (decide (48 ≤ c) && decide (c ≤ 57))
  have h1 : ([c] < [48]) ↔ c < 48 := by simp [List.cons_lt_cons_iff]
  have h2 : ([57] < [c]) ↔ 57 < c := by simp [List.cons_lt_cons_iff]
  by_cases a : c < 48
  · rw [decide_eq_true (h1.mpr a), decide_eq_false (show ¬ 48 ≤ c by omega)]
    rfl
  · rw [decide_eq_false (fun z => a (h1.mp z)), decide_eq_true (show 48 ≤ c by omega)]
    by_cases b : 57 < c
    · rw [decide_eq_true (h2.mpr b), decide_eq_false (show ¬ c ≤ 57 by omega)]
      rfl
    · rw [decide_eq_false (fun z => b (h2.mp z)), decide_eq_true (show c ≤ 57 by omega)]
      rfl
theorem dig_chain {c : Nat} {R : Bool → Mu → Prop} {ρ : Rho} {d : DE} (hd : ∀ R : DQ, d ρ μ R = R (.dat (.str (T [c]))) μ) : dTest (dChain wLe wLe (dC (.str (PySem.Str.ofString "0"))) d (dC (.str (PySem.Str.ofString "9")))) ρ μ R = R (isDg c) μ := by
  have h0 : PySem.Str.ofString "0" = T [48] := rfl
  have h9 : PySem.Str.ofString "9" = T [57] := rfl
  rw [← dig_of c, h0, h9]
  simp only [e_dTest, dChain, e_dC, hd, w_leS]
  cases decide ((T [c]).cps.toList < (T [48]).cps.toList) <;> simp
@[simp ↓ high] theorem dig_at {b : Nat} {R : Bool → Mu → Prop} {s1 : Option Sl} (hl : l.length ≤ 1000) (hb : b < l.length) : dTest (dChain wLe wLe (dC (.str (PySem.Str.ofString "0"))) (dOp DL.rIx (dVar 0) (dVar 2)) (dC (.str (PySem.Str.ofString "9")))) [some (.dat (.str (T l))), s1, some (.dat (.int (b : Int)))] μ R = R (isDg (l.getD b 0)) μ := by
  have hc : l[b]? = some (l.getD b 0) := by
    rw [List.getD_eq_getElem?_getD, List.getElem?_eq_getElem hb]
    rfl
  exact dig_chain fun R => by
    simp only [e_dOp, e_dVar, List.getElem?_cons_zero, List.getElem?_cons_succ]
    exact o_ixS hl hc
theorem digits_loop {D : DEnds} {s1 : Option Sl} (hl : l.length ≤ 1000) (k : D.nx [some (.dat (.str (T l))), s1, some (.dat (.int ((i.toNat + ((l.drop i.toNat).takeWhile isDg).length : Nat) : Int)))] μ) (h0 : 0 ≤ i) :
    ∀ (m b : Nat), l.length - b < m → i.toNat ≤ b → b ≤ l.length → i.toNat + ((l.drop i.toNat).takeWhile isDg).length = b + ((l.drop b).takeWhile isDg).length →
    whileD (dAnd (dTest (dOp wLt (dVar 2) (dCB fLen (aCons (dVar 0) aNil)))) (dTest (dChain wLe wLe (dC (.str (PySem.Str.ofString "0"))) (dOp DL.rIx (dVar 0) (dVar 2)) (dC (.str (PySem.Str.ofString "9"))))))
      (dAug 2 rIadd (dC (.int 1))) D m [some (.dat (.str (T l))), s1, some (.dat (.int (b : Int)))] μ
  | 0, b, h, _, _, _ => absurd h (Nat.not_lt_zero _)
  | m + 1, b, h, hi, hb, e => by
    have L : ∀ (Q : DQ), fLen [.dat (.str (T l))] μ Q = Q (.dat (.int (l.length : Nat))) μ := fun Q => o_lenS hl
    by_cases c : b < l.length
    · have gd : l.getD b 0 = l[b] := by
        rw [List.getD_eq_getElem?_getD, List.getElem?_eq_getElem c]
        rfl
      rw [List.drop_eq_getElem_cons c, List.takeWhile_cons] at e
      cases g : isDg l[b] with
      | true =>
        rw [g] at e
        have ih := digits_loop hl k h0 m (b + 1) (by omega) (by omega) (by omega) (by rw [e]; simp; omega)
        simp [whileD, ↓L, hl, gd, g, c, dAug, rIadd, -List.getD_eq_getElem?_getD]
        exact ih
      | false =>
        rw [g] at e
        replace e : i.toNat + ((l.drop i.toNat).takeWhile isDg).length = b := e
        rw [e] at k
        simp [whileD, ↓L, hl, gd, g, c, -List.getD_eq_getElem?_getD]
        exact k
    · have : b = l.length := by omega
      subst this
      rw [List.drop_length] at e
      rw [e] at k
      simp [whileD, ↓L]
      exact k
theorem e_dMtS {m : DM} {a : DE} {as : DA} {ρ : Rho} : dMtS m a as ρ μ Q = a ρ μ fun x μ1 => (∃ z, x = .dat (.str z)) ∧ as ρ μ1 fun ss μ2 => m x ss μ2 Q := rfl
theorem pu_check_text : Pure ["text"] 1 ph_check_text ds_check_text := by
  intro ss μ Q' hl h
  obtain ⟨z, rfl, h⟩ := h
  simpa [ds_check_text, startD, isTy] using h
theorem pu_digits_end : Pure ["text", "begin", "end"] 2 ph_digits_end ds_digits_end := by
  intro ss μ Q' hl h
  obtain ⟨l, b, rfl, ⟨hb, hl, hne⟩, h⟩ := h
  have sw : ∀ Q : DQ, mSw3 (.dat (.str (T l))) [.dat (.str (PySem.Str.ofString "0")), .dat (.int (b : Int))] μ Q = Q (.dat (.bool (decide (l[b]? = some 48)))) μ := fun Q => o_sw3 hb
  unfold digE at h hne
  by_cases c : l[b]? = some 48
  · rw [if_pos c] at h
    simp [ds_digits_end, startD, e_dMtS, ↓sw, c]
    simpa using h
  · rw [if_neg c] at h hne
    have E := fun D (k : D.nx _ μ) => digits_loop (D := D) (s1 := some (.dat (.int (b : Int)))) (i := (b : Int)) hl k (by omega) (l.length - b + 1) b (by omega) (by simp) hb (by simp)
    simp [ds_digits_end, startD, e_dMtS, ↓sw, c, dWhile]
    refine ⟨_, E _ ?_⟩
    have hz : ¬ (((b : Int).toNat + ((l.drop (b : Int).toNat).takeWhile isDg).length : Nat) : Int) = (b : Int) := by
      intro z
      rw [Int.toNat_natCast] at z
      exact hne (Int.ofNat.inj z)
    simp [hz]
    refine ⟨by simpa using hz, ?_⟩
    simpa using h
end
end K11
namespace K11
open PySem PySem.Spec PyProof.Rows L2 Evl DL
open WL
open TL (numL tl tl_num numL_digits numL_lt numL_step numL_ne numL_val tl_append ext_tl len_tl int_num numL_len)
section
variable {μ ν : Mu} {Q : DQ} {n u i j : Int} {l : List Nat} {z y : Str} {d : PyData}
theorem rat_inj {a b c d : Int} (h : rat a b = rat c d) : a = c ∧ b = d := by cases h; exact ⟨rfl, rfl⟩
@[simp ↓] theorem c_check_text : ph_check_text [.dat (.str z)] μ Q = Q (.dat .none) μ := propext ⟨fun ⟨_, e, h⟩ => by cases e; exact h, fun h => ⟨_, rfl, h⟩⟩
@[simp ↓] theorem c_is_ratio : ph_is_ratio [.dat d] μ Q = Q (.dat (.bool (ratB d))) μ := propext ⟨fun ⟨_, e, h⟩ => by cases e; exact h, fun h => ⟨_, rfl, h⟩⟩
@[simp ↓] theorem c_check_ratio : ph_check_ratio [.dat (rat n u)] μ Q = (IsR n u ∧ Q (.dat .none) μ) := propext ⟨fun ⟨_, _, e, h⟩ => by
  obtain ⟨rfl, rfl⟩ := rat_inj (dr_inj e).1
  exact h, fun h => ⟨_, _, rfl, h⟩⟩
@[simp ↓] theorem c_reduced : ph_reduced [.dat (.int n), .dat (.int u)] μ Q = (IsR n u ∧ Q (.dat (rat n u)) μ) := propext ⟨fun ⟨_, _, e, h⟩ => by cases e; exact h, fun h => ⟨_, _, rfl, h⟩⟩
@[simp ↓] theorem c_count_text : ph_count_text [.dat (.int n)] μ Q = ((0 ≤ n ∧ Dg n) ∧ Q (.dat (.str (T (numL n.toNat)))) μ) := propext ⟨fun ⟨_, e, h⟩ => by cases e; exact h, fun h => ⟨_, rfl, h⟩⟩
theorem c_digits_end {b : Nat} : ph_digits_end [.dat (.str (T l)), .dat (.int (b : Int))] μ Q = ((b ≤ l.length ∧ l.length ≤ 1000 ∧ digE l b ≠ b) ∧ Q (.dat (.int (digE l b : Nat))) μ) := propext ⟨fun ⟨l', b', e, h⟩ => by
  obtain ⟨e1, e2⟩ := dr_inj e
  have e3 := T_inj (PyData.str.inj e1)
  have e4 := Int.ofNat.inj (PyData.int.inj (dr_inj e2).1)
  subst e3 e4
  exact h, fun h => ⟨_, _, rfl, h⟩⟩
theorem pu_check_ratio : Pure ["value"] 1 ph_check_ratio ds_check_ratio := by
  intro ss μ Q' hl h
  obtain ⟨n, u, rfl, hr, h⟩ := h
  have : ratB (rat n u) = true := decide_eq_true hr
  simpa [ds_check_ratio, startD, this] using h
theorem gcd_one (hr : IsR n u) : gcdI n u = 1 := hr.2
theorem pu_reduced : Pure ["number", "under", "divisor"] 2 ph_reduced ds_reduced := by
  intro ss μ Q' hl h
  obtain ⟨n, u, rfl, hr, h⟩ := h
  have g : ∀ Q : DQ, fGcd [.dat (.int n), .dat (.int u)] μ Q = Q (.dat (.int 1)) μ := fun Q => by
    have e := gcd_one hr
    unfold gcdI at e
    show (_ ∧ Q (.dat (.int ((Nat.gcd n.natAbs u.natAbs : Nat) : Int))) μ) = _
    rw [e]
    exact propext ⟨fun z => z.2, fun z => ⟨trivial, z⟩⟩
  have c : ¬ u < 0 := by have := hr.1; omega
  have c1 : ∀ i, CDv i 1 := fun i => ⟨by decide, by decide⟩
  simp [ds_reduced, startD, ↓g, c, c1]
  simpa [rat] using h
theorem cp60 : CPow 10 60 := by decide
theorem pu_count_text : Pure ["number", "pieces", "low"] 1 ph_count_text ds_count_text := by
  intro ss μ Q' hl h
  obtain ⟨n, rfl, ⟨h0, hd⟩, h⟩ := h
  have hlt : n < 10 ^ 60 := by unfold Dg at hd; omega
  have c : ¬ (1000000000000000000000000000000000000000000000000000000000000 : Int) ≤ n := by omega
  have e : PySem.Str.ofString (toString n) = T (numL n.toNat) := by
    obtain ⟨k, rfl⟩ := Int.eq_ofNat_of_zero_le h0
    exact num_T k
  have lg : n.natAbs.log2 < 1920 := by
    by_cases z : n.natAbs = 0
    · rw [z]; decide
    · have : n.natAbs.log2 < 200 := (Nat.log2_lt z).mpr (Nat.lt_trans hd (by decide))
      omega
  have le : (numL n.toNat).length ≤ 60 := numL_len (by decide) (by unfold Dg at hd; omega)
  have fs : ∀ (ν : Mu) (Q : DQ), fStrI [.dat (.int n)] ν Q = Q (.dat (.str (T (numL n.toNat)))) ν := fun ν Q => by
    show (_ ∧ Q (.dat (.str (PySem.Str.ofString (toString n)))) ν) = _
    rw [e]
    exact propext ⟨fun z => z.2, fun z => ⟨lg, z⟩⟩
  have W : ∀ D ρ, D.nx (some (.dat (.int n)) :: ρ) (μ ++ [.lst []]) → dWhile (dTest (dOp wGe (dVar 0) (dOp DL.rPw (dC (.int 10)) (dC (.int 60))))) (dSeq (dAsgG (dCB fDm (aCons (dVar 0) (aCons (dOp DL.rPw (dC (.int 10)) (dC (.int 60))) aNil))) (gT 2 (gsCons (gN 0) (gsCons (gN 2) gsNil))))
    (dDrop (dMtL mApp (dVar 1) (aCons dNevE aNil)))) D (some (.dat (.int n)) :: ρ) (μ ++ [.lst []]) := fun D ρ k => ⟨1, by
      simp [whileD, cp60, c]
      exact k⟩
  simp [ds_count_text, startD]
  refine W _ _ ?_
  simp [fs, e_dMtS, mApp]
  have j : ∀ (ν : Mu) (Q : DQ), mJoin (.dat (.str (PySem.Str.ofString ""))) [.dat (.list [.str (T (numL n.toNat))])] ν Q = Q (.dat (.str (T (numL n.toNat)))) ν := fun ν Q => by
    show (∃ ys, strsOf [.str (T (numL n.toNat))] = some ys ∧ joinOk _ ys ∧ Q (.dat (.str (Str.join _ ys))) ν) = _
    refine propext ⟨fun ⟨ys, e1, _, q⟩ => ?_, fun q => ⟨[T (numL n.toNat)], rfl, ?_, q⟩⟩
    · cases e1
      exact q
    · show ([T (numL n.toNat)].map (·.length)).sum + 1 * 0 ≤ 16777216
      simp [len_T]
      omega
  have rv : ∀ (Q : DQ), rRevL (.cell μ.length) (μ ++ [Cell.lst [.str (T (numL n.toNat))]]) Q = Q (.dat (.list [.str (T (numL n.toNat))])) (μ ++ [Cell.lst [.str (T (numL n.toNat))]]) := fun Q => by
    simp only [rRevL, e_rdC, List.getElem?_concat_length, e_rdCl]
    rfl
  refine ⟨by decide, ?_⟩
  rw [rv, j]
  simpa using h
theorem e_addS {a b : List Nat} (h : a.length + b.length ≤ 1000) : DL.rAdd (.dat (.str (T a))) (.dat (.str (T b))) μ Q = Q (.dat (.str (T (a ++ b)))) μ := by
  show ((T a).length + (T b).length ≤ sizeLine ∧ Q (.dat (.str (T a ++ T b))) μ) = _
  rw [T_app, len_T, len_T]
  exact propext ⟨fun z => z.2, fun z => ⟨Nat.le_trans h (by decide), z⟩⟩
theorem dg_len {n : Int} (h : Dg n) : (numL n.natAbs).length ≤ 60 := numL_len (by decide) h
theorem pu_ratio_text : Pure ["ratio", "number", "under", "sign", "text"] 1 ph_ratio_text ds_ratio_text := by
  intro ss μ Q' hl h
  obtain ⟨n, u, rfl, ⟨hr, hn, hu⟩, h⟩ := h
  have gt : ∀ (ρ : Rho) (R : Rho → Mu → Prop), gT 2 (gsCons (gN 1) (gsCons (gN 2) gsNil)) (.dat (rat n u)) ρ μ R = R ((ρ.set 1 (some (.dat (.int n)))).set 2 (some (.dat (.int u)))) μ := fun ρ R => by
    unfold rat
    simp
  have l1 := dg_len hn
  have l2 := dg_len hu
  have hu0 := hr.1
  have au : u.natAbs = u.toNat := by omega
  have l3 : (numL u.toNat).length ≤ 60 := au ▸ l2
  have hsl : ∀ s : List Nat, s.length ≤ 1 → Q' (.dat (.str (T (s ++ (numL n.natAbs ++ (if u = 1 then [] else 47 :: numL u.natAbs)))))) μ →
      DL.rAdd (.dat (.str (T s))) (.dat (.str (T (numL n.natAbs)))) μ (fun x μ1 => (if decide (u = 1) = true then finQ μ.length Q' x μ1 else DL.rAdd x (.dat (.str (T [47]))) μ1 fun x μ1 => (0 ≤ u ∧ Dg u) ∧ DL.rAdd x (.dat (.str (T (numL u.toNat)))) μ1 (finQ μ.length Q'))) := fun s hs k => by
    rw [e_addS (by omega)]
    by_cases c : u = 1
    · rw [if_pos c, List.append_nil] at k
      simpa [c] using k
    · rw [if_neg c] at k
      simp only [c, decide_false, Bool.false_eq_true, if_false]
      rw [e_addS (by simp; omega)]
      refine ⟨⟨by omega, hu⟩, ?_⟩
      rw [e_addS (by simp; omega)]
      have : s ++ numL n.natAbs ++ [47] ++ numL u.toNat = s ++ (numL n.natAbs ++ 47 :: numL u.natAbs) := by
        rw [au]
        simp
      rw [this]
      simpa using k
  unfold ratL at h
  have e45 : PySem.Str.ofString "-" = T [45] := rfl
  have e0 : PySem.Str.ofString "" = T [] := rfl
  have e47 : PySem.Str.ofString "/" = T [47] := rfl
  by_cases c : n < 0
  · have e : (-n).toNat = n.natAbs := by omega
    have p : (0 ≤ -n ∧ Dg (-n)) := ⟨by omega, by unfold Dg at hn ⊢; omega⟩
    rw [if_pos c] at h
    have := hsl [45] (by simp) h
    simp [ds_ratio_text, startD, hr, ↓gt, c, p, e, e45, e0, e47]
    refine ⟨by omega, ?_⟩
    simpa using this
  · have e : n.toNat = n.natAbs := by omega
    have p : (0 ≤ n ∧ Dg n) := ⟨by omega, hn⟩
    rw [if_neg c] at h
    have := hsl [] (by simp) h
    simp [ds_ratio_text, startD, hr, ↓gt, c, p, e, e45, e0, e47]
    simpa using this
end
end K11
namespace K11
open PySem PySem.Spec PyProof.Rows L2 Evl DL
open WL
open TL (numL tl tl_num numL_digits numL_lt numL_step numL_ne numL_val tl_append ext_tl len_tl int_num numL_len)
section
variable {μ ν : Mu} {Q : DQ} {n u i j : Int} {l : List Nat} {z y : Str} {d : PyData}
def sgL (n : Int) : List Nat := if n < 0 then [45] else []
theorem int_of_text (h : Dg n) : intText? (T (sgL n ++ numL n.natAbs)) = some n := by
  have hl := dg_len h
  unfold sgL
  by_cases c : n < 0
  · rw [if_pos c]
    have e := intText_neg (x := T ([45] ++ numL n.natAbs)) (cs := numL n.natAbs) rfl (numL_digits _) (numL_ne _) (by rw [len_T]; simp; omega)
    rw [e, numL_val]
    congr 1
    omega
  · rw [if_neg c, List.nil_append]
    have e := intText_digits (x := T (numL n.natAbs)) (numL_digits _) (numL_ne _) (by rw [len_T]; omega)
    rw [e]
    show some (((NumText.digitsVal (numL n.natAbs) : Nat)) : Int) = some n
    rw [numL_val]
    congr 1
    omega
theorem sg_len (n : Int) : (sgL n).length ≤ 1 := by unfold sgL; split <;> simp
theorem fInt_text (h : Dg n) : fInt [.dat (.str (T (sgL n ++ numL n.natAbs)))] μ Q = Q (.dat (.int n)) μ := by
  show (∃ m, intText? (T (sgL n ++ numL n.natAbs)) = some m ∧ (T (sgL n ++ numL n.natAbs)).length ≤ 640 ∧ Q (.dat (.int m)) μ) = _
  rw [int_of_text h]
  have := dg_len h
  have := sg_len n
  exact propext ⟨fun ⟨m, e, _, q⟩ => by cases e; exact q, fun q => ⟨n, rfl, by rw [len_T, List.length_append]; omega, q⟩⟩
theorem sl_to {b : Nat} (hl : l.length ≤ 1000) (hb : b ≤ l.length) : rSl (.dat (.str (T l))) none (some (b : Int)) μ Q = Q (.dat (.str (T (l.take b)))) μ := by
  show ((T l).length ≤ sizeLine ∧ Q (.dat (.str (cutS (T l) none (some (b : Int))))) μ) = _
  have e : cutS (T l) none (some (b : Int)) = T (l.take b) := by
    unfold cutS
    rw [HT.sIx_nat, HT.sIx_none]
    show T ((l.drop 0).take (min b l.length - 0)) = _
    rw [Nat.min_eq_left hb, List.drop_zero, Nat.sub_zero]
  rw [e, len_T]
  exact propext ⟨fun z => z.2, fun z => ⟨Nat.le_trans hl (by decide), z⟩⟩
theorem sl_from {b : Nat} (hl : l.length ≤ 1000) (hb : b ≤ l.length) : rSl (.dat (.str (T l))) (some (b : Int)) none μ Q = Q (.dat (.str (T (l.drop b)))) μ := by
  show ((T l).length ≤ sizeLine ∧ Q (.dat (.str (cutS (T l) (some (b : Int)) none))) μ) = _
  have e : cutS (T l) (some (b : Int)) none = T (l.drop b) := by
    unfold cutS
    rw [HT.sIx_nat, HT.sIx_none]
    show T ((l.drop (min b l.length)).take (l.length - min b l.length)) = _
    rw [Nat.min_eq_left hb, ← List.length_drop, List.take_length]
  rw [e, len_T]
  exact propext ⟨fun z => z.2, fun z => ⟨Nat.le_trans hl (by decide), z⟩⟩
theorem pu_parse_ratio : Pure ["text", "begin", "end", "last"] 1 ph_parse_ratio ds_parse_ratio := by
  intro ss μ Q' hl h
  obtain ⟨n, u, rfl, ⟨hr, hn, hu⟩, h⟩ := h
  have l1 := dg_len hn
  have l2 := dg_len hu
  have l0 := sg_len n
  have hu0 := hr.1
  have p1 : 0 < (numL n.natAbs).length := List.length_pos_iff.mpr (numL_ne _)
  have p2 : 0 < (numL u.natAbs).length := List.length_pos_iff.mpr (numL_ne _)
  generalize er : (if u = 1 then [] else 47 :: numL u.natAbs) = r
  have rl : r.length ≤ 61 := by
    rw [← er]
    split
    · simp
    · simp
      omega
  have el : ratL n u = sgL n ++ (numL n.natAbs ++ r) := by rw [← er]; rfl
  generalize eL : ratL n u = L at *
  have Ll : L.length ≤ 1000 := by rw [el]; simp; omega
  have Ll2 : L.length = (sgL n).length + ((numL n.natAbs).length + r.length) := by rw [el]; simp
  have hr0 : ∀ c, r.head? = some c → isDg c = false := fun c hc => by
    rw [← er] at hc
    split at hc
    · cases hc
    · cases hc
      rfl
  have dE := digE_num (sgL n) r n.natAbs hr0
  rw [← el] at dE
  have sw : ∀ Q : DQ, mSw (.dat (.str (T L))) [.dat (.str (PySem.Str.ofString "-"))] μ Q = Q (.dat (.bool (decide (n < 0)))) μ := fun Q => by
    have e := o_sw (l := L) (c := 45) (μ := μ) (Q := Q)
    have e1 : (decide (L[0]? = some 45)) = decide (n < 0) := by
      rw [el]
      unfold sgL
      by_cases c : n < 0
      · simp [c]
      · rw [if_neg c, List.nil_append, decide_eq_false c]
        refine decide_eq_false fun z => ?_
        rw [← List.head?_eq_getElem?, List.head?_append, List.head?_eq_some_head (numL_ne _)] at z
        have z' : (numL n.natAbs).head (numL_ne _) = 45 := Option.some.inj z
        have := numL_digits n.natAbs _ (List.head_mem (numL_ne _))
        omega
    rw [e1] at e
    exact e
  have bg : (if n < 0 then (1 : Int) else 0) = ((sgL n).length : Nat) := by unfold sgL; split <;> rfl
  have D1 := fun (ν : Mu) (Q : DQ) => c_digits_end (l := L) (b := (sgL n).length) (μ := ν) (Q := Q)
  rw [dE] at D1
  have D1' : ∀ (ν : Mu) (Q : DQ), ph_digits_end [.dat (.str (T L)), .dat (.int ((sgL n).length : Nat))] ν Q = Q (.dat (.int ((sgL n).length + (numL n.natAbs).length : Nat))) ν := fun ν Q => by
    rw [D1]
    exact propext ⟨fun z => z.2, fun z => ⟨⟨by omega, Ll, by omega⟩, z⟩⟩
  have D3 : ∀ (v : Int), v = (if n < 0 then 1 else 0) → ∀ (ν : Mu) (Q : DQ), ph_digits_end [.dat (.str (T L)), .dat (.int v)] ν Q = Q (.dat (.int ((sgL n).length + (numL n.natAbs).length : Nat))) ν := fun v hv ν Q => by
    rw [hv, bg]
    exact D1' ν Q
  have ln : ∀ (ν : Mu) (Q : DQ), fLen [.dat (.str (T L))] ν Q = Q (.dat (.int (L.length : Nat))) ν := fun ν Q => o_lenS Ll
  have ii := fun (ν : Mu) (Q : DQ) => fInt_text (n := n) (μ := ν) (Q := Q) hn
  by_cases c : u = 1
  · subst c
    rw [if_pos rfl] at er
    subst er
    rw [List.append_nil] at el
    have Le : L.length = (sgL n).length + (numL n.natAbs).length := by rw [Ll2]; rfl
    rw [← el] at ii
    by_cases c0 : n < 0
    · have d1 := D3 1 (by rw [if_pos c0])
      simp [ds_parse_ratio, startD, e_dMtS, ↓sw, c0, ↓d1, ↓ln, Le, ↓ii]
      simpa [rat] using h
    · have d1 := D3 0 (by rw [if_neg c0])
      simp [ds_parse_ratio, startD, e_dMtS, ↓sw, c0, ↓d1, ↓ln, Le, ↓ii]
      simpa [rat] using h
  · rw [if_neg c] at er
    subst er
    have Le : L.length = (sgL n).length + ((numL n.natAbs).length + ((numL u.natAbs).length + 1)) := by rw [Ll2]; rfl
    generalize eb : (sgL n).length + (numL n.natAbs).length = b at *
    have hb : b + 1 ≤ L.length := by omega
    have el2 : L = (sgL n ++ numL n.natAbs) ++ 47 :: numL u.natAbs := by rw [el]; simp
    have lb : (sgL n ++ numL n.natAbs).length = b := by rw [List.length_append, eb]
    have ix : ∀ (ν : Mu) (Q : DQ), DL.rIx (.dat (.str (T L))) (.dat (.int (b : Nat))) ν Q = Q (.dat (.str (T [47]))) ν := fun ν Q => o_ixS Ll (by
      rw [el2, List.getElem?_append_right (by omega), lb, Nat.sub_self]
      rfl)
    have el3 : L = (sgL n ++ numL n.natAbs ++ [47]) ++ (numL u.natAbs ++ []) := by rw [el]; simp
    have lb3 : (sgL n ++ numL n.natAbs ++ [47]).length = b + 1 := by rw [List.length_append, lb]; rfl
    have sw3 : ∀ (ν : Mu) (Q : DQ), mSw3 (.dat (.str (T L))) [.dat (.str (PySem.Str.ofString "0")), .dat (.int ((b : Nat) + 1 : Int))] ν Q = Q (.dat (.bool false)) ν := fun ν Q => by
      have e := o_sw3 (l := L) (b := b + 1) (c := 48) (μ := ν) (Q := Q) hb
      have e1 : decide (L[b + 1]? = some 48) = false := by
        refine decide_eq_false fun z => ?_
        rw [el3, List.append_nil, List.getElem?_append_right (by omega), lb3, Nat.sub_self, ← List.head?_eq_getElem?] at z
        exact num_head _ _ (Nat.le_refl _) (by omega) z
      rw [e1] at e
      exact e
    have dE2 := digE_num (sgL n ++ numL n.natAbs ++ [47]) [] u.natAbs (by simp)
    rw [← el3, lb3] at dE2
    have D2 : ∀ (ν : Mu) (Q : DQ), ph_digits_end [.dat (.str (T L)), .dat (.int ((b : Nat) + 1 : Int))] ν Q = Q (.dat (.int (L.length : Nat))) ν := fun ν Q => by
      have e := c_digits_end (l := L) (b := b + 1) (μ := ν) (Q := Q)
      rw [dE2, show b + 1 + (numL u.natAbs).length = L.length by omega] at e
      exact e.trans (propext ⟨fun z => z.2, fun z => ⟨⟨by omega, Ll, by omega⟩, z⟩⟩)
    have s1 : ∀ (ν : Mu) (Q : DQ), rSl (.dat (.str (T L))) none (some ((b : Nat) : Int)) ν Q = Q (.dat (.str (T (sgL n ++ numL n.natAbs)))) ν := fun ν Q => by
      rw [sl_to Ll (by omega), el2, List.take_left' lb]
    have s2 : ∀ (ν : Mu) (Q : DQ), rSl (.dat (.str (T L))) (some ((b : Nat) + 1 : Int)) none ν Q = Q (.dat (.str (T (sgL u ++ numL u.natAbs)))) ν := fun ν Q => by
      have e := sl_from (l := L) (b := b + 1) (μ := ν) (Q := Q) Ll hb
      have e1 : L.drop (b + 1) = sgL u ++ numL u.natAbs := by
        rw [el3, List.append_nil, List.drop_left' lb3]
        unfold sgL
        rw [if_neg (by omega)]
        rfl
      rw [e1] at e
      exact e
    have iu := fun (ν : Mu) (Q : DQ) => fInt_text (n := u) (μ := ν) (Q := Q) hu
    have ne : ¬ ((b : Int) = (L.length : Nat)) := by omega
    have s47 : PySem.Str.ofString "/" = T [47] := rfl
    have nes : ∀ (ν : Mu) (Q : DQ), DL.rNe (.dat (.str (T [47]))) (.dat (.str (PySem.Str.ofString "/"))) ν Q = Q (.dat (.bool false)) ν := fun ν Q => by
      rw [s47]
      exact ne_str
    by_cases c0 : n < 0
    · have d1 := D3 1 (by rw [if_pos c0])
      simp [ds_parse_ratio, startD, e_dMtS, ↓sw, c0, ↓d1, ↓ln, ne, ↓ix, ↓nes, ↓sw3, ↓D2, dSl, oNone, oSome, ↓s1, ↓s2, ↓ii, ↓iu, hr]
      simpa using h
    · have d1 := D3 0 (by rw [if_neg c0])
      simp [ds_parse_ratio, startD, e_dMtS, ↓sw, c0, ↓d1, ↓ln, ne, ↓ix, ↓nes, ↓sw3, ↓D2, dSl, oNone, oSome, ↓s1, ↓s2, ↓ii, ↓iu, hr]
      simpa using h
end
end K11
namespace K52
open PySem PySem.Spec PyProof.Rows L2 Evl DL
open WL
open K27 (asRow awayI awayZ goes asRow_row intsOf_all zD zip_ci leftZ left_at left_len left_step ixN_left away_snoc)
end K52
namespace K52
open PySem PySem.Spec PyProof.Rows L2 Evl DL
open WL
open K27 (asRow awayI awayZ goes asRow_row intsOf_all zD zip_ci leftZ left_at left_len left_step ixN_left away_snoc)
section
variable {μ : Mu} {Q : DQ} {n p : Int} {ts : List T3} {d : PyData} {xs : List Int} {ds : List PyData} {k : Nat}
end
theorem eq_ints {as bs : List Int} {μ : Mu} {Q : DQ} : DL.rEq (.dat (intsL as)) (.dat (intsL bs)) μ Q = Q (.dat (.bool (decide (as = bs)))) μ := by
  have e : PyData.eqv (intsL as) (intsL bs) = decide (as = bs) := by
    unfold intsL
    simp only [PyData.eqv]
    exact eqv_ints as bs
  show ((SeqAt.shaped (intsL as) = true ∧ SeqAt.shaped (intsL bs) = true) ∧ Q (.dat (.bool (PyData.eqv (intsL as) (intsL bs)))) μ) = _
  rw [e]
  exact propext ⟨fun z => z.2, fun z => ⟨⟨(sh_ints (c := as)).ok (by decide), (sh_ints (c := bs)).ok (by decide)⟩, z⟩⟩
end K52
namespace K52
open PySem PySem.Spec PyProof.Rows L2 Evl DL
open WL
open K27 (asRow awayI awayZ goes asRow_row intsOf_all zD zip_ci leftZ left_at left_len left_step ixN_left away_snoc)
end K52
namespace K17
open PySem PySem.Spec PyProof.Rows L2 Evl DL
open WL
structure OrdL (n : Int) (o : List Int) : Prop where
  nd : o.Nodup
  rg : ∀ p ∈ o, 0 ≤ p ∧ p < n
  all : ∀ p, 0 ≤ p → p < n → p ∈ o
  len : (o.length : Int) = n
def atB (p : Int) (t : T3) : Bool := decide (p ∈ [t.1, t.2.1])
def sumAt (ts : List T3) (p : Int) : Int := ((ts.filter (atB p)).map (·.2.2)).sum
def roomB (ts : List T3) (p q : Int) : Int := ((ts.filter fun t => decide (farI t p = some q)).map (·.2.2)).sum
def ph_are_integers : DF := fun ss μ Q => ∃ s c, ss = [s] ∧ Sq1 s c ∧ SmallL c ∧ Q (.dat (.bool true)) μ
def ph_is_traffic : DF := fun ss μ Q => ∃ n ts ws, ss = [.dat (webD n ts), .dat (tiesD ws)] ∧ (WebOk n ts ∧ RowsOk 6 n ws) ∧ Q (.dat (.bool true)) μ
def ph_check_wishes : DF := fun ss μ Q => ∃ n ts ws, ss = [.dat (webD n ts), .dat (tiesD ws)] ∧ RowsOk 6 n ws ∧ Q (.dat .none) μ
def ph_check_traffic : DF := fun ss μ Q => ∃ n ts ws, ss = [.dat (webD n ts), .dat (tiesD ws)] ∧ (WebOk n ts ∧ RowsOk 6 n ws) ∧ Q (.dat .none) μ
def ph_room_between : DF := fun ss μ Q => ∃ n ts p q, ss = [.dat (webD n ts), .dat (.int p), .dat (.int q)] ∧ (WebOk n ts ∧ (0 ≤ p ∧ p < n) ∧ (0 ≤ q ∧ q < n)) ∧ Q (.dat (.int (roomB ts p q))) μ
def ph_summed_at : DF := fun ss μ Q => ∃ ts p, ss = [.dat (tiesD ts), .dat (.int p)] ∧ ts.length ≤ 100 ∧ Q (.dat (.int (sumAt ts p))) μ
def ph_room_at : DF := fun ss μ Q => ∃ n ts p, ss = [.dat (webD n ts), .dat (.int p)] ∧ (WebOk n ts ∧ (0 ≤ p ∧ p < n)) ∧ Q (.dat (.int (sumAt ts p))) μ
def ph_wish_at : DF := fun ss μ Q => ∃ n ts ws p, ss = [.dat (webD n ts), .dat (tiesD ws), .dat (.int p)] ∧ (WebOk n ts ∧ RowsOk 6 n ws ∧ (0 ≤ p ∧ p < n)) ∧ Q (.dat (.int (sumAt ws p))) μ
end K17
namespace K17
open PySem PySem.Spec PyProof.Rows L2 Evl DL
end K17
namespace K17
open PySem PySem.Spec PyProof.Rows L2 Evl DL
open WL
section
variable {μ : Mu} {Q : DQ} {n p q : Int} {ts ws : List T3} {c o : List Int} {s : Sl}
theorem ww_inj {n' : Int} {ts' ws' : List T3} (e : [Sl.dat (webD n ts), .dat (tiesD ws)] = [.dat (webD n' ts'), .dat (tiesD ws')]) : n = n' ∧ ts = ts' ∧ ws = ws' := by
  obtain ⟨e1, e2⟩ := dr_inj e
  obtain ⟨rfl, rfl⟩ := webD_inj e1
  cases tiesD_inj (dr_inj e2).1
  exact ⟨rfl, rfl, rfl⟩
theorem wi_inj {n' p' : Int} {ts' : List T3} (e : [Sl.dat (webD n ts), .dat (.int p)] = [.dat (webD n' ts'), .dat (.int p')]) : n = n' ∧ ts = ts' ∧ p = p' := by
  obtain ⟨e1, e2⟩ := dr_inj e
  obtain ⟨rfl, rfl⟩ := webD_inj e1
  cases e2
  exact ⟨rfl, rfl, rfl⟩
theorem c_are_integers (h : Sq1 s c) : ph_are_integers [s] μ Q = (SmallL c ∧ Q (.dat (.bool true)) μ) := propext ⟨fun ⟨_, _, e, h', g⟩ => by cases (List.cons.inj e).1; cases sq1_inj h h'; exact g, fun g => ⟨_, _, rfl, h, g⟩⟩
@[simp ↓] theorem c_are_tie {t : T3} : ph_are_integers [.dat (tieD t)] μ Q = Q (.dat (.bool true)) μ := (c_are_integers (c := tl t) (.inl rfl)).trans (propext ⟨fun z => z.2, fun z => ⟨by unfold SmallL tl; simp, z⟩⟩)
@[simp ↓] theorem c_check_wishes : ph_check_wishes [.dat (webD n ts), .dat (tiesD ws)] μ Q = (RowsOk 6 n ws ∧ Q (.dat .none) μ) := propext ⟨fun ⟨_, _, _, e, h⟩ => by obtain ⟨rfl, rfl, rfl⟩ := ww_inj e; exact h, fun h => ⟨_, _, _, rfl, h⟩⟩
@[simp ↓] theorem c_check_traffic : ph_check_traffic [.dat (webD n ts), .dat (tiesD ws)] μ Q = ((WebOk n ts ∧ RowsOk 6 n ws) ∧ Q (.dat .none) μ) := propext ⟨fun ⟨_, _, _, e, h⟩ => by obtain ⟨rfl, rfl, rfl⟩ := ww_inj e; exact h, fun h => ⟨_, _, _, rfl, h⟩⟩
@[simp ↓] theorem c_is_traffic : ph_is_traffic [.dat (webD n ts), .dat (tiesD ws)] μ Q = ((WebOk n ts ∧ RowsOk 6 n ws) ∧ Q (.dat (.bool true)) μ) := propext ⟨fun ⟨_, _, _, e, h⟩ => by obtain ⟨rfl, rfl, rfl⟩ := ww_inj e; exact h, fun h => ⟨_, _, _, rfl, h⟩⟩
@[simp ↓] theorem c_summed_at : ph_summed_at [.dat (tiesD ts), .dat (.int p)] μ Q = (ts.length ≤ 100 ∧ Q (.dat (.int (sumAt ts p))) μ) := propext ⟨fun ⟨_, _, e, h⟩ => by
  obtain ⟨e1, e2⟩ := dr_inj e
  cases tiesD_inj e1
  cases e2
  exact h, fun h => ⟨_, _, rfl, h⟩⟩
@[simp ↓] theorem c_room_at : ph_room_at [.dat (webD n ts), .dat (.int p)] μ Q = ((WebOk n ts ∧ (0 ≤ p ∧ p < n)) ∧ Q (.dat (.int (sumAt ts p))) μ) := propext ⟨fun ⟨_, _, _, e, h⟩ => by obtain ⟨rfl, rfl, rfl⟩ := wi_inj e; exact h, fun h => ⟨_, _, _, rfl, h⟩⟩
end
end K17
namespace K17
open PySem PySem.Spec PyProof.Rows L2 Evl DL
open WL
end K17
namespace K17
open PySem PySem.Spec PyProof.Rows L2 Evl DL
open WL
theorem OrdL.small {n : Int} {o : List Int} (h : OrdL n o) (hn : n ≤ 8) : o.length ≤ 8 := by
  have := h.len
  omega
end K17
namespace K17
open PySem PySem.Spec PyProof.Rows L2 Evl DL
open WL
end K17
namespace K17
open PySem PySem.Spec PyProof.Rows L2 Evl DL
open WL
end K17
namespace K17
open PySem PySem.Spec PyProof.Rows L2 Evl DL
open WL
end K17
namespace K17
open PySem PySem.Spec PyProof.Rows L2 Evl DL
open WL
end K17
namespace K17
open PySem PySem.Spec PyProof.Rows L2 Evl DL
open WL
section
variable {n p q : Int} {ts ws : List T3} {μ : Mu} {Q : DQ}
@[simp ↓] theorem c_room_between : ph_room_between [.dat (webD n ts), .dat (.int p), .dat (.int q)] μ Q = ((WebOk n ts ∧ (0 ≤ p ∧ p < n) ∧ (0 ≤ q ∧ q < n)) ∧ Q (.dat (.int (roomB ts p q))) μ) := propext ⟨fun ⟨_, _, _, _, e, h⟩ => by
  obtain ⟨e1, e2⟩ := dr_inj e
  obtain ⟨rfl, rfl⟩ := webD_inj e1
  cases e2
  exact h, fun h => ⟨_, _, _, _, rfl, h⟩⟩
@[simp ↓] theorem c_wish_at : ph_wish_at [.dat (webD n ts), .dat (tiesD ws), .dat (.int p)] μ Q = ((WebOk n ts ∧ RowsOk 6 n ws ∧ (0 ≤ p ∧ p < n)) ∧ Q (.dat (.int (sumAt ws p))) μ) := propext ⟨fun ⟨_, _, _, _, e, h⟩ => by
  obtain ⟨e1, e2⟩ := dr_inj e
  obtain ⟨rfl, rfl⟩ := webD_inj e1
  obtain ⟨e3, e4⟩ := dr_inj e2
  cases tiesD_inj e3
  cases e4
  exact h, fun h => ⟨_, _, _, _, rfl, h⟩⟩
end
section
variable {D : DEnds} {n step : Int} {ts ws : List T3} {μ : Mu}
end
end K17
namespace K17
open PySem PySem.Spec PyProof.Rows L2 Evl DL
open WL
theorem any_pair {ps : List (Int × Int)} {p : Int × Int} : ((ps.map WL.pairD).any fun z => PyData.eqv z (WL.pairD p)) = decide (p ∈ ps) := by
  induction ps with
  | nil => rfl
  | cons a r ih =>
    rw [List.map_cons, List.any_cons, ih]
    have e : PyData.eqv (WL.pairD a) (WL.pairD p) = decide (a = p) := by
      have : PyData.eqv (WL.pairD a) (WL.pairD p) = decide ([a.1, a.2] = [p.1, p.2]) := eqv_row (a := [a.1, a.2]) (b := [p.1, p.2])
      rw [this, decide_eq_decide]
      constructor
      · intro z
        simp at z
        exact Prod.ext z.1 z.2
      · intro z
        rw [z]
    rw [e]
    by_cases h : p = a
    · subst h; simp
    · have h' : ¬ a = p := fun z => h z.symm
      simp [h, h']
def pr (fs : List T3) : List PyData := (fs.map two).map WL.pairD
structure FI (n most : Int) (fs : List T3) : Prop where
  nd : (fs.map two).Nodup
  rg : ∀ t ∈ fs, (0 ≤ t.1 ∧ t.1 < t.2.1 ∧ t.2.1 < n) ∧ (1 ≤ t.2.2 ∧ t.2.2 ≤ most)
theorem FI.rows {n most : Int} {m : Nat} {fs : List T3} (h : FI n most fs) (hm : most ≤ 20) (h1 : 1 ≤ fs.length) (h2 : fs.length ≤ m) : RowsOk m n (sortT fs) := by
  have p := sortT_perm fs
  refine ⟨by rw [p.length_eq]; exact h1, by rw [p.length_eq]; exact h2, fun t ht => ?_, sortT_up h.nd⟩
  have := h.rg t (p.mem_iff.mp ht)
  omega
theorem pr_app (fs : List T3) (t : T3) : pr fs ++ [WL.pairD (two t)] = pr (fs ++ [t]) := by simp [pr]
theorem ti_app (fs : List T3) (t : T3) : fs.map tieD ++ [tieD t] = (fs ++ [t]).map tieD := by simp
section
variable {D : DEnds} {k : Nat} {n more most : Int} {μ : Mu}
end
end K17
namespace K17
open PySem PySem.Spec PyProof.Rows L2 Evl DL
open WL
section
variable {D : DEnds} {k : Nat} {n more most : Int} {μ : Mu}
end
end K17
namespace K52
open PySem PySem.Spec PyProof.Rows L2 Evl DL
open WL
open K17 (pr pr_app ti_app FI any_pair)
section
variable {D : DEnds} {k m : Nat} {n : Int} {μ : Mu} {s1 s2 : Option Sl}
end
end K52
namespace K52
open PySem PySem.Spec PyProof.Rows L2 Evl DL
open WL
open K17 (pr pr_app ti_app FI any_pair FI.rows)
end K52
namespace K27
open PySem PySem.Spec PyProof.Rows L2 Evl DL
open WL
section
variable {μ : Mu} {Q : DQ} {n p q : Int} {ts : List T3} {k : Nat} {way : List Int} {much : Int}
end
end K27
namespace K27
open PySem PySem.Spec PyProof.Rows L2 Evl DL
open WL
end K27
namespace K27
open PySem PySem.Spec PyProof.Rows L2 Evl DL
open WL
end K27
namespace K52
open PySem PySem.Spec PyProof.Rows L2 Evl DL
open WL
end K52
namespace K11
open PySem PySem.Spec PyProof.Rows L2 Evl DL
open WL
open TL (numL tl tl_num numL_digits numL_lt numL_step numL_ne numL_val tl_append ext_tl len_tl int_num numL_len)
section
variable {μ ν : Mu} {Q : DQ} {n u i j a b : Int} {l : List Nat} {z y : Str} {d : PyData} {k : Nat} {xs : List Int}
@[simp ↓] theorem c_law_is_whole : ph_law_is_whole [.dat d] μ Q = Q (.dat (.bool (isW d))) μ := c_is_integer
theorem c_law_common : ph_law_common [.dat (.int a), .dat (.int b)] μ Q = ((Sm 8000 a ∧ Sm 8000 b) ∧ Q (.dat (.int (gcdI a b))) μ) := propext ⟨fun ⟨_, _, e, h⟩ => by cases e; exact h, fun h => ⟨_, _, rfl, h⟩⟩
theorem c_ratio_text : ph_ratio_text [.dat (rat n u)] μ Q = ((IsR n u ∧ Dg n ∧ Dg u) ∧ Q (.dat (.str (T (ratL n u)))) μ) := propext ⟨fun ⟨_, _, e, h⟩ => by
  obtain ⟨rfl, rfl⟩ := rat_inj (dr_inj e).1
  exact h, fun h => ⟨_, _, rfl, h⟩⟩
theorem isW_int {d : PyData} (h : isW d = true) : ∃ i, d = .int i := by
  cases d <;> first | exact ⟨_, rfl⟩ | (simp [isW] at h)
theorem pu_is_ratio : Pure ["value", "number", "under"] 1 ph_is_ratio ds_is_ratio := by
  intro ss μ Q' hl h
  obtain ⟨d, rfl, h⟩ := h
  cases d with
  | tuple ds =>
    rcases ds with _ | ⟨x, _ | ⟨y, _ | ⟨z, r⟩⟩⟩
    · simpa [ds_is_ratio, startD, tupOfB, ratB] using h
    · simpa [ds_is_ratio, startD, tupOfB, ratB] using h
    · cases hx : isW x with
      | false =>
        have : ratB (.tuple [x, y]) = false := by cases x <;> first | rfl | (simp [isW] at hx)
        rw [this] at h
        simpa [ds_is_ratio, startD, tupOfB, hx] using h
      | true =>
        obtain ⟨n, rfl⟩ := isW_int hx
        cases hy : isW y with
        | false =>
          have : ratB (.tuple [.int n, y]) = false := by cases y <;> first | rfl | (simp [isW] at hy)
          rw [this] at h
          have wi : isW (.int n) = true := rfl
          simpa [ds_is_ratio, startD, tupOfB, wi, hy] using h
        | true =>
          obtain ⟨u, rfl⟩ := isW_int hy
          have g : ∀ Q : DQ, fGcd [.dat (.int n), .dat (.int u)] μ Q = Q (.dat (.int (gcdI n u))) μ := fun Q => by
            show (_ ∧ Q (.dat (.int ((Nat.gcd n.natAbs u.natAbs : Nat) : Int))) μ) = _
            exact propext ⟨fun z => z.2, fun z => ⟨trivial, z⟩⟩
          by_cases c : 1 ≤ u
          · simp [ds_is_ratio, startD, tupOfB, isW, c, ↓g]
            simpa [ratB, IsR, c] using h
          · simp [ds_is_ratio, startD, tupOfB, isW, c]
            simpa [ratB, IsR, c] using h
    · have : ratB (.tuple (x :: y :: z :: r)) = false := by
        unfold ratB
        split
        · rename_i heq
          cases heq
        · rfl
      rw [this] at h
      have : ¬ ((r.length : Int) + 1 + 1 + 1 = 2) := by omega
      simpa [ds_is_ratio, startD, tupOfB, this] using h
  | _ => simpa [ds_is_ratio, startD, tupOfB, ratB] using h
theorem fdiv_sm {k : Nat} {a b : Int} (h : Sm k a) : Sm k (a.fdiv b) := Nat.lt_of_le_of_lt (Int.natAbs_fdiv_le_natAbs _ _) h
theorem common_loop : ∀ (m : Nat) (a b : Int) (D : DEnds) (μ : Mu), b.natAbs < m → Sm 8000 a → Sm 8000 b → (∀ x : Int, (x.natAbs : Int) = gcdI a b → D.nx [some (.dat (.int x)), some (.dat (.int 0))] μ) →
    whileD (dTest (dOp DL.rNe (dVar 1) (dC (.int 0)))) (dPar 0 1 (aCons (dVar 1) (aCons (dOp DL.rSub (dVar 0) (dOp DL.rMul (dOp DL.rDv (dVar 0) (dVar 1)) (dVar 1))) aNil))) D m [some (.dat (.int a)), some (.dat (.int b))] μ
  | 0, _, _, _, _, hm, _, _, _ => absurd hm (Nat.not_lt_zero _)
  | m + 1, a, b, D, μ, hm, ha, hb, h => by
    by_cases h0 : b = 0
    · subst h0
      simp [whileD]
      exact h a (gcdI_zero a).symm
    · have st := step_abs a b h0
      have ih := common_loop m b (a - a.fdiv b * b) D μ (by omega) hb (show Sm 8000 (a - a.fdiv b * b) from Nat.lt_trans st hb) (fun x e => h x (e.trans (gcdI_step a b)))
      have e2 : CMulW (a.fdiv b) b := (fdiv_sm ha).cmul hb (by decide) (by decide)
      simpa [whileD, h0, e2, hb.cdv (by decide) h0] using ih
theorem pu_law_common : Pure ["one", "other"] 2 ph_law_common ds_law_common := by
  intro ss μ Q' hl h
  obtain ⟨a, b, rfl, ⟨s1, s2⟩, h⟩ := h
  refine ⟨b.natAbs + 1, common_loop _ a b _ μ (Nat.lt_succ_self _) s1 s2 fun x e => ?_⟩
  have := abs_if x
  simp [this, e]
  exact h
end
end K11
namespace K13
open PySem PySem.Spec PyProof.Rows L2 Evl DL
open WL
open K11 (T rat IsR gcdI Dg isDg digE ratL)
section
variable {μ ν : Mu} {Q : DQ} {n u i j : Int} {l : List Nat} {z y : Str} {d : PyData} {C : Addr} {R : RQF}
abbrev pos_ : Str := PySem.Str.ofString "position"
def dsE_digits_end (C : Addr) : DSX := fun R => dSeq (dIfS (dTru (dMtS mSw3 (dVar 0) (aCons (dC (.str (PySem.Str.ofString "0"))) (aCons (dVar 1) aNil)))) (dRet (dOp DL.rAdd (dVar 1) (dC (.int 1)))) dNext)
    (dSeq (dAsg (dVar 1) 2)
    (dSeq (dWhile (dAnd (dTest (dOp wLt (dVar 2) (dCB fLen (aCons (dVar 0) aNil)))) (dTest (dChain wLe wLe (dC (.str (PySem.Str.ofString "0"))) (dOp DL.rIx (dVar 0) (dVar 2)) (dC (.str (PySem.Str.ofString "9")))))) (dAug 2 rIadd (dC (.int 1))))
    (dSeq (dIfS (dTest (dOp DL.rEq (dVar 2) (dVar 1))) (dRaise C pos_ (aCons (dVar 2) aNil) R) dNext)
    (dRet (dVar 2)))))
theorem e_dRaise {fn : Str} {da : DA} {R : RQ} {D : DEnds} {ρ : Rho} : dRaise C fn da R D ρ μ = da ρ μ fun ss μ1 => ∃ s, ss = [s] ∧ R C fn s ρ μ1 := rfl
theorem puE_digits_end : PureE ["text", "begin", "end"] 2 (phE_digits_end C) (dsE_digits_end C) := by
  intro ss μ Q' R' hl h
  obtain ⟨l, b, rfl, ⟨hb, hl⟩, h, hR⟩ := h
  have sw : ∀ Q : DQ, mSw3 (.dat (.str (T l))) [.dat (.str (PySem.Str.ofString "0")), .dat (.int (b : Int))] μ Q = Q (.dat (.bool (decide (l[b]? = some 48)))) μ := fun Q => K11.o_sw3 hb
  unfold digE at h hR
  by_cases c : l[b]? = some 48
  · rw [if_pos c] at h
    replace h := h (by omega)
    simp [dsE_digits_end, startD, K11.e_dMtS, ↓sw, c]
    simpa using h
  · rw [if_neg c] at h hR
    have E := fun D (k : D.nx _ μ) => K11.digits_loop (D := D) (s1 := some (.dat (.int (b : Int)))) (i := (b : Int)) (by omega) k (by omega) (l.length - b + 1) b (by omega) (by simp) hb (by simp)
    simp [dsE_digits_end, startD, K11.e_dMtS, ↓sw, c, dWhile]
    refine ⟨_, E _ ?_⟩
    by_cases z : b + ((l.drop b).takeWhile isDg).length = b
    · have hz : (((b : Int).toNat + ((l.drop (b : Int).toNat).takeWhile isDg).length : Nat) : Int) = (b : Int) := by
        rw [Int.toNat_natCast, z]
      rw [hz]
      simp [e_dRaise]
      simpa using hR z
    · have hz : ¬ (((b : Int).toNat + ((l.drop (b : Int).toNat).takeWhile isDg).length : Nat) : Int) = (b : Int) := by
        intro q
        rw [Int.toNat_natCast] at q
        exact z (Int.ofNat.inj q)
      simp [hz]
      rw [if_neg (by simpa using hz)]
      simpa using h z
theorem cE_digits_end {b : Nat} : phE_digits_end C [.dat (.str (T l)), .dat (.int (b : Int))] μ Q R = ((b ≤ l.length ∧ l.length ≤ 600) ∧ (digE l b ≠ b → Q (.dat (.int (digE l b : Nat))) μ) ∧ (digE l b = b → R C pos_ (.dat (.int (b : Nat))) μ)) := propext ⟨fun ⟨l', b', e, h⟩ => by
  obtain ⟨e1, e2⟩ := dr_inj e
  have e3 := K11.T_inj (PyData.str.inj e1)
  have e4 := Int.ofNat.inj (PyData.int.inj (dr_inj e2).1)
  subst e3 e4
  exact h, fun h => ⟨_, _, rfl, h⟩⟩
theorem c_reduced : ph_reduced [.dat (.int n), .dat (.int u)] μ Q = ((1 ≤ u ∧ Sm 8000 n ∧ Sm 8000 u) ∧ Q (.dat (rat (redN n u) (redD n u))) μ) := propext ⟨fun ⟨_, _, e, h⟩ => by cases e; exact h, fun h => ⟨_, _, rfl, h⟩⟩
theorem pu_reduced : Pure ["number", "under", "divisor"] 2 ph_reduced K11.ds_reduced := by
  intro ss μ Q' hl h
  obtain ⟨n, u, rfl, ⟨hu, hn, hs⟩, h⟩ := h
  have g : ∀ Q : DQ, fGcd [.dat (.int n), .dat (.int u)] μ Q = Q (.dat (.int (gcdI n u))) μ := fun Q => by
    show (_ ∧ Q (.dat (.int ((Nat.gcd n.natAbs u.natAbs : Nat) : Int))) μ) = _
    exact propext ⟨fun z => z.2, fun z => ⟨trivial, z⟩⟩
  have c : ¬ u < 0 := by omega
  have c1 : ∀ i, CDv i (gcdI n u) := fun i => cdv_of (gcd_pos hu) (gcd_sm hu hs)
  simp [K11.ds_reduced, startD, ↓g, c, c1]
  simpa [rat, redN, redD] using h
theorem c_law_ratio : ph_law_ratio [.dat (.int n), .dat (.int u)] μ Q = ((1 ≤ u ∧ Sm 8000 n ∧ Sm 8000 u) ∧ Q (.dat (rat (redN n u) (redD n u))) μ) := c_reduced
theorem pu_law_ratio : Pure ["number", "under", "common"] 2 ph_law_ratio ds_law_ratio := by
  intro ss μ Q' hl h
  obtain ⟨n, u, rfl, ⟨hu, hn, hs⟩, h⟩ := h
  have c : ¬ u < 0 := by omega
  have c1 : ∀ i, CDv i (gcdI n u) := fun i => cdv_of (gcd_pos hu) (gcd_sm hu hs)
  simp [ds_law_ratio, startD, K11.c_law_common, hn, hs, c, c1]
  simpa [rat, redN, redD] using h
theorem fInt_of {l : List Nat} {v : Int} (h : intText? (T l) = some v) (hl : l.length ≤ 640) : fInt [.dat (.str (T l))] μ Q = Q (.dat (.int v)) μ := by
  show (∃ m, intText? (T l) = some m ∧ (T l).length ≤ 640 ∧ Q (.dat (.int m)) μ) = _
  rw [h]
  exact propext ⟨fun ⟨m, e, _, q⟩ => by cases e; exact q, fun q => ⟨v, rfl, by rw [K11.len_T]; exact hl, q⟩⟩
theorem neS {a b : List Nat} : DL.rNe (.dat (.str (T a))) (.dat (.str (T b))) μ Q = Q (.dat (.bool (!decide (a = b)))) μ := by
  show Q (.dat (.bool (!decide (T a = T b)))) μ = _
  have : decide (T a = T b) = decide (a = b) := by
    by_cases h : a = b
    · subst h; simp
    · rw [decide_eq_false h, decide_eq_false fun z => h (K11.T_inj z)]
  rw [this]
theorem eqS {a b : List Nat} : DL.rEq (.dat (.str (T a))) (.dat (.str (T b))) μ Q = Q (.dat (.bool (decide (a = b)))) μ := by
  show Q (.dat (.bool (decide (T a = T b)))) μ = _
  have : decide (T a = T b) = decide (a = b) := by
    by_cases h : a = b
    · subst h; simp
    · rw [decide_eq_false h, decide_eq_false fun z => h (K11.T_inj z)]
  rw [this]
end
end K13
namespace K13
open PySem PySem.Spec PyProof.Rows L2 Evl DL
open WL
open K11 (T rat IsR gcdI Dg isDg digE ratL)
section
variable {μ ν : Mu} {Q : DQ} {n u i j : Int} {l : List Nat} {z y : Str} {d : PyData} {C : Addr} {R : RQF}
def dsE_rest (C : Addr) : DSX := fun R => (dSeq (dAsg (dCallE 2 (phE_digits_end C) (aCons (dVar 0) (aCons (dVar 1) aNil)) R) 2)
    (dSeq (dIfS (dTest (dOp DL.rEq (dVar 2) (dCB fLen (aCons (dVar 0) aNil)))) (dRet (dTup (aCons (dCB fInt (aCons (dVar 0) aNil)) (aCons (dC (.int 1)) aNil)))) dNext)
    (dSeq (dIfS (dTest (dOp DL.rNe (dOp DL.rIx (dVar 0) (dVar 2)) (dC (.str (PySem.Str.ofString "/"))))) (dRaise C pos_ (aCons (dVar 2) aNil) R) dNext)
    (dSeq (dIfS (dTru (dMtS mSw3 (dVar 0) (aCons (dC (.str (PySem.Str.ofString "0"))) (aCons (dOp DL.rAdd (dVar 2) (dC (.int 1))) aNil)))) (dRaise C pos_ (aCons (dOp DL.rAdd (dVar 2) (dC (.int 1))) aNil) R) dNext)
    (dSeq (dAsg (dCallE 2 (phE_digits_end C) (aCons (dVar 0) (aCons (dOp DL.rAdd (dVar 2) (dC (.int 1))) aNil)) R) 3)
    (dSeq (dIfS (dTest (dOp wLt (dVar 3) (dCB fLen (aCons (dVar 0) aNil)))) (dRaise C pos_ (aCons (dVar 3) aNil) R) dNext)
    (dRet (dCall 2 ph_reduced (aCons (dCB fInt (aCons (dSl (dVar 0) oNone (oSome (dVar 2))) aNil)) (aCons (dCB fInt (aCons (dSl (dVar 0) (oSome (dOp DL.rAdd (dVar 2) (dC (.int 1)))) oNone) aNil)) aNil))))))))))
def dsE_parse_ratio (C : Addr) : DSX := fun R => dSeq (dDrop (dCall 1 K11.ph_check_text (aCons (dVar 0) aNil)))
    (dSeq (dAsg (dIf (dTru (dMtS mSw (dVar 0) (aCons (dC (.str (PySem.Str.ofString "-"))) aNil))) (dC (.int 1)) (dC (.int 0))) 1)
    (dsE_rest C R))
theorem e_dCallE {k : Nat} {φ : DFE} {a : DA} {R : RQ} {ρ : Rho} : dCallE k φ a R ρ μ Q = a ρ μ fun ss μ1 => ss.length = k ∧ φ ss μ1 Q (fun C f s μ2 => R C f s ρ μ2) := rfl
theorem under_text {e : Nat} (hl : l.length ≤ 600) (he : e + 1 ≤ l.length) (hf : digE l (e + 1) ≠ e + 1) (h0 : l[e + 1]? ≠ some 48) (hL : ¬ digE l (e + 1) < l.length) :
    intText? (T (l.drop (e + 1))) = some (dv (l.drop (e + 1))) ∧ 1 ≤ dv (l.drop (e + 1)) ∧ Sm 8000 (dv (l.drop (e + 1))) := by
  have h1 := digE_le he
  have e1 : (l.drop (e + 1)).take (digE l (e + 1) - (e + 1)) = l.drop (e + 1) := List.take_of_length_le (by rw [List.length_drop]; omega)
  have d1 := digs (l := l) (b := e + 1)
  have d2 := digs_ne he hf
  have d3 := dv_pos he h0 hf
  rw [e1] at d1 d2 d3
  exact ⟨int_dv d1 d2 (by rw [List.length_drop]; omega), d3, dv_sm d1 (by rw [List.length_drop]; omega)⟩
theorem rest_ok {b : Nat} {Q' : DQ} {R' : RQF} {D : DEnds} (eb : begL l = b) (hl : l.length ≤ 600) (hrt : D.rt = finQ μ.length Q') (h : ∀ z, rdL l = .inr z → Q' (.dat (rat z.1 z.2)) μ) (hR : ∀ p, rdL l = .inl p → R' C pos_ (.dat (.int (p : Nat))) μ) :
    dsE_rest C (fun C f s _ μ' => finQ μ.length (R' C f) s μ') D [some (.dat (.str (T l))), some (.dat (.int (b : Int))), none, none] μ := by
  have ln : ∀ (ν : Mu) (Q : DQ), fLen [.dat (.str (T l))] ν Q = Q (.dat (.int (l.length : Nat))) ν := fun ν Q => K11.o_lenS (by omega)
  have hb : b ≤ l.length := eb ▸ beg_le
  have fR : ∀ p : Nat, rdL l = .inl p → finQ μ.length (R' C pos_) (.dat (.int (p : Nat))) μ := fun p hp => by
    have := hR p hp
    show R' C pos_ (.dat (.int (p : Nat))) (μ.take μ.length)
    rw [List.take_length]
    exact this
  have fQ : ∀ z, rdL l = .inr z → finQ μ.length Q' (.dat (rat z.1 z.2)) μ := fun z hz => by
    have := h z hz
    show Q' (.dat (rat z.1 z.2)) (μ.take μ.length)
    rw [List.take_length]
    exact this
  simp only [dsE_rest, e_dSeq, e_dAsg, e_dCallE, e_aCons, e_aNil, e_dVar, List.getElem?_cons_succ, List.getElem?_cons_zero, List.length_cons, List.length_nil, cE_digits_end]
  refine ⟨trivial, ⟨hb, hl⟩, fun hne => ?_, fun he => fR b (by simp [rdL, eb, he])⟩
  generalize ee : digE l b = e at *
  have hel : e ≤ l.length := ee ▸ digE_le hb
  have hsv := sv_text (l := l) (e := e) (by rw [eb, ee]) (by rw [eb]; exact hne) hl
  have ssv := sv_sm (l := l) (e := e) (by rw [eb, ee]) hl
  by_cases c1 : e = l.length
  · subst c1
    have r1 : rdL l = .inr (sv l l.length, 1) := by simp [rdL, eb, ee, hne]
    have ii : ∀ (ν : Mu) (Q : DQ), fInt [.dat (.str (T l))] ν Q = Q (.dat (.int (sv l l.length))) ν := fun ν Q => fInt_of (by
      have := hsv
      rw [List.take_length] at this
      exact this) (by omega)
    have := h _ r1
    simp [↓ln, ↓ii, hrt]
    exact this
  · have hlt : e < l.length := by omega
    have c1' : ¬ ((e : Int) = (l.length : Nat)) := by omega
    have ix : ∀ (ν : Mu) (Q : DQ), DL.rIx (.dat (.str (T l))) (.dat (.int (e : Nat))) ν Q = Q (.dat (.str (T [l[e]]))) ν := fun ν Q => K11.o_ixS (by omega) (List.getElem?_eq_getElem hlt)
    have s47 : PySem.Str.ofString "/" = T [47] := rfl
    simp only [e_dSeq, e_dIfS, e_dTest, e_dOp, e_dVar, e_dCB, e_aCons, e_aNil, List.set_cons_succ, List.set_cons_zero, List.getElem?_cons_succ, List.getElem?_cons_zero, ln, o_eqI, c1', decide_false, Bool.false_eq_true, if_false, e_dNext, ix, e_dC, s47, neS]
    by_cases c2 : l[e] = 47
    · have le : l[e]? = some 47 := by rw [List.getElem?_eq_getElem hlt, c2]
      have sw3 : ∀ (ν : Mu) (Q : DQ), mSw3 (.dat (.str (T l))) [.dat (.str (PySem.Str.ofString "0")), .dat (.int ((e : Nat) + 1 : Int))] ν Q = Q (.dat (.bool (decide (l[e + 1]? = some 48)))) ν := fun ν Q => K11.o_sw3 (l := l) (b := e + 1) (c := 48) (μ := ν) (Q := Q) (by omega)
      rw [if_neg (by simpa using c2)]
      by_cases c3 : l[e + 1]? = some 48
      · have r3 : rdL l = .inl (e + 1) := by simp [rdL, eb, ee, hne, c1, le, c3]
        simp [K11.e_dMtS, ↓sw3, c3]
        exact ⟨_, rfl, fR _ r3⟩
      · have D2 : ∀ (ν : Mu) (Q : DQ) (R : RQF), phE_digits_end C [.dat (.str (T l)), .dat (.int ((e : Nat) + 1 : Int))] ν Q R = (((e + 1) ≤ l.length ∧ l.length ≤ 600) ∧ (digE l (e + 1) ≠ e + 1 → Q (.dat (.int (digE l (e + 1) : Nat))) ν) ∧ (digE l (e + 1) = e + 1 → R C pos_ (.dat (.int ((e + 1 : Nat) : Int))) ν)) := fun ν Q R => cE_digits_end (b := e + 1)
        simp only [e_dSeq, e_dIfS, e_dTru, K11.e_dMtS, e_dVar, e_aCons, e_aNil, e_dC, e_dOp, o_add, List.getElem?_cons_succ, List.getElem?_cons_zero, sw3, c3, decide_false, e_rdD]
        refine ⟨⟨_, rfl⟩, trivial, ?_⟩
        simp only [truD, Bool.false_eq_true, if_false, e_dNext, e_dSeq, e_dAsg, e_dCallE, e_dVar, e_aCons, e_aNil, e_dC, e_dOp, o_add, List.getElem?_cons_succ, List.getElem?_cons_zero, List.length_cons, List.length_nil, D2]
        refine ⟨trivial, ⟨by omega, hl⟩, fun hf => ?_, fun hf => fR (e + 1) (by simp [rdL, eb, ee, hne, c1, le, c3, hf])⟩
        generalize ef : digE l (e + 1) = f at *
        have hfl : f ≤ l.length := ef ▸ digE_le (by omega)
        by_cases c4 : f < l.length
        · have r4 : rdL l = .inl f := by simp [rdL, eb, ee, hne, c1, le, c3, ef, hf, c4]
          simp [↓ln, c4]
          exact ⟨_, rfl, fR _ r4⟩
        · have r5 : rdL l = .inr (redN (sv l e) (dv (l.drop (e + 1))), redD (sv l e) (dv (l.drop (e + 1)))) := by simp [rdL, eb, ee, hne, c1, le, c3, ef, hf, c4]
          obtain ⟨u1, u2, u3⟩ := under_text hl (by omega) (by rw [ef]; exact hf) c3 (by rw [ef]; exact c4)
          have s1 : ∀ (ν : Mu) (Q : DQ), rSl (.dat (.str (T l))) none (some ((e : Nat) : Int)) ν Q = Q (.dat (.str (T (l.take e)))) ν := fun ν Q => K11.sl_to (by omega) (by omega)
          have s2 : ∀ (ν : Mu) (Q : DQ), rSl (.dat (.str (T l))) (some ((e : Nat) + 1 : Int)) none ν Q = Q (.dat (.str (T (l.drop (e + 1))))) ν := fun ν Q => K11.sl_from (l := l) (b := e + 1) (by omega) (by omega)
          have i1 : ∀ (ν : Mu) (Q : DQ), fInt [.dat (.str (T (l.take e)))] ν Q = Q (.dat (.int (sv l e))) ν := fun ν Q => fInt_of hsv (by rw [List.length_take]; omega)
          have i2 : ∀ (ν : Mu) (Q : DQ), fInt [.dat (.str (T (l.drop (e + 1))))] ν Q = Q (.dat (.int (dv (l.drop (e + 1))))) ν := fun ν Q => fInt_of u1 (by rw [List.length_drop]; omega)
          have c4' : ¬ ((f : Int) < (l.length : Nat)) := by omega
          have := fQ _ r5
          simp [↓ln, c4, dSl, oNone, oSome, ↓s1, ↓s2, ↓i1, ↓i2, c_reduced, u2, u3, ssv, hrt]
          exact h _ r5
    · have r2 : rdL l = .inl e := by simp [rdL, eb, ee, hne, c1, List.getElem?_eq_getElem hlt, c2]
      have : ¬ [l[e]] = [47] := by simpa using c2
      rw [if_pos (by simpa using c2)]
      exact ⟨_, rfl, fR e r2⟩
theorem puE_parse_ratio : PureE ["text", "begin", "end", "last"] 1 (phE_parse_ratio C) (dsE_parse_ratio C) := by
  intro ss μ Q' R' hl h
  obtain ⟨l, rfl, hl6, h, hR⟩ := h
  have sw : ∀ Q : DQ, mSw (.dat (.str (T l))) [.dat (.str (PySem.Str.ofString "-"))] μ Q = Q (.dat (.bool (decide (l[0]? = some 45)))) μ := fun Q => K11.o_sw
  by_cases c : l[0]? = some 45
  · have eb : begL l = 1 := by simp [begL, c]
    have := rest_ok (C := C) (μ := μ) (Q' := Q') (R' := R') (D := ⟨fun _ μ' => finQ μ.length Q' (.dat .none) μ', finQ μ.length Q', fun _ _ => False, fun _ _ => False⟩) eb hl6 rfl h hR
    simp [dsE_parse_ratio, startD, K11.e_dMtS, ↓sw, c]
    exact this
  · have eb : begL l = 0 := by simp [begL, c]
    have := rest_ok (C := C) (μ := μ) (Q' := Q') (R' := R') (D := ⟨fun _ μ' => finQ μ.length Q' (.dat .none) μ', finQ μ.length Q', fun _ _ => False, fun _ _ => False⟩) eb hl6 rfl h hR
    simp [dsE_parse_ratio, startD, K11.e_dMtS, ↓sw, c]
    exact this
end
end K13
namespace K13
open PySem PySem.Spec PyProof.Rows L2 Evl DL
open WL
open K11 (T rat IsR gcdI Dg isDg digE ratL sgL)
open TL (numL tl tl_append ext_tl)
section
variable {μ ν : Mu} {Q : DQ} {n u i j : Int} {l : List Nat} {z y : Str} {d : PyData} {C : Addr} {R : RQF}
theorem str_T (n : Int) : PySem.Str.ofString (toString n) = T (sgL n ++ numL n.natAbs) := by
  cases n with
  | ofNat m =>
    have h : ¬ (Int.ofNat m < 0) := by
      have : (0 : Int) ≤ (m : Int) := Int.natCast_nonneg m
      exact Int.not_lt.mpr this
    unfold sgL
    rw [if_neg h, List.nil_append]
    exact K11.num_T m
  | negSucc m =>
    have h : Int.negSucc m < 0 := Int.negSucc_lt_zero m
    unfold sgL
    rw [if_pos h]
    have e : toString (Int.negSucc m) = "-" ++ toString ((m + 1 : Nat) : Int) := rfl
    have e2 : PySem.Str.ofString ("-" ++ toString ((m + 1 : Nat) : Int)) = PySem.Str.ofString "-" ++ PySem.Str.ofString (toString ((m + 1 : Nat) : Int)) := by
      apply ext_tl
      rw [tl_append, TL.tl_ofString, TL.tl_ofString, TL.tl_ofString, String.toList_append, List.map_append]
    rw [e, e2, K11.num_T (m + 1)]
    exact K11.T_app [45] (numL (m + 1))
theorem o_str (h : Dg n) : fStrI [.dat (.int n)] μ Q = Q (.dat (.str (T (sgL n ++ numL n.natAbs)))) μ := by
  show (_ ∧ Q (.dat (.str (PySem.Str.ofString (toString n)))) μ) = _
  rw [str_T]
  refine propext ⟨fun z => z.2, fun z => ⟨?_, z⟩⟩
  by_cases z : n.natAbs = 0
  · rw [z]; decide
  · have : n.natAbs.log2 < 200 := (Nat.log2_lt z).mpr (Nat.lt_trans h (by decide))
    omega
theorem c_law_text : ph_law_text [.dat (rat n u)] μ Q = ((1 ≤ u ∧ Dg n ∧ Dg u) ∧ Q (.dat (.str (T (ratL n u)))) μ) := propext ⟨fun ⟨_, _, e, h⟩ => by
  obtain ⟨rfl, rfl⟩ := K11.rat_inj (dr_inj e).1
  exact h, fun h => ⟨_, _, rfl, h⟩⟩
theorem pu_law_text : Pure ["ratio"] 1 ph_law_text ds_law_text := by
  intro ss μ Q' hl h
  obtain ⟨n, u, rfl, ⟨hu0, hn, hu⟩, h⟩ := h
  have l1 := K11.dg_len hn
  have l2 := K11.dg_len hu
  have l0 := K11.sg_len n
  have l3 := K11.sg_len u
  have i0 : ∀ (ν : Mu) (Q : DQ), DL.rIx (.dat (rat n u)) (.dat (.int 0)) ν Q = Q (.dat (.int n)) ν := fun ν Q => ix_0
  have i1 : ∀ (ν : Mu) (Q : DQ), DL.rIx (.dat (rat n u)) (.dat (.int 1)) ν Q = Q (.dat (.int u)) ν := fun ν Q => ix_1
  have s1 := fun (ν : Mu) (Q : DQ) => o_str (μ := ν) (Q := Q) hn
  have s2 := fun (ν : Mu) (Q : DQ) => o_str (μ := ν) (Q := Q) hu
  have su : sgL u = [] := by unfold sgL; rw [if_neg (by omega)]
  rw [su, List.nil_append] at s2
  have e47 : PySem.Str.ofString "/" = T [47] := rfl
  unfold ratL at h
  rw [show (if n < 0 then [45] else []) = sgL n from rfl] at h
  by_cases c : u = 1
  · subst c
    rw [if_pos rfl, List.append_nil] at h
    simp [ds_law_text, startD, ↓i0, ↓i1, ↓s1]
    exact h
  · rw [if_neg c] at h
    simp [ds_law_text, startD, ↓i0, ↓i1, c, ↓s1, ↓s2, e47]
    rw [K11.e_addS (by simp; omega), K11.e_addS (by simp; omega)]
    simpa using h
theorem in_dig {c : Nat} : wIn id (.dat (.str (T [c]))) (.dat (.str (PySem.Str.ofString "0123456789"))) μ Q = Q (.dat (.bool (isDg c))) μ := by
  have e : decide (c ∈ (PySem.Str.ofString "0123456789").cps.toList) = isDg c := by
    have h1 : (PySem.Str.ofString "0123456789").cps.toList = [48, 49, 50, 51, 52, 53, 54, 55, 56, 57] := by decide +kernel
    rw [h1]
    have h2 : c ∈ [48, 49, 50, 51, 52, 53, 54, 55, 56, 57] ↔ isDg c = true := by
      rw [isDg_iff]
      simp only [List.mem_cons, List.not_mem_nil, or_false]
      omega
    by_cases h : isDg c = true
    · rw [h, decide_eq_true (h2.mpr h)]
    · rw [Bool.eq_false_iff.mpr h, decide_eq_false fun q => h (h2.mp q)]
  rw [← e]
  show (∃ c', T [c] = ⟨#[c']⟩ ∧ Q (.dat (.bool (id (decide (c' ∈ (PySem.Str.ofString "0123456789").cps.toList))))) μ) = _
  refine propext ⟨fun ⟨c', h, q⟩ => ?_, fun q => ⟨c, rfl, q⟩⟩
  have : T [c] = T [c'] := h
  cases K11.T_inj this
  exact q
def digC : DT := dAnd (dTest (dOp wLt (dVar 3) (dCB fLen (aCons (dVar 0) aNil)))) (dAnd (dTest (dOp (wIn id) (dOp DL.rIx (dVar 0) (dVar 3)) (dC (.str (PySem.Str.ofString "0123456789"))))) (dOr (dTest (dOp wGt (dVar 3) (dVar 1))) (dTest (dOp DL.rNe (dOp DL.rIx (dVar 0) (dVar 3)) (dC (.str (PySem.Str.ofString "0")))))))
theorem T1_eq {a b : Nat} : (T [a] = T [b]) ↔ a = b := ⟨fun h => (List.cons.inj (K11.T_inj h)).1, fun h => by rw [h]⟩
theorem dig_test {b e : Nat} {s2 : Option Sl} {R : Bool → Mu → Prop} (hl : l.length ≤ 600) : digC [some (.dat (.str (T l))), some (.dat (.int (b : Int))), s2, some (.dat (.int (e : Int)))] μ R = R (decide (e < l.length) && (isDg (l.getD e 0) && (decide (b < e) || decide (l.getD e 0 ≠ 48)))) μ := by
  have ln : ∀ (ν : Mu) (Q : DQ), fLen [.dat (.str (T l))] ν Q = Q (.dat (.int (l.length : Nat))) ν := fun ν Q => K11.o_lenS (by omega)
  by_cases c : e < l.length
  · have ge : l[e]? = some (l.getD e 0) := by
      rw [List.getD_eq_getElem?_getD, List.getElem?_eq_getElem c]
      rfl
    have ix : ∀ (ν : Mu) (Q : DQ), DL.rIx (.dat (.str (T l))) (.dat (.int (e : Nat))) ν Q = Q (.dat (.str (T [l.getD e 0]))) ν := fun ν Q => K11.o_ixS (by omega) ge
    generalize l.getD e 0 = x at *
    have s48 : PySem.Str.ofString "0" = T [48] := rfl
    cases g : isDg x with
    | false => simp [digC, ↓ln, c, ↓ix, in_dig, g, -List.getD_eq_getElem?_getD]
    | true =>
      by_cases q : b < e
      · simp [digC, ↓ln, c, ↓ix, in_dig, g, q, -List.getD_eq_getElem?_getD]
      · simp [digC, ↓ln, c, ↓ix, in_dig, g, q, s48, neS, T1_eq, -List.getD_eq_getElem?_getD]
  · simp [digC, ↓ln, c]
theorem digL_loop {D : DEnds} {s2 : Option Sl} {b r : Nat} (hl : l.length ≤ 600) (k : D.nx [some (.dat (.str (T l))), some (.dat (.int (b : Int))), s2, some (.dat (.int (r : Nat)))] μ) (h0 : l[b]? ≠ some 48) :
    ∀ (m e : Nat), l.length - e < m → b ≤ e → e ≤ l.length → r = e + ((l.drop e).takeWhile isDg).length →
    whileD digC (dAsg (dOp DL.rAdd (dVar 3) (dC (.int 1))) 3) D m [some (.dat (.str (T l))), some (.dat (.int (b : Int))), s2, some (.dat (.int (e : Int)))] μ
  | 0, e, h, _, _, _ => absurd h (Nat.not_lt_zero _)
  | m + 1, e, h, hb, he, hr => by
    show digC _ _ _
    rw [dig_test hl]
    by_cases c : e < l.length
    · have gd : l.getD e 0 = l[e] := by
        rw [List.getD_eq_getElem?_getD, List.getElem?_eq_getElem c]
        rfl
      rw [List.drop_eq_getElem_cons c, List.takeWhile_cons] at hr
      rw [gd, decide_eq_true c, Bool.true_and]
      cases g : isDg l[e] with
      | true =>
        rw [g] at hr
        have hr' : r = e + 1 + ((l.drop (e + 1)).takeWhile isDg).length := by rw [hr]; simp; omega
        have ih := digL_loop hl k h0 m (e + 1) (by omega) (by omega) (by omega) hr'
        have w : (decide (b < e) || decide (l[e] ≠ 48)) = true := by
          by_cases q : b < e
          · simp [q]
          · have : e = b := by omega
            subst this
            rw [List.getElem?_eq_getElem c] at h0
            simp
            intro z
            exact absurd (by rw [z]) h0
        rw [w]
        simp only [Bool.and_self, if_true]
        simp
        exact ih
      | false =>
        rw [g] at hr
        have : r = e := hr
        rw [this] at k
        simp
        exact k
    · have : e = l.length := by omega
      subst this
      rw [List.drop_length] at hr
      have : r = l.length := hr
      rw [this] at k
      simp
      exact k
theorem c_law_digits {b : Nat} {z : Bool} : ph_law_digits [.dat (.str (T l)), .dat (.int (b : Int)), .dat (.bool z)] μ Q = ((b ≤ l.length ∧ l.length ≤ 600) ∧ Q (.dat (.int (digL l b z : Nat))) μ) := propext ⟨fun ⟨l', b', z', e, h⟩ => by
  obtain ⟨e1, e2⟩ := dr_inj e
  have e3 := K11.T_inj (PyData.str.inj e1)
  have e4 := Int.ofNat.inj (PyData.int.inj (dr_inj e2).1)
  have e5 := PyData.bool.inj (dr_inj (dr_inj e2).2).1
  subst e3 e4 e5
  exact h, fun h => ⟨_, _, _, rfl, h⟩⟩
theorem sl_one {b : Nat} (hl : l.length ≤ 600) (hb : b ≤ l.length) : rSl (.dat (.str (T l))) (some (b : Int)) (some ((b : Nat) + 1 : Int)) μ Q = Q (.dat (.str (T ((l.drop b).take 1)))) μ := by
  show ((T l).length ≤ sizeLine ∧ Q (.dat (.str (cutS (T l) (some (b : Int)) (some ((b : Nat) + 1 : Int))))) μ) = _
  have e : cutS (T l) (some (b : Int)) (some ((b + 1 : Nat) : Int)) = T ((l.drop b).take 1) := by
    unfold cutS
    rw [HT.sIx_nat, HT.sIx_nat]
    show T ((l.drop (min b l.length)).take (min (b + 1) l.length - min b l.length)) = _
    rw [Nat.min_eq_left hb]
    by_cases c : b = l.length
    · subst c
      rw [List.drop_length]
      simp
    · rw [Nat.min_eq_left (by omega), show b + 1 - b = 1 by omega]
  have e' : cutS (T l) (some (b : Int)) (some ((b : Nat) + 1 : Int)) = T ((l.drop b).take 1) := e
  rw [e', K11.len_T]
  exact propext ⟨fun z => z.2, fun z => ⟨Nat.le_trans hl (by decide), z⟩⟩
theorem take1 {b c : Nat} : ((l.drop b).take 1 = [c]) ↔ l[b]? = some c := by
  rw [← List.head?_drop]
  cases l.drop b <;> simp
theorem pu_law_digits : Pure ["text", "begin", "is_nought_let", "end"] 3 ph_law_digits ds_law_digits := by
  intro ss μ Q' hl h
  obtain ⟨l, b, z, rfl, ⟨hb, hl6⟩, h⟩ := h
  have s1 := fun (ν : Mu) (Q : DQ) => sl_one (μ := ν) (Q := Q) hl6 hb
  have s48 : PySem.Str.ofString "0" = T [48] := rfl
  have W : ∀ D ρ ν, dWhile digC (dAsg (dOp DL.rAdd (dVar 3) (dC (.int 1))) 3) D ρ ν → dWhile (dAnd (dTest (dOp wLt (dVar 3) (dCB fLen (aCons (dVar 0) aNil)))) (dAnd (dTest (dOp (wIn id) (dOp DL.rIx (dVar 0) (dVar 3)) (dC (.str (PySem.Str.ofString "0123456789"))))) (dOr (dTest (dOp wGt (dVar 3) (dVar 1))) (dTest (dOp DL.rNe (dOp DL.rIx (dVar 0) (dVar 3)) (dC (.str (PySem.Str.ofString "0")))))))) (dAsg (dOp DL.rAdd (dVar 3) (dC (.int 1))) 3) D ρ ν := fun D ρ ν q => q
  unfold digL at h
  by_cases c : l[b]? = some 48
  · have c' := take1.mpr c
    rw [if_pos c] at h
    cases z with
    | true =>
      rw [if_pos rfl] at h
      simp [ds_law_digits, startD, dSl, oNone, oSome, ↓s1, s48, eqS, c']
      simpa using h
    | false =>
      rw [if_neg Bool.false_ne_true] at h
      simp [ds_law_digits, startD, dSl, oNone, oSome, ↓s1, s48, eqS, c']
      refine W _ _ _ ⟨1, ?_⟩
      show digC _ _ _
      rw [dig_test hl6]
      have hlt := (List.getElem?_eq_some_iff.mp c).1
      have gd : l.getD b 0 = 48 := by
        rw [List.getD_eq_getElem?_getD, c]
        rfl
      rw [gd]
      simp
      exact h
  · have c' : ¬ ((l.drop b).take 1 = [48]) := fun q => c (take1.mp q)
    rw [if_neg c] at h
    simp [ds_law_digits, startD, dSl, oNone, oSome, ↓s1, s48, eqS, c']
    refine W _ _ _ ⟨l.length - b + 1, digL_loop (r := b + ((l.drop b).takeWhile isDg).length) hl6 ?_ c _ b (by omega) (Nat.le_refl _) hb rfl⟩
    simp
    simpa using h
end
end K13
namespace K13
open PySem PySem.Spec PyProof.Rows L2 Evl DL
open WL
open K11 (T rat IsR gcdI Dg isDg digE ratL sgL)
section
variable {μ ν : Mu} {Q : DQ} {n u i j : Int} {l : List Nat} {z y : Str} {d : PyData} {C : Addr} {R : RQF}
theorem sl_any {lo hi : Nat} (hl : l.length ≤ 600) : rSl (.dat (.str (T l))) (some (lo : Int)) (some (hi : Int)) μ Q = Q (.dat (.str (T ((l.drop lo).take (hi - lo))))) μ := by
  show ((T l).length ≤ sizeLine ∧ Q (.dat (.str (cutS (T l) (some (lo : Int)) (some (hi : Int))))) μ) = _
  have e : cutS (T l) (some (lo : Int)) (some (hi : Int)) = T ((l.drop lo).take (hi - lo)) := by
    unfold cutS
    rw [HT.sIx_nat, HT.sIx_nat]
    show T ((l.drop (min lo l.length)).take (min hi l.length - min lo l.length)) = _
    congr 1
    by_cases c : lo ≤ l.length
    · rw [Nat.min_eq_left c]
      by_cases c2 : hi ≤ l.length
      · rw [Nat.min_eq_left c2]
      · rw [Nat.min_eq_right (by omega), List.take_of_length_le (by rw [List.length_drop]; omega), List.take_of_length_le (by rw [List.length_drop]; omega)]
    · rw [show min lo l.length = l.length by omega, List.drop_length, List.drop_eq_nil_iff.mpr (show l.length ≤ lo by omega)]
      simp
  rw [e, K11.len_T]
  exact propext ⟨fun z => z.2, fun z => ⟨Nat.le_trans hl (by decide), z⟩⟩
theorem sl_upto {hi : Nat} (hl : l.length ≤ 600) : rSl (.dat (.str (T l))) none (some (hi : Int)) μ Q = Q (.dat (.str (T (l.take hi)))) μ := by
  have e := sl_any (l := l) (lo := 0) (hi := hi) (μ := μ) (Q := Q) hl
  rw [List.drop_zero, Nat.sub_zero] at e
  exact e
theorem sl_on {lo : Nat} (hl : l.length ≤ 600) : rSl (.dat (.str (T l))) (some (lo : Int)) none μ Q = Q (.dat (.str (T (l.drop lo)))) μ := by
  by_cases c : lo ≤ l.length
  · exact K11.sl_from (by omega) c
  · show ((T l).length ≤ sizeLine ∧ Q (.dat (.str (cutS (T l) (some (lo : Int)) none))) μ) = _
    have e : cutS (T l) (some (lo : Int)) none = T (l.drop lo) := by
      unfold cutS
      rw [HT.sIx_nat, HT.sIx_none]
      show T ((l.drop (min lo l.length)).take (l.length - min lo l.length)) = _
      rw [Nat.min_eq_right (by omega), List.drop_length, List.drop_eq_nil_iff.mpr (by omega)]
      simp
    rw [e, K11.len_T]
    exact propext ⟨fun z => z.2, fun z => ⟨Nat.le_trans hl (by decide), z⟩⟩
def ds_rest : DS := (dSeq (dAsg (dCall 3 ph_law_digits (aCons (dVar 0) (aCons (dVar 1) (aCons (dC (.bool true)) aNil)))) 2)
    (dSeq (dIfS (dTest (dOp DL.rEq (dVar 2) (dVar 1))) (dRet (dTup (aCons (dVar 1) (aCons (dC .none) aNil)))) dNext)
    (dSeq (dAsg (dIf (dTest (dOp DL.rEq (dVar 1) (dC (.int 0)))) (dCB fInt (aCons (dSl (dVar 0) (oSome (dVar 1)) (oSome (dVar 2))) aNil)) (dUn rNeg (dCB fInt (aCons (dSl (dVar 0) (oSome (dVar 1)) (oSome (dVar 2))) aNil)))) 3)
    (dSeq (dIfS (dTest (dOp DL.rEq (dVar 2) (dCB fLen (aCons (dVar 0) aNil)))) (dRet (dTup (aCons (dC .none) (aCons (dTup (aCons (dVar 3) (aCons (dC (.int 1)) aNil))) aNil)))) dNext)
    (dSeq (dIfS (dTest (dOp DL.rNe (dOp DL.rIx (dVar 0) (dVar 2)) (dC (.str (PySem.Str.ofString "/"))))) (dRet (dTup (aCons (dVar 2) (aCons (dC .none) aNil)))) dNext)
    (dSeq (dAsg (dCall 3 ph_law_digits (aCons (dVar 0) (aCons (dOp DL.rAdd (dVar 2) (dC (.int 1))) (aCons (dC (.bool false)) aNil)))) 4)
    (dSeq (dIfS (dOr (dTest (dOp DL.rEq (dVar 4) (dOp DL.rAdd (dVar 2) (dC (.int 1))))) (dTest (dOp wLt (dVar 4) (dCB fLen (aCons (dVar 0) aNil))))) (dRet (dTup (aCons (dVar 4) (aCons (dC .none) aNil)))) dNext)
    (dRet (dTup (aCons (dC .none) (aCons (dCall 2 ph_law_ratio (aCons (dVar 3) (aCons (dCB fInt (aCons (dSl (dVar 0) (oSome (dOp DL.rAdd (dVar 2) (dC (.int 1)))) oNone) aNil)) aNil))) aNil)))))))))))
theorem read_rest {b : Nat} {Q' : DQ} {D : DEnds} (eb : begL l = b) (hl : l.length ≤ 600) (hrt : D.rt = finQ μ.length Q') (h : Q' (.dat (readD l)) μ) :
    ds_rest D [some (.dat (.str (T l))), some (.dat (.int (b : Int))), none, none, none] μ := by
  have ln : ∀ (ν : Mu) (Q : DQ), fLen [.dat (.str (T l))] ν Q = Q (.dat (.int (l.length : Nat))) ν := fun ν Q => K11.o_lenS (by omega)
  have hb : b ≤ l.length := eb ▸ beg_le
  have fP : ∀ p : Nat, rdL l = .inl p → D.rt (.dat (.tuple [.int (p : Nat), .none])) μ := fun p hp => by
    rw [readD, hp] at h
    rw [hrt]
    show Q' _ (μ.take μ.length)
    rw [List.take_length]
    exact h
  have fZ : ∀ z, rdL l = .inr z → D.rt (.dat (.tuple [.none, rat z.1 z.2])) μ := fun z hz => by
    rw [readD, hz] at h
    rw [hrt]
    show Q' _ (μ.take μ.length)
    rw [List.take_length]
    exact h
  have w2 : ∀ {x y : PyData}, [x, y].length ≤ sizeLine := fun {x y} => show 2 ≤ sizeLine by decide
  simp only [ds_rest, e_dSeq, e_dAsg, e_dCall, e_aCons, e_aNil, e_dVar, e_dC, List.getElem?_cons_succ, List.getElem?_cons_zero, List.length_cons, List.length_nil, c_law_digits, digL_t]
  refine ⟨trivial, ⟨hb, hl⟩, ?_⟩
  by_cases c0 : digE l b = b
  · rw [c0]
    have r0 : rdL l = .inl b := by simp [rdL, eb, c0]
    simp [w2]
    exact fP b r0
  · generalize ee : digE l b = e at *
    have hel : e ≤ l.length := ee ▸ digE_le hb
    have hsv := sv_text (l := l) (e := e) (by rw [eb, ee]) (by rw [eb]; exact c0) hl
    have ssv := sv_sm (l := l) (e := e) (by rw [eb, ee]) hl
    have d1 := digs (l := l) (b := b)
    have d2 := digs_ne hb (by rw [ee]; exact c0)
    rw [ee] at d1 d2
    have ii : ∀ (ν : Mu) (Q : DQ), fInt [.dat (.str (T ((l.drop b).take (e - b))))] ν Q = Q (.dat (.int (dv ((l.drop b).take (e - b))))) ν := fun ν Q => fInt_of (int_dv d1 d2 (by rw [List.length_take]; omega)) (by rw [List.length_take]; omega)
    have c0' : ¬ ((e : Int) = (b : Int)) := by omega
    have sl := fun (ν : Mu) (Q : DQ) => sl_any (l := l) (lo := b) (hi := e) (μ := ν) (Q := Q) hl
    have num : ∀ (s3 : Option Sl) (R : DQ), dIf (dTest (dOp DL.rEq (dVar 1) (dC (.int 0)))) (dCB fInt (aCons (dSl (dVar 0) (oSome (dVar 1)) (oSome (dVar 2))) aNil)) (dUn rNeg (dCB fInt (aCons (dSl (dVar 0) (oSome (dVar 1)) (oSome (dVar 2))) aNil))) [some (.dat (.str (T l))), some (.dat (.int (b : Int))), some (.dat (.int (e : Int))), s3, none] μ R = R (.dat (.int (sv l e))) μ := fun s3 R => by
      unfold sv
      by_cases c : l[0]? = some 45
      · have b1 : b = 1 := by rw [← eb]; simp [begL, c]
        subst b1
        rw [if_pos c]
        have sl1 : ∀ (ν : Mu) (Q : DQ), rSl (.dat (.str (T l))) (some (1 : Int)) (some (e : Int)) ν Q = Q (.dat (.str (T ((l.drop 1).take (e - 1))))) ν := sl
        simp [dSl, oSome, ↓sl1, ↓ii, -List.drop_one]
      · have b1 : b = 0 := by rw [← eb]; simp [begL, c]
        subst b1
        rw [if_neg c]
        rw [List.drop_zero, Nat.sub_zero] at ii
        have sl1 : ∀ (ν : Mu) (Q : DQ), rSl (.dat (.str (T l))) (some (0 : Int)) (some (e : Int)) ν Q = Q (.dat (.str (T (l.take e)))) ν := fun ν Q => by
          have := sl ν Q
          rw [List.drop_zero, Nat.sub_zero] at this
          exact this
        simp [dSl, oSome, ↓sl1, ↓ii]
    simp only [e_dSeq, e_dIfS, e_dTest, e_dOp, e_dVar, List.set_cons_succ, List.set_cons_zero, List.getElem?_cons_succ, List.getElem?_cons_zero, o_eqI, c0', decide_false, Bool.false_eq_true, if_false, e_dNext, e_dAsg, num]
    by_cases c1 : e = l.length
    · subst c1
      have r1 : rdL l = .inr (sv l l.length, 1) := by simp [rdL, eb, ee, c0]
      simp [↓ln, w2]
      exact fZ _ r1
    · have hlt : e < l.length := by omega
      have c1' : ¬ ((e : Int) = (l.length : Nat)) := by omega
      have ix : ∀ (ν : Mu) (Q : DQ), DL.rIx (.dat (.str (T l))) (.dat (.int (e : Nat))) ν Q = Q (.dat (.str (T [l[e]]))) ν := fun ν Q => K11.o_ixS (by omega) (List.getElem?_eq_getElem hlt)
      have s47 : PySem.Str.ofString "/" = T [47] := rfl
      simp only [e_dCB, e_aCons, e_aNil, e_dVar, List.getElem?_cons_zero, List.getElem?_cons_succ, ln, o_eqI, c1', decide_false, Bool.false_eq_true, if_false, e_dNext, e_dSeq, e_dIfS, e_dTest, e_dOp, ix, e_dC, s47, neS]
      by_cases c2 : l[e] = 47
      · have le : l[e]? = some 47 := by rw [List.getElem?_eq_getElem hlt, c2]
        have D2 : ∀ (ν : Mu) (Q : DQ), ph_law_digits [.dat (.str (T l)), .dat (.int ((e : Nat) + 1 : Int)), .dat (.bool false)] ν Q = (((e + 1) ≤ l.length ∧ l.length ≤ 600) ∧ Q (.dat (.int (digL l (e + 1) false : Nat))) ν) := fun ν Q => c_law_digits (b := e + 1)
        rw [if_neg (by simpa using c2)]
        simp only [e_dNext, e_dSeq, e_dAsg, e_dCall, e_aCons, e_aNil, e_dVar, e_dC, e_dOp, o_add, List.getElem?_cons_succ, List.getElem?_cons_zero, List.length_cons, List.length_nil, D2, digL_f]
        refine ⟨trivial, ⟨by omega, hl⟩, ?_⟩
        by_cases c3 : l[e + 1]? = some 48
        · have r3 : rdL l = .inl (e + 1) := by simp [rdL, eb, ee, c0, c1, le, c3]
          rw [if_pos c3]
          simp [w2]
          exact fP (e + 1) r3
        · rw [if_neg c3]
          by_cases hf : digE l (e + 1) = e + 1
          · have r4 : rdL l = .inl (e + 1) := by simp [rdL, eb, ee, c0, c1, le, c3, hf]
            rw [hf]
            simp [w2]
            exact fP (e + 1) r4
          · generalize ef : digE l (e + 1) = f at *
            have hf' : ¬ ((f : Int) = (e : Int) + 1) := by omega
            have hfl : f ≤ l.length := ef ▸ digE_le (by omega)
            by_cases c4 : f < l.length
            · have r5 : rdL l = .inl f := by simp [rdL, eb, ee, c0, c1, le, c3, ef, hf, c4]
              simp [↓ln, hf', c4, w2]
              exact fP f r5
            · have r6 : rdL l = .inr (redN (sv l e) (dv (l.drop (e + 1))), redD (sv l e) (dv (l.drop (e + 1)))) := by simp [rdL, eb, ee, c0, c1, le, c3, ef, hf, c4]
              obtain ⟨u1, u2, u3⟩ := under_text hl (by omega) (by rw [ef]; exact hf) c3 (by rw [ef]; exact c4)
              have s2 : ∀ (ν : Mu) (Q : DQ), rSl (.dat (.str (T l))) (some ((e : Nat) + 1 : Int)) none ν Q = Q (.dat (.str (T (l.drop (e + 1))))) ν := fun ν Q => sl_on (l := l) (lo := e + 1) hl
              have i2 : ∀ (ν : Mu) (Q : DQ), fInt [.dat (.str (T (l.drop (e + 1))))] ν Q = Q (.dat (.int (dv (l.drop (e + 1))))) ν := fun ν Q => fInt_of u1 (by rw [List.length_drop]; omega)
              simp [↓ln, hf', c4, dSl, oNone, oSome, ↓s2, ↓i2, c_law_ratio, u2, u3, ssv, w2]
              exact fZ _ r6
      · have r2 : rdL l = .inl e := by simp [rdL, eb, ee, c0, c1, List.getElem?_eq_getElem hlt, c2]
        rw [if_pos (by simpa using c2)]
        simp [w2]
        exact fP e r2
theorem pu_law_read : Pure ["text", "begin", "end", "number", "last"] 1 ph_law_read ds_law_read := by
  intro ss μ Q' hl h
  obtain ⟨l, rfl, hl6, h⟩ := h
  have e : ds_law_read = dSeq (dAsg (dIf (dTest (dOp DL.rEq (dSl (dVar 0) oNone (oSome (dC (.int 1)))) (dC (.str (PySem.Str.ofString "-"))))) (dC (.int 1)) (dC (.int 0))) 1) ds_rest := rfl
  rw [e]
  have s1 := fun (ν : Mu) (Q : DQ) => sl_upto (l := l) (hi := 1) (μ := ν) (Q := Q) hl6
  have s1' : ∀ (ν : Mu) (Q : DQ), rSl (.dat (.str (T l))) none (some (1 : Int)) ν Q = Q (.dat (.str (T (l.take 1)))) ν := s1
  have s45 : PySem.Str.ofString "-" = T [45] := rfl
  have t1 : (l.take 1 = [45]) ↔ l[0]? = some 45 := by
    have := take1 (l := l) (b := 0) (c := 45)
    rwa [List.drop_zero] at this
  by_cases c : l[0]? = some 45
  · have eb : begL l = 1 := by simp [begL, c]
    have := read_rest (μ := μ) (Q' := Q') (D := ⟨fun _ μ' => finQ μ.length Q' (.dat .none) μ', finQ μ.length Q', fun _ _ => False, fun _ _ => False⟩) eb hl6 rfl h
    simp [startD, dSl, oNone, oSome, ↓s1', s45, eqS, t1.mpr c]
    exact this
  · have eb : begL l = 0 := by simp [begL, c]
    have := read_rest (μ := μ) (Q' := Q') (D := ⟨fun _ μ' => finQ μ.length Q' (.dat .none) μ', finQ μ.length Q', fun _ _ => False, fun _ _ => False⟩) eb hl6 rfl h
    have c' : ¬ (l.take 1 = [45]) := fun q => c (t1.mp q)
    simp [startD, dSl, oNone, oSome, ↓s1', s45, eqS, c']
    exact this
end
end K13
namespace DL
open PySem PySem.Spec PyProof.Rows L2 Evl
theorem kin_ofT {K : PySem.W.Frag} {h : Heap} {mg : Str → Option Value} {x f q bn : Str} {st : Stmt} {C B fI : Addr} {Z : Prop} (T : ErrT K mg x f st q C fI) (X : K.In h) (G : h.Ns mainGlobals mg) (aB : PySem.W.nsIn K mainGlobals bn = some (some (.ref B))) (hB : PySem.W.hasDictIn K B = true) (tB : PySem.W.typeIn K (.ref B) = some (.type "type"))
    (sB : PySem.W.subIn K (.ref C) (.ref B) = some true) (neB : (Value.ref C == Value.ref B) = false) (z : Kin K mg bn C B → Z) : Z := kin_of X G aB hB tB neB sB z
end DL
namespace K13
open PySem PySem.Spec PyProof.Rows L2 Evl DL
open WL
open K11 (T rat)
def clsBody : Stmt → List Stmt
  | .ClassDef (body := b) .. => b
  | _ => []
abbrev s_init : Stmt := (clsBody (topS 5)).getD 0 (.Pass ⟨0, 0, 0, 0⟩)
theorem sc_init : FnScope ["self", "position"] ["self", "position"] (defScope s_init) := ⟨rfl, rfl, rfl, by decide +kernel, rfl, by decide +kernel, by decide +kernel⟩
section
variable {P : Program} {w : World} {K : PySem.W.Frag} {mg : Str → Option Value} {base : Heap} {C B fI : Addr}
abbrev Err (K : PySem.W.Frag) (mg : Str → Option Value) (C fI : Addr) : Prop := ErrT K mg "BadText" "position" s_init "BadText.__init__" C fI
theorem init_ok {fd : FuncData} (T : Err K mg C fI) (F : Fun K "__init__" "BadText.__init__" s_init fI fd) : FnOk P w K mg base CX0 1 fI fd ["self", "position"] (spInit K "position" C) :=
  ok_init2 ⟨_, _, rfl⟩ T F sc_init fun cdv A outer s H E => pss_one (ps_ost (pv 0) (pv 1))
theorem ow2_reduced (hm : ∃ f fd, Fun K "reduced" "reduced" s_reduced f fd ∧ mg "reduced" = some (.ref f)) (z_gcd : mg "gcd" = some (.builtin "math.gcd")) (hp : Pure ["number", "under", "divisor"] 2 ph_reduced K11.ds_reduced) : Own P w K mg base "reduced" s_reduced ["number", "under"] 1 2 ph_reduced := by
  obtain ⟨f, fd, F, hf⟩ := hm
  exact ⟨f, fd, F, okD F sc_reduced rfl (fun cdv A outer s H E hr => (pds_cons (pd_set (i := 2) sc_reduced.nd (pd_gcd (pda_cons (pd_var 0) (pda_cons (pd_var 1) pda_nil)) z_gcd))
    (pds_cons (pd_if (pdt_cmp (op_ltW hr.u128) lr_ordW (pd_var 1) pd_int (nomark _)) (pds_one (pd_set (i := 2) sc_reduced.nd (pd_neg (pd_var 2)))) pds_nil)
    (pds_one (pd_ret (pd_tup (pda_cons (pd_dv (pd_var 0) (pd_var 2)) (pda_cons (pd_dv (pd_var 1) (pd_var 2)) pda_nil)))))))) hp, hf⟩
theorem owE_digits_end (hm : ∃ f fd, Fun K "digits_end" "digits_end" s_digits_end f fd ∧ mg "digits_end" = some (.ref f)) (z_len : mg "len" = none) (T : Err K mg C fI) : OwnE P w K mg base "digits_end" s_digits_end ["text", "begin"] 3 2 (phE_digits_end C) := by
  obtain ⟨f, fd, F, hf⟩ := hm
  obtain ⟨fdI, FI⟩ := T.fn
  have G1 : FnOk P w K mg base CX0 1 fI fdI ["self", "position"] (spInit K "position" C) := init_ok T FI
  have b2 : Binds K fdI ["self", "position"] [] := FI.binds (ps := ["self", "position"]) fun _ _ _ _ _ _ us hl => match us, hl with | [_, _], _ => rfl
  refine ⟨f, fd, F, okE F sc_digits_end rfl (fun cdv A outer s H E hr => ?_) puE_digits_end, hf⟩
  have tk : Takes (cxOf (L2.CX P w) P w K mg base ["text", "begin", "end"] "digits_end" (defScope s_digits_end) f cdv A outer s H E) (fun cls d _ H => E cls d H) := takes_of rfl rfl rfl rfl
  exact (pdsx_cons (pdx_of (pd_if (pdt_tru (pd_startswith3 (pd_var 0) pd_str (pd_var 1))) (pds_one (pd_ret (pd_add (pd_var 1) pd_int))) pds_nil))
    (pdsx_cons (pdx_of (pd_set (i := 2) sc_digits_end.nd (pd_var 1)))
    (pdsx_cons (pdx_of (pd_while (passes_of rfl) (PDW.pdt (pdw_and (pdt_cmp (op_ltW hr.u128) lr_ordW (pd_var 2) (pd_len  (pda_cons (pd_var 0) pda_nil) z_len) (nomark _)) (pdw_and1 (pdt_chain (op_leW hr.u128) (op_leW hr.u128) lr_ordW lr_ordW pd_str (pd_ix (pd_var 0) (pd_var 2)) pd_str)))) (pds_one (pd_augAdd (i := 2) sc_digits_end.nd pd_int))))
    (pdsx_cons (pdx_if (pdt_cmp (op_eqV hr.u64) lr_eq (pd_var 2) (pd_var 1) (nomark _)) (pdsx_one (pdx_raise (j := 0) tk T G1 (hr.r.mono (by decide)) b2 (pda_cons (pd_var 2) pda_nil))) pdsx_nil)
    (pdsx_one (pdx_of (pd_ret (pd_var 2))))))))
theorem owE_parse_ratio (hm : ∃ f fd, Fun K "parse_ratio" "parse_ratio" s_parse_ratio f fd ∧ mg "parse_ratio" = some (.ref f)) (z_len : mg "len" = none) (z_int : mg "int" = none) (T : Err K mg C fI) (o_check_text : Own P w K mg base "check_text" s_check_text ["text"] 1 1 K11.ph_check_text) (o_reduced : Own P w K mg base "reduced" s_reduced ["number", "under"] 1 2 ph_reduced) (oE_digits_end : OwnE P w K mg base "digits_end" s_digits_end ["text", "begin"] 3 2 (phE_digits_end C)) :
    OwnE P w K mg base "parse_ratio" s_parse_ratio ["text"] 4 1 (phE_parse_ratio C) := by
  obtain ⟨f, fd, F, hf⟩ := hm
  obtain ⟨fdI, FI⟩ := T.fn
  have G1 : FnOk P w K mg base CX0 1 fI fdI ["self", "position"] (spInit K "position" C) := init_ok T FI
  have b2 : Binds K fdI ["self", "position"] [] := FI.binds (ps := ["self", "position"]) fun _ _ _ _ _ _ us hl => match us, hl with | [_, _], _ => rfl
  refine ⟨f, fd, F, okE F sc_parse_ratio rfl (fun cdv A outer s H E hr => ?_) puE_parse_ratio, hf⟩
  have tk : Takes (cxOf (L2.CX P w) P w K mg base ["text", "begin", "end", "last"] "parse_ratio" (defScope s_parse_ratio) f cdv A outer s H E) (fun cls d _ H => E cls d H) := takes_of rfl rfl rfl rfl
  exact (pdsx_cons (pdx_of (pd_expr (pd_call o_check_text (hr.mono (by decide)) (fun _ _ _ _ _ _ us hl => match us, hl with | [_], _ => rfl) (pda_cons (pd_var 0) pda_nil))))
    (pdsx_cons (pdx_of (pd_set (i := 1) sc_parse_ratio.nd (pd_ifExp (pdt_tru (pd_startswith (pd_var 0) pd_str)) pd_int pd_int)))
    (pdsx_cons (pdx_set (i := 2) sc_parse_ratio.nd (pdx_call tk oE_digits_end (hr.mono (by decide)) (fun _ _ _ _ _ _ us hl => match us, hl with | [_, _], _ => rfl) (pda_cons (pd_var 0) (pda_cons (pd_var 1) pda_nil))))
    (pdsx_cons (pdx_of (pd_if (pdt_cmp (op_eqV hr.u64) lr_eq (pd_var 2) (pd_len  (pda_cons (pd_var 0) pda_nil) z_len) (nomark _)) (pds_one (pd_ret (pd_tup (pda_cons (pd_intc  (pda_cons (pd_var 0) pda_nil) z_int) (pda_cons pd_int pda_nil))))) pds_nil))
    (pdsx_cons (pdx_if (pdt_cmp (op_neV hr.u64) lr_ne (pd_ix (pd_var 0) (pd_var 2)) pd_str (nomark _)) (pdsx_one (pdx_raise (j := 0) tk T G1 (hr.r.mono (by decide)) b2 (pda_cons (pd_var 2) pda_nil))) pdsx_nil)
    (pdsx_cons (pdx_if (pdt_tru (pd_startswith3 (pd_var 0) pd_str (pd_add (pd_var 2) pd_int))) (pdsx_one (pdx_raise (j := 0) tk T G1 (hr.r.mono (by decide)) b2 (pda_cons (pd_add (pd_var 2) pd_int) pda_nil))) pdsx_nil)
    (pdsx_cons (pdx_set (i := 3) sc_parse_ratio.nd (pdx_call tk oE_digits_end (hr.mono (by decide)) (fun _ _ _ _ _ _ us hl => match us, hl with | [_, _], _ => rfl) (pda_cons (pd_var 0) (pda_cons (pd_add (pd_var 2) pd_int) pda_nil))))
    (pdsx_cons (pdx_if (pdt_cmp (op_ltW hr.u128) lr_ordW (pd_var 3) (pd_len  (pda_cons (pd_var 0) pda_nil) z_len) (nomark _)) (pdsx_one (pdx_raise (j := 0) tk T G1 (hr.r.mono (by decide)) b2 (pda_cons (pd_var 3) pda_nil))) pdsx_nil)
    (pdsx_one (pdx_of (pd_ret (pd_call o_reduced (hr.mono (by decide)) (fun _ _ _ _ _ _ us hl => match us, hl with | [_, _], _ => rfl) (pda_cons (pd_intc  (pda_cons (pd_sl (pd_var 0) pdo_none (pdo_some (pd_var 2))) pda_nil) z_int) (pda_cons (pd_intc  (pda_cons (pd_sl (pd_var 0) (pdo_some (pd_add (pd_var 2) pd_int)) pdo_none) pda_nil) z_int) pda_nil))))))))))))))
def ds_law_heard (C : Addr) : DS := dSeq (dAsg (dC .none) 1) (dSeq (dTryE 1 2 1 (phE_parse_ratio C) (aCons (dVar 0) aNil) C pos_ (PySem.Str.ofString "bad")) (dRet (dVar 1)))
theorem pu_law_heard : Pure ["text", "told", "e"] 1 ph_law_heard (ds_law_heard C) := by
  intro ss μ Q' hl h
  obtain ⟨l, rfl, hl6, h⟩ := h
  simp only [ds_law_heard, e_dSeq, e_dAsg, e_dC, startD, dTryE, e_aCons, e_aNil, e_dVar, List.map_cons, List.map_nil, List.length_cons, List.length_nil, List.replicate, List.cons_append, List.nil_append, List.set_cons_succ, List.set_cons_zero, List.getElem?_cons_succ, List.getElem?_cons_zero]
  unfold heardD at h
  refine ⟨by decide, trivial, l, rfl, hl6, fun z hz => ?_, fun p hp => ?_⟩
  · rw [hz] at h
    simp [rat]
    exact h
  · rw [hp] at h
    refine ⟨rfl, rfl, _, rfl, ?_⟩
    simp
    exact h
theorem ow_law_heard (hm : ∃ f fd, Fun K "_law_heard" "_law_heard" s_law_heard f fd ∧ mg "_law_heard" = some (.ref f)) (m_digits_end : ∃ f fd, Fun K "digits_end" "digits_end" s_digits_end f fd ∧ mg "digits_end" = some (.ref f)) (m_parse_ratio : ∃ f fd, Fun K "parse_ratio" "parse_ratio" s_parse_ratio f fd ∧ mg "parse_ratio" = some (.ref f)) (m_reduced : ∃ f fd, Fun K "reduced" "reduced" s_reduced f fd ∧ mg "reduced" = some (.ref f))
    (z_isinstance : mg "isinstance" = none) (z_len : mg "len" = none) (z_int : mg "int" = none) (z_gcd : mg "gcd" = some (.builtin "math.gcd")) (T : Err K mg C fI) (KB : Kin K mg "WayError" C B) (o_check_text : Own P w K mg base "check_text" s_check_text ["text"] 1 1 K11.ph_check_text) :
    Own P w K mg base "_law_heard" s_law_heard ["text"] 5 1 ph_law_heard := by
  have o_reduced : Own P w K mg base "reduced" s_reduced ["number", "under"] 1 2 ph_reduced := ow2_reduced m_reduced z_gcd pu_reduced
  have o := owE_parse_ratio m_parse_ratio z_len z_int T o_check_text o_reduced (owE_digits_end m_digits_end z_len T)
  obtain ⟨f, fd, F, hf⟩ := hm
  exact ⟨f, fd, F, okD F sc_law_heard rfl (fun cdv A outer s H E hr => (pds_cons (pd_set (i := 1) sc_law_heard.nd pd_non) (pds_cons (pd_tryE o T KB (hr.mono (by decide)) (fun _ _ _ _ _ _ us hl => match us, hl with | [_], _ => rfl) (fun pn xe => pa_cons (pv 0) pa_nil) (la_cons (le_var 0) la_nil) sc_law_heard.nd z_isinstance) (pds_one (pd_ret (pd_var 1)))))) pu_law_heard, hf⟩
end
end K13
namespace K13
open PySem PySem.Spec PyProof.Rows L2 Evl DL
open WL
open K11 (T rat IsR gcdI Dg isDg digE ratL sgL)
section
variable {μ ν : Mu} {Q : DQ} {n u i j : Int} {l : List Nat} {z y : Str} {d : PyData} {k : Nat}
theorem pu_law_draw : Pure ["pot", "size", "digit"] 2 WL.ph_law_draw ds_law_draw := draw_gen (c1 := 41143) (c2 := 31643) (m1 := 2147483549) (m2 := 2147483543) (d := 23) (by constructor <;> decide)
theorem pu_law_pot : Pure ["script", "k", "cell"] 2 WL.ph_law_pot ds_law_pot := pot_gen3 (a := 1277) (b := 1013) (c1 := 41801) (c2 := 7411) (c3 := 997) (m1 := 2147483543) (m2 := 2147483549) (by constructor <;> decide)
theorem c_law_bent : ph_law_bent [.cell k, .dat (.str (T l))] μ Q = (Pot μ k ∧ l.length ≤ 300 ∧ ∀ l' μ', l'.length ≤ l.length + 1 → Ch k μ μ' → Q (.dat (.str (T l'))) μ') := propext ⟨fun ⟨_, _, e, h⟩ => by
  obtain ⟨e1, e2⟩ := List.cons.inj e
  have e3 := K11.T_inj (PyData.str.inj (dr_inj e2).1)
  cases e1
  subst e3
  exact h, fun h => ⟨_, _, rfl, h⟩⟩
theorem pu_law_bent : Pure ["pot", "text", "at", "way", "sign"] 2 ph_law_bent ds_law_bent := by
  intro ss μ Q' hl h
  obtain ⟨k, l, rfl, hp, hl1, h⟩ := h
  have hl6 : l.length ≤ 600 := by omega
  have ln : ∀ (ν : Mu) (Q : DQ), fLen [.dat (.str (T l))] ν Q = Q (.dat (.int (l.length : Nat))) ν := fun ν Q => K11.o_lenS (by omega)
  have tk : ∀ ν : Mu, ν.length = μ.length → ν.take μ.length = ν := fun ν e => List.take_of_length_le (by omega)
  simp [ds_law_bent, startD, hp, ↓ln]
  refine fun a ν1 a0 a1 c1 => ⟨by omega, ?_⟩
  have f := fmod_lt (a := a) (b := (l.length : Int) + 1) (by omega)
  generalize a.fmod ((l.length : Int) + 1) = at_ at f
  obtain ⟨at_, rfl⟩ := Int.eq_ofNat_of_zero_le f.1
  refine ⟨c1.1, fun w ν2 w0 w1 c2 => ?_⟩
  have hc := c1.trans c2
  refine ⟨small_sz (by decide), hc.1, fun x ν3 hx c3 => ?_⟩
  have hc3 := hc.trans c3
  have l3 : ν3.length = μ.length := hc3.2.1
  obtain ⟨s, rfl⟩ : ∃ s, x = .str (T [s]) := by
    rcases hx with rfl | rfl | rfl | rfl | rfl | rfl | rfl | rfl | rfl | rfl <;> exact ⟨_, rfl⟩
  have t1 := fun (ν : Mu) (Q : DQ) => sl_upto (l := l) (hi := at_) (μ := ν) (Q := Q) hl6
  have t2 := fun (ν : Mu) (Q : DQ) => sl_on (l := l) (lo := at_) (μ := ν) (Q := Q) hl6
  have t3 : ∀ (ν : Mu) (Q : DQ), rSl (.dat (.str (T l))) (some ((at_ : Nat) + 1 : Int)) none ν Q = Q (.dat (.str (T (l.drop (at_ + 1))))) ν := fun ν Q => sl_on (l := l) (lo := at_ + 1) hl6
  have fin : ∀ l' : List Nat, l'.length ≤ l.length + 1 → finQ μ.length Q' (.dat (.str (T l'))) ν3 := fun l' hl' => by
    show Q' _ (ν3.take μ.length)
    rw [tk _ l3]
    exact h l' ν3 hl' hc3
  by_cases e0 : w = 0
  · subst e0
    simp [dSl, oNone, oSome, ↓t1, ↓t3]
    rw [K11.e_addS (by simp; omega)]
    exact fin _ (by simp; omega)
  by_cases e1 : w = 1
  · subst e1
    simp [dSl, oNone, oSome, ↓t1, ↓t2]
    rw [K11.e_addS (by simp; omega), K11.e_addS (by simp; omega)]
    exact fin _ (by simp; omega)
  by_cases e2 : w = 2
  · subst e2
    simp [dSl, oNone, oSome, ↓t1]
    rw [tk _ l3]
    exact h _ ν3 (by simp; omega) hc3
  · simp [e0, e1, e2, dSl, oNone, oSome, ↓t1, ↓t3]
    rw [K11.e_addS (by simp; omega), K11.e_addS (by simp; omega)]
    exact fin _ (by simp; omega)
theorem c_law_read : ph_law_read [.dat (.str (T l))] μ Q = (l.length ≤ 600 ∧ Q (.dat (readD l)) μ) := propext ⟨fun ⟨_, e, h⟩ => by
  have e3 := K11.T_inj (PyData.str.inj (dr_inj e).1)
  subst e3
  exact h, fun h => ⟨_, rfl, h⟩⟩
theorem c_law_heard : ph_law_heard [.dat (.str (T l))] μ Q = (l.length ≤ 600 ∧ Q (.dat (heardD l)) μ) := propext ⟨fun ⟨_, e, h⟩ => by
  have e3 := K11.T_inj (PyData.str.inj (dr_inj e).1)
  subst e3
  exact h, fun h => ⟨_, rfl, h⟩⟩
theorem c_law_right : ph_law_right [.dat (.str (T l))] μ Q = (l.length ≤ 600 ∧ Q (.dat (.bool true)) μ) := propext ⟨fun ⟨_, e, h⟩ => by
  have e3 := K11.T_inj (PyData.str.inj (dr_inj e).1)
  subst e3
  exact h, fun h => ⟨_, rfl, h⟩⟩
theorem eqv_bad (p : Int) : PyData.eqv (.list [.str (PySem.Str.ofString "bad"), .int p, .bool true]) (.list [.str (PySem.Str.ofString "bad"), .int p, .bool true]) = true := by
  simp [PyData.eqv, PyData.eqvAll]
theorem sh_bad (p : Int) : SeqAt.shaped (.list [.str (PySem.Str.ofString "bad"), .int p, .bool true]) = true := (Sh.list (n := 0) fun x hx => by
  simp only [List.mem_cons, List.not_mem_nil, or_false] at hx
  rcases hx with rfl | rfl | rfl
  · exact ⟨by decide +kernel, by decide +kernel⟩
  · exact .int
  · exact .bool).ok (by decide)
theorem eqv_rat (a b : Int) : PyData.eqv (rat a b) (rat a b) = true := by
  simp [rat, PyData.eqv, PyData.eqvAll]
theorem sh_rat (a b : Int) : SeqAt.shaped (rat a b) = true := (Sh.tup (n := 0) fun x hx => by
  simp only [List.mem_cons, List.not_mem_nil, or_false] at hx
  rcases hx with rfl | rfl <;> exact .int).ok (by decide)
theorem eq_self {ds : List PyData} (h : PyData.eqv (.list ds) (.list ds) = true) (s : SeqAt.shaped (.list ds) = true) : DL.rEq (.dat (.list ds)) (.dat (.list ds)) μ Q = Q (.dat (.bool true)) μ := by
  refine propext ⟨fun z => ?_, fun z => ?_⟩
  · have := z.2
    rw [h] at this
    exact this
  · refine ⟨⟨s, s⟩, ?_⟩
    show Q (.dat (.bool (PyData.eqv (.list ds) (.list ds)))) μ
    rw [h]
    exact z
theorem eq_selfT {ds : List PyData} (h : PyData.eqv (.tuple ds) (.tuple ds) = true) (s : SeqAt.shaped (.tuple ds) = true) : DL.rEq (.dat (.tuple ds)) (.dat (.tuple ds)) μ Q = Q (.dat (.bool true)) μ := by
  refine propext ⟨fun z => ?_, fun z => ?_⟩
  · have := z.2
    rw [h] at this
    exact this
  · refine ⟨⟨s, s⟩, ?_⟩
    show Q (.dat (.bool (PyData.eqv (.tuple ds) (.tuple ds)))) μ
    rw [h]
    exact z
theorem is_n {i : Int} : rIs false (.dat (.int i)) (.dat .none) μ Q = Q (.dat (.bool false)) μ := by first | rfl | simp [rIs]
theorem is_nn : rIs false (.dat .none) (.dat .none) μ Q = Q (.dat (.bool true)) μ := by first | rfl | simp [rIs]
theorem pu_law_right : Pure ["text", "place", "due"] 1 ph_law_right ds_law_right := by
  intro ss μ Q' hl h
  obtain ⟨l, rfl, hl6, h⟩ := h
  cases g : rdL l with
  | inl p =>
    have e1 : readD l = .tuple [.int (p : Nat), .none] := by rw [readD, g]
    have e2 : heardD l = .list [.str (PySem.Str.ofString "bad"), .int (p : Nat), .bool true] := by rw [heardD, g]
    have eq := fun (ν : Mu) (Q : DQ) => eq_self (μ := ν) (Q := Q) (eqv_bad (p : Int)) (sh_bad (p : Int))
    simp [ds_law_right, startD, c_law_read, c_law_heard, hl6, e1, e2, small_sz, ↓eq, is_n]
    exact h
  | inr z =>
    have e1 : readD l = .tuple [.none, rat z.1 z.2] := by rw [readD, g]
    have e2 : heardD l = rat z.1 z.2 := by rw [heardD, g]
    have eq : ∀ (ν : Mu) (Q : DQ), DL.rEq (.dat (rat z.1 z.2)) (.dat (rat z.1 z.2)) ν Q = Q (.dat (.bool true)) ν := fun ν Q => eq_selfT (eqv_rat _ _) (sh_rat _ _)
    simp [ds_law_right, startD, c_law_read, c_law_heard, hl6, e1, e2, small_sz, ↓eq, is_nn]
    exact h
end
end K13
namespace K11
open PySem PySem.Spec PyProof.Rows L2 Evl DL
open WL
open K52 (intsL eq_ints)
section
variable {μ ν : Mu} {Q : DQ} {n u i j a b : Int} {z y : Str} {d : PyData} {k : Nat} {xs : List Int}
instance (n : Int) : Decidable (Dg n) := inferInstanceAs (Decidable (_ < _))
end
end K11
namespace K11
open PySem PySem.Spec PyProof.Rows L2 Evl DL
open WL
section
variable {μ ν : Mu} {Q : DQ} {n u i j a b : Int} {z y : Str} {d : PyData} {k : Nat} {xs : List Int}
theorem kp1 {s : Sl} : kp 0 [0] [] [s] = [s] := rfl
theorem ne_rat : DL.rNe (.dat (rat n u)) (.dat (rat n u)) μ Q = Q (.dat (.bool false)) μ := by
  have e : PyData.eqv (rat n u) (rat n u) = true := by
    simp only [rat, PyData.eqv, PyData.eqvAll, Bool.and_true]
    simp
  refine propext ⟨fun h => ?_, fun h => ?_⟩
  · have h2 := h.2
    rw [e] at h2
    exact h2
  · refine ⟨⟨rfl, rfl⟩, ?_⟩
    show Q (.dat (.bool (!PyData.eqv (rat n u) (rat n u)))) μ
    rw [e]
    exact h
end
end K11
namespace K13
open PySem PySem.Spec PyProof.Rows L2 Evl DL
open WL
open K11 (T rat IsR gcdI Dg isDg digE ratL sgL)
open TL (numL)
section
variable {μ ν : Mu} {Q : DQ} {n u i j : Int} {l : List Nat} {z y : Str} {d : PyData} {k : Nat}
theorem red_isR (hu : 1 ≤ u) : IsR (redN n u) (redD n u) ∧ (redN n u).natAbs ≤ n.natAbs ∧ (redD n u).natAbs ≤ u.natAbs := by
  have gp := gcd_pos (n := n) hu
  have d1 : gcdI n u ∣ n := Int.gcd_dvd_left n u
  have d2 : gcdI n u ∣ u := Int.gcd_dvd_right n u
  obtain ⟨n', hn⟩ := d1
  obtain ⟨u', hu'⟩ := d2
  generalize eg : gcdI n u = g at *
  have g0 : g ≠ 0 := by omega
  have e1 : redN n u = n' := by
    unfold redN
    rw [eg, hn, Int.mul_fdiv_cancel_left _ g0]
  have e2 : redD n u = u' := by
    unfold redD
    rw [eg, hu', Int.mul_fdiv_cancel_left _ g0]
  rw [e1, e2]
  have u1 : 1 ≤ u' := by
    refine Int.not_lt.mp fun z => ?_
    have := Int.mul_nonpos_of_nonneg_of_nonpos (show 0 ≤ g by omega) (show u' ≤ 0 by omega)
    omega
  refine ⟨⟨u1, ?_⟩, ?_, ?_⟩
  · have h1 : gcdI n u = ((g.natAbs * Nat.gcd n'.natAbs u'.natAbs : Nat) : Int) := by
      unfold gcdI
      rw [hn, hu', Int.natAbs_mul, Int.natAbs_mul, Nat.gcd_mul_left]
    rw [eg] at h1
    have h3 := congrArg Int.natAbs h1
    rw [Int.natAbs_natCast] at h3
    have h2 : g.natAbs * Nat.gcd n'.natAbs u'.natAbs = g.natAbs * 1 := by
      rw [Nat.mul_one]
      exact h3.symm
    have := Nat.eq_of_mul_eq_mul_left (by omega : 0 < g.natAbs) h2
    unfold gcdI
    rw [this]
    rfl
  · rw [hn, Int.natAbs_mul]
    exact Nat.le_mul_of_pos_left _ (by omega)
  · rw [hu', Int.natAbs_mul]
    exact Nat.le_mul_of_pos_left _ (by omega)
def Txt6 (d : PyData) : Prop := ∃ l, d = .str (T l) ∧ l.length ≤ 600
theorem txt_of (z : Str) (h : z.cps.toList.length ≤ 600) : Txt6 (.str z) := ⟨z.cps.toList, by rw [show T z.cps.toList = z from TL.mk_tl z], h⟩
def loB : DS := (dIfS (dNot (dTru (dCall 1 ph_law_right (aCons (dVar 3) aNil)))) (dRet (dC (.bool false))) dNext)
theorem lo_loop {D : DEnds} {Cn : Mu → Prop} (hC : ∀ ν, Cn ν) {s0 s1 s2 s4 s5 s6 s7 s8 : Option Sl} (h : ∀ v3, D.nx [s0, s1, s2, v3, s4, s5, s6, s7, s8] μ) : ∀ (ds : List PyData) (v3 : Option Sl), (∀ d ∈ ds, Txt6 d) →
    forD Cn (gN 3) loB D (ds.map .dat) [s0, s1, s2, v3, s4, s5, s6, s7, s8] μ
  | [], v3, _ => ⟨hC _, h v3⟩
  | d :: r, v3, hd => by
    refine ⟨hC _, ?_⟩
    obtain ⟨l, rfl, hl⟩ := hd d (List.mem_cons_self ..)
    have ih := lo_loop hC h r (some (.dat (.str (T l)))) (fun x hx => hd x (List.mem_cons_of_mem _ hx))
    show loB _ _ _
    simp only [loB, e_dIfS, e_dNot, e_dTru, e_dCall, e_aCons, e_aNil, e_dVar, List.set_cons_succ, List.set_cons_zero, List.getElem?_cons_succ, List.getElem?_cons_zero, List.length_cons, List.length_nil, c_law_right]
    refine ⟨trivial, hl, ?_⟩
    simp
    exact ih
def tuB : DS := (dSeq (dPar 5 6 (aCons (dOp DL.rMul (dOp DL.rSub (dCall 2 WL.ph_law_draw (aCons (dVar 1) (aCons (dC (.int 401)) aNil))) (dC (.int 200))) (dCall 2 WL.ph_law_pick (aCons (dVar 1) (aCons (dLst (aCons (dC (.int 1)) (aCons (dC (.int 1)) (aCons (dOp rPw (dC (.int 10)) (dC (.int 9))) aNil)))) aNil)))) (aCons (dOp DL.rAdd (dC (.int 1)) (dCall 2 WL.ph_law_draw (aCons (dVar 1) (aCons (dC (.int 30)) aNil)))) aNil)))
    (dSeq (dPar 7 3 (aCons (dCall 2 ph_law_ratio (aCons (dVar 5) (aCons (dVar 6) aNil))) (aCons (dOp DL.rAdd (dOp DL.rAdd (dCB fStrI (aCons (dVar 5) aNil)) (dC (.str (PySem.Str.ofString "/")))) (dCB fStrI (aCons (dVar 6) aNil))) aNil)))
    (dSeq (dIfS (dOr (dTest (dOp DL.rNe (dCall 1 K11.ph_ratio_text (aCons (dVar 7) aNil)) (dCall 1 ph_law_text (aCons (dVar 7) aNil)))) (dTest (dOp DL.rNe (dCallK 0 [0] 1 K11.ph_parse_ratio aNil (aCons (dCallK 0 [0] 1 K11.ph_ratio_text aNil (aCons (dVar 7) aNil)) aNil)) (dVar 7)))) (dRet (dC (.bool false))) dNext)
    (dSeq (dAsg (dCall 2 ph_law_bent (aCons (dVar 1) (aCons (dVar 3) aNil))) 8)
    (dIfS (dOr (dNot (dTru (dCall 1 ph_law_right (aCons (dVar 3) aNil)))) (dOr (dNot (dTru (dCall 1 ph_law_right (aCons (dVar 8) aNil)))) (dNot (dTru (dCall 1 ph_law_right (aCons (dCall 2 ph_law_bent (aCons (dVar 1) (aCons (dVar 8) aNil))) aNil)))))) (dRet (dC (.bool false))) dNext)))))
def tuC : DS := (dSeq (dPar 7 3 (aCons (dCall 2 ph_law_ratio (aCons (dVar 5) (aCons (dVar 6) aNil))) (aCons (dOp DL.rAdd (dOp DL.rAdd (dCB fStrI (aCons (dVar 5) aNil)) (dC (.str (PySem.Str.ofString "/")))) (dCB fStrI (aCons (dVar 6) aNil))) aNil)))
    (dSeq (dIfS (dOr (dTest (dOp DL.rNe (dCall 1 K11.ph_ratio_text (aCons (dVar 7) aNil)) (dCall 1 ph_law_text (aCons (dVar 7) aNil)))) (dTest (dOp DL.rNe (dCallK 0 [0] 1 K11.ph_parse_ratio aNil (aCons (dCallK 0 [0] 1 K11.ph_ratio_text aNil (aCons (dVar 7) aNil)) aNil)) (dVar 7)))) (dRet (dC (.bool false))) dNext)
    (dSeq (dAsg (dCall 2 ph_law_bent (aCons (dVar 1) (aCons (dVar 3) aNil))) 8)
    (dIfS (dOr (dNot (dTru (dCall 1 ph_law_right (aCons (dVar 3) aNil)))) (dOr (dNot (dTru (dCall 1 ph_law_right (aCons (dVar 8) aNil)))) (dNot (dTru (dCall 1 ph_law_right (aCons (dCall 2 ph_law_bent (aCons (dVar 1) (aCons (dVar 8) aNil))) aNil)))))) (dRet (dC (.bool false))) dNext))))
theorem tu_c {D : DEnds} {s0 s2 s3 s4 s7 s8 : Option Sl} (hm : Pot μ 0) (hn : n.natAbs < 10 ^ 30) (hu : 1 ≤ u ∧ u ≤ 100) (h : ∀ v3 v7 v8 ν, Ch 0 μ ν → D.nx [s0, some (.cell 0), s2, v3, s4, some (.dat (.int n)), some (.dat (.int u)), v7, v8] ν) :
    tuC D [s0, some (.cell 0), s2, s3, s4, some (.dat (.int n)), some (.dat (.int u)), s7, s8] μ := by
  obtain ⟨hr, b1, b2⟩ := red_isR (n := n) hu.1
  have dn : Dg n := Nat.lt_trans hn (by decide)
  have du : Dg u := by
    unfold Dg
    have : u.natAbs ≤ 100 := by omega
    exact Nat.lt_of_le_of_lt this (by decide)
  have dn' : Dg (redN n u) := Nat.lt_of_le_of_lt b1 dn
  have du' : Dg (redD n u) := Nat.lt_of_le_of_lt b2 du
  have sn : Sm 8000 n := Nat.lt_trans hn (by decide +kernel)
  have su : Sm 8000 u := by
    unfold Sm
    have : u.natAbs ≤ 100 := by omega
    exact Nat.lt_of_le_of_lt this (by decide +kernel)
  have s1 := fun (ν : Mu) (Q : DQ) => o_str (μ := ν) (Q := Q) dn
  have s2' := fun (ν : Mu) (Q : DQ) => o_str (μ := ν) (Q := Q) du
  have l1 := K11.dg_len dn
  have l2 := K11.dg_len du
  have l3 := K11.sg_len n
  have l4 := K11.sg_len u
  have e47 : PySem.Str.ofString "/" = T [47] := rfl
  generalize eR : rat (redN n u) (redD n u) = r
  have rt : ∀ (ν : Mu) (Q : DQ), K11.ph_ratio_text [.dat r] ν Q = Q (.dat (.str (T (ratL (redN n u) (redD n u))))) ν := fun ν Q => by
    rw [← eR, K11.c_ratio_text]
    exact propext ⟨fun z => z.2, fun z => ⟨⟨hr, dn', du'⟩, z⟩⟩
  have lt : ∀ (ν : Mu) (Q : DQ), ph_law_text [.dat r] ν Q = Q (.dat (.str (T (ratL (redN n u) (redD n u))))) ν := fun ν Q => by
    rw [← eR, c_law_text]
    exact propext ⟨fun z => z.2, fun z => ⟨⟨hr.1, dn', du'⟩, z⟩⟩
  have pr : ∀ (ν : Mu) (Q : DQ), Q (.dat r) ν → K11.ph_parse_ratio [.dat (.str (T (ratL (redN n u) (redD n u))))] ν Q := fun ν Q q => ⟨_, _, rfl, ⟨hr, dn', du'⟩, by rw [eR]; exact q⟩
  have ne : ∀ (ν : Mu) (Q : DQ), DL.rNe (.dat r) (.dat r) ν Q = Q (.dat (.bool false)) ν := fun ν Q => by
    rw [← eR]
    exact K11.ne_rat
  have lr : ∀ (ν : Mu) (Q : DQ), ph_law_ratio [.dat (.int n), .dat (.int u)] ν Q = Q (.dat r) ν := fun ν Q => by
    rw [c_law_ratio, eR]
    exact propext ⟨fun z => z.2, fun z => ⟨⟨hu.1, sn, su⟩, z⟩⟩
  simp only [tuC, e_dSeq, e_dPar, e_aCons, e_aNil, e_dCall, e_dVar, e_dOp, e_dCB, e_dC, List.getElem?_cons_succ, List.getElem?_cons_zero, List.length_cons, List.length_nil, lr, s1, s2', e47]
  refine ⟨trivial, ?_⟩
  rw [K11.e_addS (by simp; omega), K11.e_addS (by simp; omega)]
  generalize eT : sgL n ++ numL n.natAbs ++ [47] ++ (sgL u ++ numL u.natAbs) = t
  have ht : t.length ≤ 130 := by rw [← eT]; simp; omega
  simp only [List.set_cons_succ, List.set_cons_zero, e_dIfS, e_dOr, e_dTest, e_dOp, e_dCall, e_dCallK, e_aCons, e_aNil, e_dVar, List.getElem?_cons_succ, List.getElem?_cons_zero, List.length_cons, List.length_nil, rt, lt, neS, K11.kp1]
  refine ⟨trivial, trivial, ?_⟩
  rw [if_neg (by simp)]
  refine ⟨trivial, trivial, pr _ _ ?_⟩
  rw [ne]
  dsimp only
  rw [if_neg Bool.false_ne_true]
  simp only [e_dNext, e_dSeq, e_dAsg, e_dCall, e_aCons, e_aNil, e_dVar, List.getElem?_cons_succ, List.getElem?_cons_zero, List.length_cons, List.length_nil, c_law_bent, e_dIfS, e_dOr, e_dNot, e_dTru, List.set_cons_succ, List.set_cons_zero, c_law_right]
  refine ⟨trivial, hm, by omega, fun t2 ν1 h2 c1 => ⟨trivial, by omega, ?_⟩⟩
  have nt : ¬ ((!truD (PyData.bool true)) = true) := by simp [truD]
  simp only [e_rdD]
  refine ⟨trivial, ?_⟩
  rw [if_neg nt]
  refine ⟨trivial, by omega, ?_⟩
  refine ⟨trivial, ?_⟩
  rw [if_neg nt]
  refine ⟨trivial, c1.1, by omega, fun t3 ν2 h3 c2 => ⟨trivial, by omega, trivial, ?_⟩⟩
  rw [if_neg nt]
  exact h _ _ _ ν2 (c1.trans c2)
theorem tu_step {D : DEnds} {s0 s2 v3 s4 v5 v6 v7 v8 : Option Sl} (hp : Pot ν 0) (h : ∀ v3 v5 v6 v7 v8 ν', Ch 0 ν ν' → D.nx [s0, some (.cell 0), s2, v3, s4, v5, v6, v7, v8] ν') : tuB D [s0, some (.cell 0), s2, v3, s4, v5, v6, v7, v8] ν := by
  have e : tuB = dSeq (dPar 5 6 (aCons (dOp DL.rMul (dOp DL.rSub (dCall 2 WL.ph_law_draw (aCons (dVar 1) (aCons (dC (.int 401)) aNil))) (dC (.int 200))) (dCall 2 WL.ph_law_pick (aCons (dVar 1) (aCons (dLst (aCons (dC (.int 1)) (aCons (dC (.int 1)) (aCons (dOp rPw (dC (.int 10)) (dC (.int 9))) aNil)))) aNil)))) (aCons (dOp DL.rAdd (dC (.int 1)) (dCall 2 WL.ph_law_draw (aCons (dVar 1) (aCons (dC (.int 30)) aNil)))) aNil))) tuC := rfl
  rw [e]
  have cp9 : CPow 10 9 := by decide
  simp only [e_dSeq, e_dPar, e_aCons, e_aNil, e_dOp, e_dCall, e_dVar, e_dC, e_dLst, List.set_cons_succ, List.set_cons_zero, List.getElem?_cons_succ, List.getElem?_cons_zero, List.length_cons, List.length_nil, c_law_draw, o_sub, o_pw, e_datsCons, e_datsNil, e_mkF, c_law_pick, o_add]
  refine ⟨trivial, hp, by decide, fun x ν1 x0 x1 c1 => ⟨cp9, sz (by simp), trivial, c1.1, by decide, fun y ν2 hy c2 => ?_⟩⟩
  have key : ∀ w : Int, 1 ≤ w → w ≤ 1000000000 → ∀ q : Int, 0 ≤ q → q < 30 → ∀ ν3, Ch 0 ν2 ν3 → tuC D [s0, some (.cell 0), s2, v3, s4, some (.dat (.int ((x - 200) * w))), some (.dat (.int (1 + q))), v7, v8] ν3 := fun w w0 w1 q q0 q1 ν3 c3 => by
    have hc := c1.trans (c2.trans c3)
    refine tu_c hc.1 ?_ ⟨by omega, by omega⟩ fun v3 v7 v8 ν4 c4 => h _ _ _ _ _ ν4 (hc.trans c4)
    rw [Int.natAbs_mul]
    have h1 : (x - 200).natAbs ≤ 200 := by omega
    have h2 : w.natAbs ≤ 1000000000 := by omega
    exact Nat.lt_of_le_of_lt (Nat.mul_le_mul h1 h2) (by decide)
  have cm : ∀ w : Int, 1 ≤ w → w ≤ 1000000000 → CMulW (x - 200) w := fun w w0 w1 => (show Sm 40 (x - 200) from by unfold Sm; omega).cmul (show Sm 40 w from by unfold Sm; omega) (by decide) (by decide)
  have fin : ∀ w : Int, 1 ≤ w → w ≤ 1000000000 → DL.rMul (.dat (.int (x - 200))) (.dat (.int w)) ν2 fun s_1 μ1 => True ∧ Pot μ1 0 ∧ ((0 : Int) < 30 ∧ (30 : Int) < 2 ^ 100) ∧ ∀ (x : Int) (μ' : Mu), 0 ≤ x → x < 30 → Ch 0 μ1 μ' → tuC D [s0, some (.cell 0), s2, v3, s4, some s_1, some (.dat (.int (1 + x))), v7, v8] μ' := fun w w0 w1 => by
    rw [o_mul]
    exact ⟨cm w w0 w1, trivial, c2.1, by decide, fun q ν3 q0 q1 c3 => key w w0 w1 q q0 q1 ν3 c3⟩
  simp only [List.mem_cons, List.not_mem_nil, or_false] at hy
  rcases hy with rfl | rfl | rfl
  · exact fin 1 (by decide) (by decide)
  · exact fin 1 (by decide) (by decide)
  · exact fin (10 ^ 9) (by decide) (by decide)
theorem tu_loop {D : DEnds} {s0 s2 : Option Sl} (h : ∀ v3 v4 v5 v6 v7 v8 ν, Ch 0 μ ν → D.nx [s0, some (.cell 0), s2, v3, v4, v5, v6, v7, v8] ν) :
    ∀ (l : List Sl) (v3 v4 v5 v6 v7 v8 : Option Sl) (ν : Mu), Ch 0 μ ν → forD (fun _ => True) (gN 4) tuB D l [s0, some (.cell 0), s2, v3, v4, v5, v6, v7, v8] ν
  | [], v3, v4, v5, v6, v7, v8, ν, hc => ⟨trivial, h v3 v4 v5 v6 v7 v8 ν hc⟩
  | s :: r, v3, v4, v5, v6, v7, v8, ν, hc => by
    refine ⟨trivial, ?_⟩
    show tuB _ _ _
    exact tu_step hc.1 fun v3 v5 v6 v7 v8 ν' c => tu_loop h r v3 (some s) v5 v6 v7 v8 ν' (hc.trans c)
theorem pu_law : Pure ["script", "pot", "told", "text", "turn", "number", "under", "ratio", "bent"] 1 ph_law ds_law := by
  intro ss μ Q' hl h
  obtain ⟨ns, hn, rfl, rfl, h⟩ := h
  have wb : ds_law = (dSeq (dAsg (dCall 2 WL.ph_law_pot (aCons (dVar 0) (aCons (dC (.int 0)) aNil))) 1)
    (dSeq (dAsg (dLst (aCons (dC (.str (PySem.Str.ofString ""))) (aCons (dC (.str (PySem.Str.ofString "-"))) (aCons (dC (.str (PySem.Str.ofString "0"))) (aCons (dC (.str (PySem.Str.ofString "-0"))) (aCons (dC (.str (PySem.Str.ofString "00"))) (aCons (dC (.str (PySem.Str.ofString "01"))) (aCons (dC (.str (PySem.Str.ofString "-01"))) (aCons (dC (.str (PySem.Str.ofString "--1"))) (aCons (dC (.str (PySem.Str.ofString "+1"))) (aCons (dC (.str (PySem.Str.ofString "1/"))) (aCons (dC (.str (PySem.Str.ofString "1/0"))) (aCons (dC (.str (PySem.Str.ofString "1/05"))) (aCons (dC (.str (PySem.Str.ofString "0/5"))) (aCons (dC (.str (PySem.Str.ofString "4/2"))) (aCons (dC (.str (PySem.Str.ofString "-4/6"))) (aCons (dC (.str (PySem.Str.ofString "1 /2"))) (aCons (dC (.str (PySem.Str.ofString "1/2 "))) (aCons (dC (.str (PySem.Str.ofString " 1"))) (aCons (dC (.str (PySem.Str.ofString "1/-2"))) aNil)))))))))))))))))))) 2)
    (dSeq (dFor (iSeq (dOp DL.rAdd (dVar 2) (dLst (aCons (dC (.str (PySem.Str.ofString "a"))) (aCons (dC (.str (PySem.Str.ofString "1/2/3"))) (aCons (dC (.str (PySem.Str.ofString "10/100"))) (aCons (dC (.str (PySem.Str.ofString "1/1"))) (aCons (dC (.str (PySem.Str.ofString "/2"))) (aCons (dC (.str (PySem.Str.ofString "-/2"))) (aCons (dC (.str (PySem.Str.ofString "1.5"))) (aCons (dOp rMulS (dC (.str (PySem.Str.ofString "9"))) (dC (.int 30))) (aCons (dC (.str (PySem.Str.ofString "1\n"))) aNil)))))))))))) (gN 3) loB)
    (dSeq (dFor (iRg1 (aCons (dC (.int 8)) aNil)) (gN 4) tuB)
    (dRet (dC (.bool true))))))) := rfl
  rw [wb]
  simp only [e_dSeq, e_dAsg, e_dCall, e_aCons, e_aNil, e_dVar, e_dC, startD, List.map_cons, List.map_nil, List.length_cons, List.length_nil, List.replicate, List.cons_append, List.nil_append, List.getElem?_cons_succ, List.getElem?_cons_zero, c_law_pot]
  refine ⟨trivial, by decide, fun p0 p1 h0 h1 h2 => ?_⟩
  simp only [e_dLst, e_aCons, e_aNil, e_dVar, e_dC, e_dOp, List.getElem?_cons_succ, List.getElem?_cons_zero, e_datsCons, e_datsNil, List.set_cons_succ, List.set_cons_zero, e_mkF]
  refine ⟨sz (by simp), ?_⟩
  have mk9 : MulOk (PySem.Str.ofString "9") 30 := ⟨by decide, fun _ _ => by decide +kernel, fun _ _ => by decide +kernel⟩
  have m9 : ∀ (ν : Mu) (Q : DQ), rMulS (.dat (.str (PySem.Str.ofString "9"))) (.dat (.int 30)) ν Q = Q (.dat (.str (Txt.mul (PySem.Str.ofString "9") 30))) ν := fun ν Q => propext ⟨fun z => z.2, fun z => ⟨mk9, z⟩⟩
  simp only [dFor, iSeq, e_dOp, e_dVar, e_dLst, e_aCons, e_aNil, e_dC, m9, e_datsCons, e_datsNil, List.getElem?_cons_succ, List.getElem?_cons_zero, e_mkF]
  refine ⟨sz (by simp), ?_⟩
  generalize hA : ([PyData.str (PySem.Str.ofString ""), PyData.str (PySem.Str.ofString "-"), PyData.str (PySem.Str.ofString "0"), PyData.str (PySem.Str.ofString "-0"), PyData.str (PySem.Str.ofString "00"), PyData.str (PySem.Str.ofString "01"), PyData.str (PySem.Str.ofString "-01"), PyData.str (PySem.Str.ofString "--1"), PyData.str (PySem.Str.ofString "+1"), PyData.str (PySem.Str.ofString "1/"), PyData.str (PySem.Str.ofString "1/0"), PyData.str (PySem.Str.ofString "1/05"), PyData.str (PySem.Str.ofString "0/5"), PyData.str (PySem.Str.ofString "4/2"), PyData.str (PySem.Str.ofString "-4/6"), PyData.str (PySem.Str.ofString "1 /2"), PyData.str (PySem.Str.ofString "1/2 "), PyData.str (PySem.Str.ofString " 1"), PyData.str (PySem.Str.ofString "1/-2")] : List PyData) = A
  generalize hB : ([PyData.str (PySem.Str.ofString "a"), PyData.str (PySem.Str.ofString "1/2/3"), PyData.str (PySem.Str.ofString "10/100"), PyData.str (PySem.Str.ofString "1/1"), PyData.str (PySem.Str.ofString "/2"), PyData.str (PySem.Str.ofString "-/2"), PyData.str (PySem.Str.ofString "1.5"), PyData.str (Txt.mul (PySem.Str.ofString "9") 30), PyData.str (PySem.Str.ofString "1\n")] : List PyData) = Bs
  have lA : A.length ≤ 19 := by rw [← hA]; simp
  have lB : Bs.length ≤ 9 := by rw [← hB]; simp
  have tA : ∀ d ∈ A, Txt6 d := fun d hd => by
    rw [← hA] at hd
    simp only [List.mem_cons, List.not_mem_nil, or_false] at hd
    rcases hd with rfl | rfl | rfl | rfl | rfl | rfl | rfl | rfl | rfl | rfl | rfl | rfl | rfl | rfl | rfl | rfl | rfl | rfl | rfl <;> exact txt_of _ (by decide +kernel)
  have tB : ∀ d ∈ Bs, Txt6 d := fun d hd => by
    rw [← hB] at hd
    simp only [List.mem_cons, List.not_mem_nil, or_false] at hd
    rcases hd with rfl | rfl | rfl | rfl | rfl | rfl | rfl | rfl | rfl <;> exact txt_of _ (by decide +kernel)
  show A.length + Bs.length ≤ sizeLine ∧ _
  refine ⟨sz (by omega), ?_⟩
  show forD (fun _ => some (PyData.list (A ++ Bs)) = some (PyData.list (A ++ Bs))) (gN 3) loB _ ((A ++ Bs).map .dat) _ _
  have P0 : Pot [Cell.lst [.int p0, .int p1]] 0 := ⟨p0, p1, rfl, h0, h1, h2⟩
  refine lo_loop (fun _ => rfl) (fun v3 => ?_) (A ++ Bs) none fun d hd => (List.mem_append.mp hd).elim (tA d) (tB d)
  have rg : ∀ (D : DEnds) (ρ : Rho) (ν : Mu), forD (fun _ => True) (gN 4) tuB D (rgI 0 8) ρ ν → dFor (iRg1 (aCons (dC (PyData.int 8)) aNil)) (gN 4) tuB D ρ ν := fun D ρ ν z => by
    simp only [dFor, iRg1, e_aCons, e_aNil, e_dC]
    exact ⟨by decide, z⟩
  refine rg _ _ _ (tu_loop (μ := [Cell.lst [.int p0, .int p1]]) (fun v3 v4 v5 v6 v7 v8 ν hc => ?_) (rgI 0 8) v3 none none none none none _ (Ch.refl P0))
  simp
  exact h
end
end K13
namespace K13
open PySem PySem.Spec PyProof.Rows L2 Evl DL
theorem all_law {P : Program} {w : World} {K : PySem.W.Frag} {mg : Str → Option Value} {fa C B fI : Addr} (T : Err K mg C fI) (KB : Kin K mg "WayError" C B) (hfa : mg "law" = some (.ref fa)) (m_is_integer : ∃ f fd, Fun K "is_integer" "is_integer" s_is_integer f fd ∧ mg "is_integer" = some (.ref f)) (m_is_tuple_of : ∃ f fd, Fun K "is_tuple_of" "is_tuple_of" s_is_tuple_of f fd ∧ mg "is_tuple_of" = some (.ref f)) (m_check_text : ∃ f fd, Fun K "check_text" "check_text" s_check_text f fd ∧ mg "check_text" = some (.ref f)) (m_is_ratio : ∃ f fd, Fun K "is_ratio" "is_ratio" s_is_ratio f fd ∧ mg "is_ratio" = some (.ref f)) (m_check_ratio : ∃ f fd, Fun K "check_ratio" "check_ratio" s_check_ratio f fd ∧ mg "check_ratio" = some (.ref f)) (m_reduced : ∃ f fd, Fun K "reduced" "reduced" s_reduced f fd ∧ mg "reduced" = some (.ref f)) (m_ratio_text : ∃ f fd, Fun K "ratio_text" "ratio_text" s_ratio_text f fd ∧ mg "ratio_text" = some (.ref f)) (m_count_text : ∃ f fd, Fun K "count_text" "count_text" s_count_text f fd ∧ mg "count_text" = some (.ref f)) (m_parse_ratio : ∃ f fd, Fun K "parse_ratio" "parse_ratio" s_parse_ratio f fd ∧ mg "parse_ratio" = some (.ref f)) (m_digits_end : ∃ f fd, Fun K "digits_end" "digits_end" s_digits_end f fd ∧ mg "digits_end" = some (.ref f)) (m_law_pot : ∃ f fd, Fun K "_law_pot" "_law_pot" s_law_pot f fd ∧ mg "_law_pot" = some (.ref f)) (m_law_draw : ∃ f fd, Fun K "_law_draw" "_law_draw" s_law_draw f fd ∧ mg "_law_draw" = some (.ref f)) (m_law_pick : ∃ f fd, Fun K "_law_pick" "_law_pick" s_law_pick f fd ∧ mg "_law_pick" = some (.ref f)) (m_law_common : ∃ f fd, Fun K "_law_common" "_law_common" s_law_common f fd ∧ mg "_law_common" = some (.ref f)) (m_law_ratio : ∃ f fd, Fun K "_law_ratio" "_law_ratio" s_law_ratio f fd ∧ mg "_law_ratio" = some (.ref f)) (m_law_text : ∃ f fd, Fun K "_law_text" "_law_text" s_law_text f fd ∧ mg "_law_text" = some (.ref f)) (m_law_digits : ∃ f fd, Fun K "_law_digits" "_law_digits" s_law_digits f fd ∧ mg "_law_digits" = some (.ref f)) (m_law_read : ∃ f fd, Fun K "_law_read" "_law_read" s_law_read f fd ∧ mg "_law_read" = some (.ref f)) (m_law_bent : ∃ f fd, Fun K "_law_bent" "_law_bent" s_law_bent f fd ∧ mg "_law_bent" = some (.ref f)) (m_law_heard : ∃ f fd, Fun K "_law_heard" "_law_heard" s_law_heard f fd ∧ mg "_law_heard" = some (.ref f)) (m_law_right : ∃ f fd, Fun K "_law_right" "_law_right" s_law_right f fd ∧ mg "_law_right" = some (.ref f)) (m_law : ∃ f fd, Fun K "law" "law" s_law f fd ∧ mg "law" = some (.ref f)) (z_abs : mg "abs" = none) (z_bool : mg "bool" = none) (z_divmod : mg "divmod" = none) (z_gcd : mg "gcd" = some (.builtin "math.gcd")) (z_int : mg "int" = none) (z_isinstance : mg "isinstance" = none) (z_len : mg "len" = none) (z_max : mg "max" = none) (z_range : mg "range" = none) (z_str : mg "str" = none) (z_tuple : mg "tuple" = none) :
    ∃ fd : FuncData, (∀ (s : Shared) (u : Value), BindsTo s fd ⟨[u], []⟩ [("script", u)]) ∧ ∀ base : Heap, FnG P w K mg base CX0 7 fa fd ["script"] (SpD K 1 lawF) := by
  obtain ⟨f, fd, F, hf⟩ := m_law
  cases hfa.symm.trans hf
  refine ⟨fd, ?_, fun base => ?_⟩
  · obtain ⟨oc, od, kV, doc, pm, an, cdv, ct, osl, rfl, lk, hcd⟩ := F.ex
    exact fun s v => .of_eq rfl
  have o_is_integer := ow_is_integer (P := P) (w := w) (base := base) m_is_integer z_bool z_int z_isinstance  WL.pu_is_integer
  have o_is_tuple_of := ow_is_tuple_of (P := P) (w := w) (base := base) m_is_tuple_of z_isinstance z_len z_tuple  WL.pu_is_tuple_of
  have o_check_text := ow_check_text (P := P) (w := w) (base := base) m_check_text z_isinstance z_str  K11.pu_check_text
  have o_reduced := ow_reduced (P := P) (w := w) (base := base) m_reduced z_gcd  K11.pu_reduced
  have o_count_text := ow_count_text (P := P) (w := w) (base := base) m_count_text z_divmod z_str  K11.pu_count_text
  have o_digits_end := ow_digits_end (P := P) (w := w) (base := base) m_digits_end z_len  K11.pu_digits_end
  have o_law_pot := ow_law_pot (P := P) (w := w) (base := base) m_law_pot z_abs z_int z_len z_max  pu_law_pot
  have o_law_draw := ow_law_draw (P := P) (w := w) (base := base) m_law_draw z_divmod z_int  pu_law_draw
  have o_law_common := ow_law_common (P := P) (w := w) (base := base) m_law_common z_abs  K11.pu_law_common
  have o_law_text := ow_law_text (P := P) (w := w) (base := base) m_law_text z_str  pu_law_text
  have o_law_digits := ow_law_digits (P := P) (w := w) (base := base) m_law_digits z_len  pu_law_digits
  have o_is_ratio := ow_is_ratio (P := P) (w := w) (base := base) m_is_ratio z_gcd o_is_integer o_is_tuple_of K11.pu_is_ratio
  have o_parse_ratio := ow_parse_ratio (P := P) (w := w) (base := base) m_parse_ratio z_int z_len o_check_text o_reduced o_digits_end K11.pu_parse_ratio
  have o_law_pick := ow_law_pick (P := P) (w := w) (base := base) m_law_pick z_len o_law_draw WL.pu_law_pick
  have o_law_ratio := ow_law_ratio (P := P) (w := w) (base := base) m_law_ratio  o_law_common pu_law_ratio
  have o_check_ratio := ow_check_ratio (P := P) (w := w) (base := base) m_check_ratio  o_is_ratio K11.pu_check_ratio
  have o_law_read := ow_law_read (P := P) (w := w) (base := base) m_law_read z_int z_len o_law_ratio o_law_digits pu_law_read
  have o_law_bent := ow_law_bent (P := P) (w := w) (base := base) m_law_bent z_len o_law_draw o_law_pick pu_law_bent
  have o_ratio_text := ow_ratio_text (P := P) (w := w) (base := base) m_ratio_text z_abs o_check_ratio o_count_text K11.pu_ratio_text
  have o_law_heard := ow_law_heard (P := P) (w := w) (base := base) m_law_heard m_digits_end m_parse_ratio m_reduced z_isinstance z_len z_int z_gcd T KB o_check_text
  have o_law_right := ow_law_right (P := P) (w := w) (base := base) m_law_right  o_law_read o_law_heard pu_law_right
  exact fn_law F z_range z_str o_ratio_text o_parse_ratio o_law_pot o_law_draw o_law_pick o_law_ratio o_law_text o_law_bent o_law_right pu_law
end K13
open PySem PySem.W PyProof.Rows
set_option maxHeartbeats 0 in
theorem PySem.Challenge.cw_wishways_k13_any_text_as_ratio_holds : PySem.Challenge.rw_wishways_k13_any_text_as_ratio.Holds := by
  w_on; o_law; k_head; (case hw => w_witness2)
  k_fill
  refine DL.walkG (l := PySem.Challenge.rw_wishways_k13_any_text_as_ratio) (n := 63) (k := 7) (x := "script") (sp := fun K => DL.SpD K 1 DL.lawF) rfl (by decide) rfl ⟨⟨rfl, by decide, by decide⟩, rfl⟩ (fun w h Y => PySem.W.kIn_of Y) ?F (fun K H a ns hl hS => DL.law_spD K H a ns hl hS)
  case F =>
    intro w mg fa h KX G hmg
    refine' DL.step_of (x := "is_integer") (st := K13.s_is_integer) KX G ?a ?l ?c ?k (fun m_is_integer => ?_)
    (case a => k_is); (case l => k_is); (case c => k_is); (case k => k_is)
    refine' DL.step_of (x := "is_tuple_of") (st := K13.s_is_tuple_of) KX G ?a ?l ?c ?k (fun m_is_tuple_of => ?_)
    (case a => k_is); (case l => k_is); (case c => k_is); (case k => k_is)
    refine' DL.step_of (x := "check_text") (st := K13.s_check_text) KX G ?a ?l ?c ?k (fun m_check_text => ?_)
    (case a => k_is); (case l => k_is); (case c => k_is); (case k => k_is)
    refine' DL.step_of (x := "is_ratio") (st := K13.s_is_ratio) KX G ?a ?l ?c ?k (fun m_is_ratio => ?_)
    (case a => k_is); (case l => k_is); (case c => k_is); (case k => k_is)
    refine' DL.step_of (x := "check_ratio") (st := K13.s_check_ratio) KX G ?a ?l ?c ?k (fun m_check_ratio => ?_)
    (case a => k_is); (case l => k_is); (case c => k_is); (case k => k_is)
    refine' DL.step_of (x := "reduced") (st := K13.s_reduced) KX G ?a ?l ?c ?k (fun m_reduced => ?_)
    (case a => k_is); (case l => k_is); (case c => k_is); (case k => k_is)
    refine' DL.step_of (x := "ratio_text") (st := K13.s_ratio_text) KX G ?a ?l ?c ?k (fun m_ratio_text => ?_)
    (case a => k_is); (case l => k_is); (case c => k_is); (case k => k_is)
    refine' DL.step_of (x := "count_text") (st := K13.s_count_text) KX G ?a ?l ?c ?k (fun m_count_text => ?_)
    (case a => k_is); (case l => k_is); (case c => k_is); (case k => k_is)
    refine' DL.step_of (x := "parse_ratio") (st := K13.s_parse_ratio) KX G ?a ?l ?c ?k (fun m_parse_ratio => ?_)
    (case a => k_is); (case l => k_is); (case c => k_is); (case k => k_is)
    refine' DL.step_of (x := "digits_end") (st := K13.s_digits_end) KX G ?a ?l ?c ?k (fun m_digits_end => ?_)
    (case a => k_is); (case l => k_is); (case c => k_is); (case k => k_is)
    refine' DL.step_of (x := "_law_pot") (st := K13.s_law_pot) KX G ?a ?l ?c ?k (fun m_law_pot => ?_)
    (case a => k_is); (case l => k_is); (case c => k_is); (case k => k_is)
    refine' DL.step_of (x := "_law_draw") (st := K13.s_law_draw) KX G ?a ?l ?c ?k (fun m_law_draw => ?_)
    (case a => k_is); (case l => k_is); (case c => k_is); (case k => k_is)
    refine' DL.step_of (x := "_law_pick") (st := K13.s_law_pick) KX G ?a ?l ?c ?k (fun m_law_pick => ?_)
    (case a => k_is); (case l => k_is); (case c => k_is); (case k => k_is)
    refine' DL.step_of (x := "_law_common") (st := K13.s_law_common) KX G ?a ?l ?c ?k (fun m_law_common => ?_)
    (case a => k_is); (case l => k_is); (case c => k_is); (case k => k_is)
    refine' DL.step_of (x := "_law_ratio") (st := K13.s_law_ratio) KX G ?a ?l ?c ?k (fun m_law_ratio => ?_)
    (case a => k_is); (case l => k_is); (case c => k_is); (case k => k_is)
    refine' DL.step_of (x := "_law_text") (st := K13.s_law_text) KX G ?a ?l ?c ?k (fun m_law_text => ?_)
    (case a => k_is); (case l => k_is); (case c => k_is); (case k => k_is)
    refine' DL.step_of (x := "_law_digits") (st := K13.s_law_digits) KX G ?a ?l ?c ?k (fun m_law_digits => ?_)
    (case a => k_is); (case l => k_is); (case c => k_is); (case k => k_is)
    refine' DL.step_of (x := "_law_read") (st := K13.s_law_read) KX G ?a ?l ?c ?k (fun m_law_read => ?_)
    (case a => k_is); (case l => k_is); (case c => k_is); (case k => k_is)
    refine' DL.step_of (x := "_law_bent") (st := K13.s_law_bent) KX G ?a ?l ?c ?k (fun m_law_bent => ?_)
    (case a => k_is); (case l => k_is); (case c => k_is); (case k => k_is)
    refine' DL.step_of (x := "_law_heard") (st := K13.s_law_heard) KX G ?a ?l ?c ?k (fun m_law_heard => ?_)
    (case a => k_is); (case l => k_is); (case c => k_is); (case k => k_is)
    refine' DL.step_of (x := "_law_right") (st := K13.s_law_right) KX G ?a ?l ?c ?k (fun m_law_right => ?_)
    (case a => k_is); (case l => k_is); (case c => k_is); (case k => k_is)
    refine' DL.step_of (x := "law") (st := K13.s_law) KX G ?a ?l ?c ?k (fun m_law => ?_)
    (case a => k_is); (case l => k_is); (case c => k_is); (case k => k_is)
    have z_abs : mg "abs" = none := by
      refine' PySem.W.mg_none_of KX G ?a
      (case a => k_is)
    have z_bool : mg "bool" = none := by
      refine' PySem.W.mg_none_of KX G ?a
      (case a => k_is)
    have z_divmod : mg "divmod" = none := by
      refine' PySem.W.mg_none_of KX G ?a
      (case a => k_is)
    have z_gcd : mg "gcd" = some (.builtin "math.gcd") := by
      refine' PySem.W.mg_of KX G ?a
      (case a => k_is)
    have z_int : mg "int" = none := by
      refine' PySem.W.mg_none_of KX G ?a
      (case a => k_is)
    have z_isinstance : mg "isinstance" = none := by
      refine' PySem.W.mg_none_of KX G ?a
      (case a => k_is)
    have z_len : mg "len" = none := by
      refine' PySem.W.mg_none_of KX G ?a
      (case a => k_is)
    have z_max : mg "max" = none := by
      refine' PySem.W.mg_none_of KX G ?a
      (case a => k_is)
    have z_range : mg "range" = none := by
      refine' PySem.W.mg_none_of KX G ?a
      (case a => k_is)
    have z_str : mg "str" = none := by
      refine' PySem.W.mg_none_of KX G ?a
      (case a => k_is)
    have z_tuple : mg "tuple" = none := by
      refine' PySem.W.mg_none_of KX G ?a
      (case a => k_is)
    refine' DL.err_of (x := "BadText") (f := "position") (q := "BadText.__init__") (st := K13.s_init) KX G ?aC ?xL ?bm ?sa ?ga ?gg ?nb ?a1 ?t1 ?l1 ?c1 ?kf ?kC ?eC ?tC ?hC ?sC (fun T => ?_)
    (case aC => k_is); (case xL => k_is); (case bm => decide +kernel); (case sa => k_is); (case ga => k_is); (case gg => k_is); (case nb => k_is)
    (case a1 => k_is); (case t1 => k_is); (case l1 => k_is); (case c1 => k_is); (case kf => k_is)
    (case kC => k_is); (case eC => k_is); (case tC => k_is); (case hC => k_is); (case sC => first | rfl | k_is)
    refine' DL.kin_ofT (bn := "WayError") T KX G ?aB ?hB ?tB ?sB ?neB (fun KB => ?_)
    (case aB => k_is); (case hB => k_is); (case tB => k_is); (case sB => k_is); (case neB => first | rfl | decide +kernel | k_is)
    obtain ⟨fd, hb, hF⟩ := K13.all_law T KB hmg m_is_integer m_is_tuple_of m_check_text m_is_ratio m_check_ratio m_reduced m_ratio_text m_count_text m_parse_ratio m_digits_end m_law_pot m_law_draw m_law_pick m_law_common m_law_ratio m_law_text m_law_digits m_law_read m_law_bent m_law_heard m_law_right m_law z_abs z_bool z_divmod z_gcd z_int z_isinstance z_len z_max z_range z_str z_tuple
    exact ⟨fd, hb, fun base _ _ => hF base⟩
