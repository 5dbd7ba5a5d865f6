import PyProof.Rows.All
import Wide.All
import OpenK.AllK
import Wide.FinOn
import HandS.ForMost
import HandS.Lambda
import HandS.Wide
import PyProof.ReprRoads
import PyProof.ReprLen
import PyProof.CallFns
import PyProof.Rows.SortShellAny
import HandS.Zip
import HandS.Ends
import HandS.Base
import HandS.IsInst
import HandS.Style
import HandS.Text
import HandS.Dict
import KE.IntTextLaws
import PyProof.Rows.RegReprOcc
import HandS.DictComp
import HandS.Property
import HandS.Iter
import PyProof.Draws
import HandS.IntHex
import HandS.OwnEq
import HandS.Codes
import HandS.Deep
import HandS.SetKeys
import HandS.Set
import HandS.SortOrd
import HandS.SortInts
import PyProof.Rows.SortKeyStr
import KE.KDictLaws
import HandS.More
import HandS.SetBool
import HandS.SetFor
import HandS.TupSets
import PyProof.SumWalkG
import HandS.RevTup
import HandS.MapObj
import HandS.Rev
import PyProof.ListStr
import PyProof.StrLawsFirst
import PyProof.Rows.StrNews2
import HandS.Small
import KE.KDictZip
import KE.GoesEnum
import KE.GoesMore
import HandS.Star
import HandS.ClsMeth
import PyProof.InstNe
import PyProof.SeqInW
import PyProof.StrLawsIn
import HandS.Words
import KE.KMinBuiltin
import HandS.Replace
import KE.SortData
import HandS.Exc
import HandS.ExcOwn
import HandS.ExcInit
import HandS.ExcField
import HandS.WordsExc
import PyProof.EnumMake
import HandS.DeepEq
import HandS.Evl
import PyProof.Rows.StrIntSpec
import PyProof.FString3
import HandS.StrMore
import HandS.WideBits
import KE.OsArith
import KE.IntBitsLaws
import HandS.Defaults
import PySem.Challenge.RW_standwaves_k68_same_ends
set_option Elab.async false
set_option linter.all false
set_option maxRecDepth 100000
/-! Data upon the hand layer: what values stand for, the state of a def told by data alone. -/
namespace Da
open PySem L2

/-- a text by its codes -/
def mk (s : List Nat) : Str := ⟨s.toArray⟩
theorem mk_cps (s : List Nat) : (mk s).cps.toList = s := rfl
theorem mk_len (s : List Nat) : (mk s).length = s.length := List.size_toArray
theorem mk_inj {s t : List Nat} (h : mk s = mk t) : s = t := by
  have := congrArg (fun x : Str => x.cps.toList) h
  exact this
theorem mk_of (x : Str) : mk x.cps.toList = x := by
  cases x with
  | mk c => rfl
theorem mk_one (c : Nat) : mk [c] = ⟨#[c]⟩ := rfl

/-- what a value stands for -/
inductive D where
  | non
  | bl (b : Bool)
  | int (i : Int)
  | str (s : List Nat)
  | lst (ds : List D)
  | tup (ds : List D)
  | dic (kvs : List (Key × D))
  | obj (C : Addr) (fs : List (Str × D))
  | raw (v : V)
  | rdl (ds : List D)
  | rdd (o : Obj) (kvs : List (Key × D))
  | fn (f : Addr) (vs : List V) (ds : List D)
  deriving Inhabited

mutual
inductive Rp (K : PySem.W.Frag) (H : Hp) : V → D → Prop
  | non : Rp K H .non .non
  | bl (b : Bool) : Rp K H (.bl b) (.bl b)
  | int (i : Int) : Rp K H (.int i) (.int i)
  | str (s : List Nat) : Rp K H (.str (mk s)) (.str s)
  | lst {a : Addr} {xs : List V} {ds : List D} : H a = some (.lst xs) → RpAll K H xs ds → Rp K H (.ref a) (.lst ds)
  | rdl {a : Addr} {xs : List V} {ds : List D} : SqL K H a xs → RpAll K H xs ds → Rp K H (.ref a) (.rdl ds)
  | rdd {a : Addr} {xs : List (Key × V)} {o : Obj} {ds : List (Key × D)} : H a = some (.frz o (.dK xs)) → RpKv K H xs ds → Rp K H (.ref a) (.rdd o ds)
  | fn {f : Addr} {vs : List V} {ds : List D} : RpAll K H vs ds → Rp K H (.ref f) (.fn f vs ds)
  | tup {a : Addr} {xs : List V} {ds : List D} : SqT K H a xs → RpAll K H xs ds → Rp K H (.ref a) (.tup ds)
  | dic {a : Addr} {xs : List (Key × V)} {ds : List (Key × D)} : H a = some (.dK xs) → RpKv K H xs ds → Rp K H (.ref a) (.dic ds)
  | obj {a C dx : Addr} {fs : List (Str × V)} {ds : List (Str × D)} : H a = some (.ins C dx fs) → RpFs K H fs ds → Rp K H (.ref a) (.obj C ds)
  | raw (v : V) : Rp K H v (.raw v)
inductive RpAll (K : PySem.W.Frag) (H : Hp) : List V → List D → Prop
  | nil : RpAll K H [] []
  | cons {v : V} {vs : List V} {d : D} {ds : List D} : Rp K H v d → RpAll K H vs ds → RpAll K H (v :: vs) (d :: ds)
inductive RpKv (K : PySem.W.Frag) (H : Hp) : List (Key × V) → List (Key × D) → Prop
  | nil : RpKv K H [] []
  | cons {k : Key} {v : V} {vs : List (Key × V)} {d : D} {ds : List (Key × D)} : Rp K H v d → RpKv K H vs ds → RpKv K H ((k, v) :: vs) ((k, d) :: ds)
inductive RpFs (K : PySem.W.Frag) (H : Hp) : List (Str × V) → List (Str × D) → Prop
  | nil : RpFs K H [] []
  | cons {k : Str} {v : V} {vs : List (Str × V)} {d : D} {ds : List (Str × D)} : Rp K H v d → RpFs K H vs ds → RpFs K H ((k, v) :: vs) ((k, d) :: ds)
end

/-- the tables of the defs that make lambdas: where each stands, the name of what is made -/
abbrev TB0 := List (Addr × Str) × List (Addr × Str)
class Tbs where
  tabs : TB0
/-- the tables stand, and the code objects that are known -/
def Tbl (T : TB0) (H : Hp) : Prop := LamX.Tabs T.1 H ∧ ∀ p ∈ T.2, H p.1 = some (LamX.CodeO p.1 p.2)
/-- no such table -/
def NT : HO → Prop
  | .tbl _ => False
  | _ => True
theorem NT.no {o : HO} (t : NT o) : ∀ ps, o ≠ .tbl ps := fun ps z => by subst z; exact t
theorem NT.of {o : HO} (t : ∀ ps, o ≠ .tbl ps) : NT o := by
  cases o <;> first | trivial | exact absurd rfl (t _)
/-- all that stands in H stands in H', but for the tables -/
def Sub (H H' : Hp) : Prop := ∀ a o, H a = some o → NT o → H' a = some o
theorem Sub.refl (H : Hp) : Sub H H := fun _ _ e _ => e
theorem Sub.trans {H H1 H2 : Hp} (a : Sub H H1) (b : Sub H1 H2) : Sub H H2 := fun x o e t => b x o (a x o e t) t
/-- .. the tables too -/
def All (H H' : Hp) : Prop := ∀ a o, H a = some o → H' a = some o
theorem All.sub {H H' : Hp} (s : All H H') : Sub H H' := fun a o e _ => s a o e
theorem All.tabs {H H' : Hp} {T : TB0} (s : All H H') (t : Tbl T H) : Tbl T H' := ⟨t.1.ext s, fun p hp => s _ _ (t.2 p hp)⟩
theorem Sub.rd {H H' : Hp} (s : Sub H H') {a : Addr} {u : HO} (h : Rd H a u) (t : NT u) : Rd H' a u := by
  rcases h with h | ⟨o, h⟩
  · exact .inl (s _ _ h t)
  · exact .inr ⟨o, s _ _ h trivial⟩
theorem Sub.l {K : PySem.W.Frag} {H H' : Hp} (s : Sub H H') {a : Addr} {xs : List V} (h : SqL K H a xs) : SqL K H' a xs := by
  rcases h with h | h
  · exact .inl (s.rd h trivial)
  · exact .inr h
theorem Sub.t {K : PySem.W.Frag} {H H' : Hp} (s : Sub H H') {a : Addr} {xs : List V} (h : SqT K H a xs) : SqT K H' a xs := by
  rcases h with h | h
  · exact .inl (s.rd h trivial)
  · exact .inr h

mutual
theorem Rp.mono {K : PySem.W.Frag} {H H' : Hp} (s : Sub H H') : ∀ {v : V} {d : D}, Rp K H v d → Rp K H' v d
  | _, _, .non => .non
  | _, _, .bl b => .bl b
  | _, _, .int i => .int i
  | _, _, .str x => .str x
  | _, _, .lst h r => .lst (s _ _ h trivial) (RpAll.mono s r)
  | _, _, .rdl h r => .rdl (s.l h) (RpAll.mono s r)
  | _, _, .rdd h r => .rdd (s _ _ h trivial) (RpKv.mono s r)
  | _, _, .fn r => .fn (RpAll.mono s r)
  | _, _, .tup h r => .tup (s.t h) (RpAll.mono s r)
  | _, _, .dic h r => .dic (s _ _ h trivial) (RpKv.mono s r)
  | _, _, .obj h r => .obj (s _ _ h trivial) (RpFs.mono s r)
  | _, _, .raw v => .raw v
theorem RpAll.mono {K : PySem.W.Frag} {H H' : Hp} (s : Sub H H') : ∀ {v : List V} {d : List D}, RpAll K H v d → RpAll K H' v d
  | _, _, .nil => .nil
  | _, _, .cons h r => .cons (h.mono s) (r.mono s)
theorem RpKv.mono {K : PySem.W.Frag} {H H' : Hp} (s : Sub H H') : ∀ {v : List (Key × V)} {d : List (Key × D)}, RpKv K H v d → RpKv K H' v d
  | _, _, .nil => .nil
  | _, _, .cons h r => .cons (h.mono s) (r.mono s)
theorem RpFs.mono {K : PySem.W.Frag} {H H' : Hp} (s : Sub H H') : ∀ {v : List (Str × V)} {d : List (Str × D)}, RpFs K H v d → RpFs K H' v d
  | _, _, .nil => .nil
  | _, _, .cons h r => .cons (h.mono s) (r.mono s)
end

section
variable {K : PySem.W.Frag} {H H' : Hp}
theorem RpAll.length : ∀ {vs : List V} {ds : List D}, RpAll K H vs ds → vs.length = ds.length
  | _, _, .nil => rfl
  | _, _, .cons _ r => congrArg (· + 1) r.length
theorem RpAll.get : ∀ {vs : List V} {ds : List D} {i : Nat} {d : D}, RpAll K H vs ds → ds[i]? = some d → ∃ v, vs[i]? = some v ∧ Rp K H v d
  | _, _, _, _, .nil, e => by simp at e
  | _, _, 0, _, .cons h _, e => by simp at e; subst e; exact ⟨_, rfl, h⟩
  | _, _, i + 1, d, .cons _ r, e => by
    obtain ⟨v, h1, h2⟩ := RpAll.get (i := i) r (by simpa using e)
    exact ⟨v, by simpa using h1, h2⟩
theorem RpAll.get' : ∀ {vs : List V} {ds : List D} {i : Nat} {v : V}, RpAll K H vs ds → vs[i]? = some v → ∃ d, ds[i]? = some d ∧ Rp K H v d
  | _, _, _, _, .nil, e => by simp at e
  | _, _, 0, _, .cons h _, e => by simp at e; subst e; exact ⟨_, rfl, h⟩
  | _, _, i + 1, d, .cons _ r, e => by
    obtain ⟨v, h1, h2⟩ := RpAll.get' (i := i) r (by simpa using e)
    exact ⟨v, by simpa using h1, h2⟩
theorem RpAll.append : ∀ {vs ws : List V} {ds es : List D}, RpAll K H vs ds → RpAll K H ws es → RpAll K H (vs ++ ws) (ds ++ es)
  | _, _, _, _, .nil, s => s
  | _, _, _, _, .cons h r, s => .cons h (r.append s)
theorem RpAll.strs : ∀ {vs : List V} {ss : List (List Nat)}, RpAll K H vs (ss.map D.str) → vs = (ss.map mk).map V.str
  | _, [], .nil => rfl
  | _, s :: r, .cons (.str _) t => by rw [RpAll.strs t] <;> rfl
theorem RpAll.of_strs : ∀ (ss : List (List Nat)), RpAll K H ((ss.map mk).map V.str) (ss.map D.str)
  | [] => .nil
  | s :: r => .cons (.str s) (RpAll.of_strs r)
theorem RpAll.ints : ∀ {vs : List V} {ns : List Int}, RpAll K H vs (ns.map D.int) → vs = ns.map V.int
  | _, [], .nil => rfl
  | _, s :: r, .cons (.int _) t => by rw [RpAll.ints t] <;> rfl
theorem RpAll.of_ints : ∀ (ns : List Int), RpAll K H (ns.map V.int) (ns.map D.int)
  | [] => .nil
  | s :: r => .cons (.int s) (RpAll.of_ints r)
theorem RpAll.bls : ∀ {vs : List V} {ns : List Bool}, RpAll K H vs (ns.map D.bl) → vs = ns.map V.bl
  | _, [], .nil => rfl
  | _, s :: r, .cons (.bl _) t => by rw [RpAll.bls t] <;> rfl
theorem RpAll.of_bls : ∀ (ns : List Bool), RpAll K H (ns.map V.bl) (ns.map D.bl)
  | [] => .nil
  | s :: r => .cons (.bl s) (RpAll.of_bls r)
end

/-! ### erasing -/
def era (H : Hp) (E : List Addr) : Hp := fun a => if a ∈ E then none else H a
theorem All.t {K : PySem.W.Frag} {H H' : Hp} (s : All H H') {a : Addr} {xs : List V} (h : SqT K H a xs) : SqT K H' a xs := s.sub.t h
theorem All.l {K : PySem.W.Frag} {H H' : Hp} (s : All H H') {a : Addr} {xs : List V} (h : SqL K H a xs) : SqL K H' a xs := s.sub.l h
theorem era_sub (H : Hp) (E : List Addr) : All (era H E) H := fun a o e => by
  unfold era at e
  split at e
  · cases e
  · exact e
theorem era_in {H : Hp} {E : List Addr} {a : Addr} (h : a ∉ E) : era H E a = H a := if_neg h
theorem era_some {H : Hp} {E : List Addr} {a : Addr} {o : HO} (h : era H E a = some o) : a ∉ E ∧ H a = some o := by
  unfold era at h
  split at h
  · cases h
  · exact ⟨by assumption, h⟩
theorem era_nil (H : Hp) : era H [] = H := by
  funext a
  exact era_in (by simp)
theorem era_mono {H H' : Hp} {E F : List Addr} (s : ∀ a o, a ∉ E → H a = some o → NT o → H' a = some o) (hs : ∀ a, a ∈ F → a ∈ E) : Sub (era H E) (era H' F) := fun a o e t => by
  obtain ⟨n, e⟩ := era_some e
  rw [era_in (fun z => n (hs a z))]
  exact s a o n e t

/-! ### the state of a def, told by data -/
/-- a slot: nothing known, data, or the address of a thing that the def owns -/
inductive Sl where
  | any
  | dat (d : D)
  | own (p : Addr)
/-- a thing that the def owns and may change -/
inductive OD where
  | lst (ds : List D)

/-- the law's bag of draws, its cells at l -/
def BagL (H : Hp) (b l : Addr) : Prop := ∃ (w c i : Int) (ns : List Int), H b = some (.lst [.int w, .int c, .int i, .ref l]) ∧ H l = some (.lst (ns.map V.int)) ∧ 0 ≤ w ∧ 0 ≤ c ∧ c < 2147483647 ∧ 0 ≤ i ∧
    ∀ z ∈ ns, 0 ≤ z
abbrev Bags (B R : List Addr) (H : Hp) : Prop := ∀ b, b ∈ B → ∃ l, l ∈ R ∧ BagL H b l

/-- how an owned thing lies: Hs the heap without the owned -/
def OwnOk (K : PySem.W.Frag) (H Hs : Hp) (p : Addr) : OD → Prop
  | .lst ds => ∃ vs, H p = some (.lst vs) ∧ RpAll K Hs vs ds

abbrev Os := List (Addr × OD)
abbrev ads (os : Os) : List Addr := os.map (·.1)

/-- a thing stays; a table is still there -/
theorem stays {H : Hp} {a : Addr} {o : HO} (e : H a = some o) : (NT o → H a = some o) ∧ H a ≠ none := ⟨fun _ => e, by rw [e]; simp⟩
structure At [Tbs] (K : PySem.W.Frag) (E B : List Addr) (Z : List (List Addr × Hp)) (ss : List Sl) (os : Os) (σ : L2.St) (H : Hp) : Prop where
  len : σ.length = ss.length
  stp : ∀ z, z ∈ Z → ∀ a o, a ∉ z.1 → z.2 a = some o → (NT o → H a = some o) ∧ H a ≠ none
  bag : Bags B E H
  bgo : ∀ z, z ∈ Z → ∀ b, b ∈ B → ∀ l, BagL z.2 b l → BagL H b l
  bE : ∀ b, b ∈ B → b ∈ E
  bW : ∀ z, z ∈ Z → ∀ b, b ∈ B → b ∈ z.1
  slot : ∀ (i : Nat) (d : D), ss[i]? = some (Sl.dat d) → ∃ v, σ[i]? = some (some v) ∧ Rp K (era H (ads os ++ E)) v d
  ownS : ∀ (i : Nat) (p : Addr), ss[i]? = some (Sl.own p) → σ[i]? = some (some (V.ref p))
  own : ∀ p od, (p, od) ∈ os → OwnOk K H (era H (ads os ++ E)) p od
  nd : (ads os).Nodup
  frs : ∀ z, z ∈ Z → ∀ p, p ∈ ads os → p ∈ z.1 ∨ z.2 p = none
  oE : ∀ p, p ∈ ads os → p ∉ E
  ent : ∀ e, e ∈ E → H e ≠ none
  tab : Tbl Tbs.tabs H
end Da
namespace Da
open PySem L2

section
variable [Tbs]
variable {K : PySem.W.Frag} {E B W R : List Addr} {R' : List Addr} {Z : List (List Addr × Hp)} {H0 H H' : Hp} {ss : List Sl} {os : Os} {σ : L2.St}

theorem BagL.mono {b l : Addr} (s : Sub H H') (h : BagL H b l) : BagL H' b l := by
  obtain ⟨w, c, i, ns, e1, e2, r⟩ := h
  exact ⟨w, c, i, ns, s _ _ e1 trivial, s _ _ e2 trivial, r⟩
theorem BagL.there {b l : Addr} (h : BagL H b l) : H b ≠ none := by
  obtain ⟨w, c, i, ns, e1, _⟩ := h
  rw [e1]; simp
/-- a bag's cells are no bag -/
theorem BagL.ne {b l b' l' : Addr} (h : BagL H b l) (h' : BagL H b' l') : l ≠ b' := fun z => by
  obtain ⟨_, _, _, ns, _, e2, _⟩ := h
  obtain ⟨_, _, _, _, e1', _⟩ := h'
  rw [z, e1'] at e2
  have q := congrArg (fun o => match o with | some (HO.lst xs) => xs[3]? | _ => none) e2
  cases h3 : ns[3]? with
  | none => simp [h3] at q
  | some z => simp [h3] at q
theorem OwnOk.mono {Hs Hs' : Hp} {p : Addr} {od : OD} (e : ∀ o, H p = some o → NT o → H' p = some o) (t : Sub Hs Hs') (h : OwnOk K H Hs p od) : OwnOk K H' Hs' p od := by
  cases od with
  | lst ds =>
    obtain ⟨vs, q, r⟩ := h
    exact ⟨vs, e _ q trivial, r.mono t⟩
/-- what an evaluation may do: the bags go on, the rest grows -/
theorem stay_trans {a : Addr} {o : HO} (h : (NT o → H a = some o) ∧ H a ≠ none) (g : ∀ o, H a = some o → (NT o → H' a = some o) ∧ H' a ≠ none) : (NT o → H' a = some o) ∧ H' a ≠ none := by
  refine ⟨fun t => (g o (h.1 t)).1 t, ?_⟩
  cases q : H a with
  | none => exact absurd q h.2
  | some o' => exact (g o' q).2
structure Go (B : List Addr) (H H' : Hp) : Prop where
  stp : ∀ a o, a ∉ B → H a = some o → (NT o → H' a = some o) ∧ H' a ≠ none
  bag : ∀ b, b ∈ B → ∀ l, BagL H b l → BagL H' b l
  tab : Tbl Tbs.tabs H → Tbl Tbs.tabs H'
theorem Go.one (g : Go B H H') {a : Addr} {o : HO} (n : a ∉ B) (e : H a = some o) (t : NT o) : H' a = some o := (g.stp a o n e).1 t
theorem Go.refl : Go B H H := ⟨fun _ _ _ e => stays e, fun _ _ _ e => e, fun t => t⟩
theorem Go.trans {H1 H2 : Hp} (a : Go B H H1) (b : Go B H1 H2) : Go B H H2 :=
  ⟨fun x o n e => stay_trans (a.stp x o n e) fun o e => b.stp x o n e, fun p m l e => b.bag p m l (a.bag p m l e), fun t => b.tab (a.tab t)⟩
theorem Go.of (s : All H H') : Go B H H' := ⟨fun a o _ e => stays (s a o e), fun b _ l h => h.mono s.sub, s.tabs⟩
theorem Go.new {p : Addr} {o : HO} (h : H p = none) : Go B H (upd H p o) := .of fun a u e => by
  rw [upd_ne (ne_of_none e h)]
  exact e
theorem Go.sub {F G : List Addr} (g : Go B H H') (hb : ∀ b, b ∈ B → b ∈ F) (hg : ∀ b, b ∈ G → b ∈ F) : Sub (era H F) (era H' G) :=
  era_mono (fun a o n e t => (g.stp a o (fun z => n (hb _ z)) e).1 t) hg
theorem Go.there {p : Addr} (g : Go B H H') (hB : Bags B R H) (h : H p ≠ none) : H' p ≠ none := by
  by_cases hb : p ∈ B
  · obtain ⟨l, _, h⟩ := hB p hb
    exact (g.bag p hb l h).there
  · cases q : H p with
    | none => exact absurd q h
    | some o => exact (g.stp p o hb q).2
theorem Go.free {p : Addr} (g : Go B H H') (hB : Bags B R H) (h : H' p = none) : H p = none := by
  cases q : H p with
  | none => rfl
  | some o => exact absurd h (g.there hB (by rw [q]; simp))

/-- the kept-away set R: the bags are in it, all of it stands -/
structure Rg (B R : List Addr) (H : Hp) : Prop where
  bE : ∀ b, b ∈ B → b ∈ R
  bag : Bags B R H
  ent : ∀ e, e ∈ R → H e ≠ none
  tab : Tbl Tbs.tabs H
theorem Rg.go (r : Rg B R H) (g : Go B H H') : Rg B R H' := ⟨r.bE, fun b h => let ⟨l, h1, h2⟩ := r.bag b h; ⟨l, h1, g.bag b h l h2⟩, fun e h => g.there r.bag (r.ent e h), g.tab r.tab⟩
theorem Rg.keep {v : V} {d : D} (A : Rg B R H) (g : Go B H H') (r : Rp K (era H R) v d) : Rp K (era H' R) v d := r.mono (g.sub A.bE fun _ h => h)
theorem Rg.keepA {v : List V} {d : List D} (A : Rg B R H) (g : Go B H H') (r : RpAll K (era H R) v d) : RpAll K (era H' R) v d := r.mono (g.sub A.bE fun _ h => h)
theorem Rg.free (A : Rg B R H) (g : Go B H H') {p : Addr} (h : H' p = none) : H p = none := g.free A.bag h
theorem Rg.new (A : Rg B R H) {p : Addr} {o : HO} (h : H p = none) : era (upd H p o) R p = some o := by
  rw [era_in (fun z => A.ent p z h)]
  exact upd_same
theorem Rg.sqL (A : Rg B R H) {p : Addr} {xs : List V} (h : H p = none) : SqL K (era (upd H p (.lst xs)) R) p xs := .inl (.inl (A.new h))
theorem Rg.sqT (A : Rg B R H) {p : Addr} {xs : List V} (h : H p = none) : SqT K (era (upd H p (.tup xs)) R) p xs := .inl (.inl (A.new h))

theorem At.go (A : At K E B Z ss os σ H) (g : Go B H H') : At K E B Z ss os σ H' where
  len := A.len
  stp := fun y hy a o n e => stay_trans (A.stp y hy a o n e) fun o e => g.stp a o (fun z => n (A.bW y hy a z)) e
  bag := fun b h => let ⟨l, h1, h2⟩ := A.bag b h; ⟨l, h1, g.bag b h l h2⟩
  bgo := fun z hz b h l e => g.bag b h l (A.bgo z hz b h l e)
  bE := A.bE
  bW := A.bW
  slot := fun i d h => let ⟨v, h1, h2⟩ := A.slot i d h; ⟨v, h1, h2.mono (g.sub (fun b h => List.mem_append_right _ (A.bE b h)) fun _ h => h)⟩
  ownS := A.ownS
  own := fun p od m => (A.own p od m).mono (fun o e t => g.one (fun z => A.oE p (List.mem_map.mpr ⟨_, m, rfl⟩) (A.bE p z)) e t) (g.sub (fun b h => List.mem_append_right _ (A.bE b h)) fun _ h => h)
  nd := A.nd
  frs := A.frs
  oE := A.oE
  ent := fun e h => g.there A.bag (A.ent e h)
  tab := g.tab A.tab
theorem At.tracked (A : At K E B Z ss os σ H) {p : Addr} (h : p ∈ ads os) : H p ≠ none := by
  obtain ⟨⟨q, od⟩, hm, rfl⟩ := List.mem_map.mp h
  have := A.own q od hm
  cases od with
  | lst ds =>
    obtain ⟨vs, e, _⟩ := this
    rw [e]; simp
/-- what results keep away from: the owned too (m), or not -/
def er (m : Bool) (os : Os) (E : List Addr) : List Addr := match m with
  | true => ads os ++ E
  | false => E
theorem At.rg (A : At K E B Z ss os σ H) (m : Bool) : Rg B (er m os E) H := by
  cases m with
  | false => exact ⟨A.bE, A.bag, A.ent, A.tab⟩
  | true => exact ⟨fun b h => List.mem_append_right _ (A.bE b h), fun b h => let ⟨l, h1, h2⟩ := A.bag b h; ⟨l, List.mem_append_right _ h1, h2⟩, fun e h => (List.mem_append.mp h).elim (fun z => A.tracked z) (fun z => A.ent e z), A.tab⟩
/-- a value that hangs on what is not owned also stands where the owned are seen -/
theorem rp_all {v : V} {d : D} {m : Bool} (h : Rp K (era H (ads os ++ E)) v d) : Rp K (era H (er m os E)) v d := by
  cases m with
  | true => exact h
  | false => exact h.mono (era_mono (fun _ _ _ e _ => e) fun _ h => List.mem_append_right _ h)

/-- a new list: what its items hang on is neither in R nor the list itself -/
def New (K : PySem.W.Frag) (H H' : Hp) (R : List Addr) (v : V) (d : D) : Prop := ∃ p vs ds, v = .ref p ∧ d = .lst ds ∧ H p = none ∧ H' p = some (.lst vs) ∧ RpAll K (era H' (p :: R)) vs ds
theorem New.back {H1 H2 : Hp} {v : V} {d : D} (n : New K H1 H2 R v d) (g : Go B H H1) (hb : Bags B R' H) : New K H H2 R v d := by
  obtain ⟨p, vs, ds, e1, e2, e3, r⟩ := n
  exact ⟨p, vs, ds, e1, e2, g.free hb e3, r⟩
theorem New.laid {p : Addr} {vs : List V} {ds : List D} (A : Rg B R H) (h : H p = none) (r : RpAll K (era H R) vs ds) : New K H (upd H p (.lst vs)) R (.ref p) (.lst ds) :=
  ⟨p, vs, ds, rfl, rfl, h, upd_same, r.mono fun a o e _ => by
    obtain ⟨n, e⟩ := era_some e
    have na : a ≠ p := ne_of_none e h
    rw [era_in (by simp [na, n]), upd_ne na]
    exact e⟩

/-! ### what evaluates -/
/-- e gives a value that stands for some d with P d; F: it is new; m: it hangs on nothing owned -/
def Ev (K : PySem.W.Frag) (E B : List Addr) (m : Bool) (ss : List Sl) (o0 : Os) (F : Bool) (te : TE) (P : D → Prop) : Prop :=
  ∀ (Z : List (List Addr × Hp)) (os : Os) (σ : L2.St) (H : Hp), (∀ x, x ∈ o0 → x ∈ os) → At K E B Z ss os σ H → ∀ Q : VK,
    (∀ v d H', Go B H H' → Rp K (era H' (er m os E)) v d → (F = true → New K H H' (er m os E) v d) → P d → Q v H') → te σ H Q
abbrev EvD (K : PySem.W.Frag) (E B : List Addr) (m : Bool) (ss : List Sl) (o0 : Os) (te : TE) (d : D) : Prop := Ev K E B m ss o0 false te (fun x => x = d)
def EvT (K : PySem.W.Frag) (E B : List Addr) (ss : List Sl) (o0 : Os) (t : TT) (P : Bool → Prop) : Prop :=
  ∀ (Z : List (List Addr × Hp)) (os : Os) (σ : L2.St) (H : Hp), (∀ x, x ∈ o0 → x ∈ os) → At K E B Z ss os σ H → ∀ Q : Bool → Hp → Prop, (∀ b H', Go B H H' → P b → Q b H') → t σ H Q
def EvA (K : PySem.W.Frag) (E B : List Addr) (m : Bool) (ss : List Sl) (o0 : Os) (t : TA) (P : List D → Prop) : Prop :=
  ∀ (Z : List (List Addr × Hp)) (os : Os) (σ : L2.St) (H : Hp), (∀ x, x ∈ o0 → x ∈ os) → At K E B Z ss os σ H → ∀ Q : List V → Hp → Prop,
    (∀ vs ds H', Go B H H' → RpAll K (era H' (er m os E)) vs ds → P ds → Q vs H') → t σ H Q
def EvO (K : PySem.W.Frag) (E B : List Addr) (ss : List Sl) (o0 : Os) (t : TO) (P : Option Int → Prop) : Prop :=
  ∀ (Z : List (List Addr × Hp)) (os : Os) (σ : L2.St) (H : Hp), (∀ x, x ∈ o0 → x ∈ os) → At K E B Z ss os σ H → ∀ Q : Option Int → Hp → Prop, (∀ o H', Go B H H' → P o → Q o H') → t σ H Q

/-! ### operations on data -/
def Op1 (K : PySem.W.Frag) (B : List Addr) (r : V → Hp → VK → Prop) (a : D) (F : Bool) (P : D → Prop) : Prop :=
  ∀ R H v, Rg B R H → Rp K (era H R) v a → ∀ Q : VK, (∀ z d H', Go B H H' → Rp K (era H' R) z d → (F = true → New K H H' R z d) → P d → Q z H') → r v H Q
def Op2 (K : PySem.W.Frag) (B : List Addr) (r : R2) (a b : D) (F : Bool) (P : D → Prop) : Prop :=
  ∀ R H v w, Rg B R H → Rp K (era H R) v a → Rp K (era H R) w b → ∀ Q : VK, (∀ z d H', Go B H H' → Rp K (era H' R) z d → (F = true → New K H H' R z d) → P d → Q z H') → r v w H Q
def OpA (K : PySem.W.Frag) (B : List Addr) (r : List V → Hp → VK → Prop) (as : List D) (F : Bool) (P : D → Prop) : Prop :=
  ∀ R H vs, Rg B R H → RpAll K (era H R) vs as → ∀ Q : VK, (∀ z d H', Go B H H' → Rp K (era H' R) z d → (F = true → New K H H' R z d) → P d → Q z H') → r vs H Q
/-- a method of a built-in: the receiver, the arguments -/
def OpM (K : PySem.W.Frag) (B : List Addr) (r : V → List V → Hp → VK → Prop) (a : D) (as : List D) (F : Bool) (P : D → Prop) : Prop :=
  ∀ R H v vs, Rg B R H → Rp K (era H R) v a → RpAll K (era H R) vs as → ∀ Q : VK, (∀ z d H', Go B H H' → Rp K (era H' R) z d → (F = true → New K H H' R z d) → P d → Q z H') → r v vs H Q

variable {m F : Bool} {o0 : Os} {te ta tb tc : TE} {PA PB P P' : D → Prop}
theorem Ev.imp (h : Ev K E B m ss o0 F te P) (k : ∀ d, P d → P' d) : Ev K E B m ss o0 false te P' :=
  fun Z os σ H i A Q q => h Z os σ H i A Q fun v d H' g r _ p => q v d H' g r (fun z => absurd z (by simp)) (k d p)
theorem Ev.f (h : Ev K E B m ss o0 F te P) : Ev K E B m ss o0 false te P := h.imp fun _ p => p
theorem Ev.impF (h : Ev K E B m ss o0 F te P) (k : ∀ d, P d → P' d) : Ev K E B m ss o0 F te P' :=
  fun Z os σ H i A Q q => h Z os σ H i A Q fun v d H' g r f p => q v d H' g r f (k d p)
/-- flat data hangs on nothing -/
def D.flat : D → Bool
  | .non | .bl _ | .int _ | .str _ | .raw _ => true
  | _ => false
theorem rp_flat {v : V} {d : D} (h : Rp K H v d) (f : d.flat = true) : Rp K H' v d := by
  cases h with
  | non => exact .non
  | bl b => exact .bl b
  | int i => exact .int i
  | str s => exact .str s
  | raw v => exact .raw v
  | lst _ _ => cases f
  | rdl _ _ => cases f
  | rdd _ _ => cases f
  | fn _ => cases f
  | tup _ _ => cases f
  | dic _ _ => cases f
  | obj _ _ => cases f
theorem rpAll_flat : ∀ {vs : List V} {ds : List D}, RpAll K H vs ds → (∀ d ∈ ds, d.flat = true) → RpAll K H' vs ds
  | _, _, .nil, _ => .nil
  | _, _, .cons h r, f => .cons (rp_flat h (f _ List.mem_cons_self)) (rpAll_flat r fun d hd => f d (List.mem_cons_of_mem _ hd))
theorem Ev.flat (h : Ev K E B false ss o0 F te P) (k : ∀ d, P d → d.flat = true) : Ev K E B m ss o0 F te P :=
  fun Z os σ H i A Q q => h Z os σ H i A Q fun v d H' g r f p => q v d H' g (rp_flat r (k d p)) (fun hf => by
    obtain ⟨_, _, _, _, e, _⟩ := f hf
    have := k d p
    rw [e] at this
    cases this) p
theorem ev_var {i : Nat} {d : D} (h : ss[i]? = some (Sl.dat d)) : EvD K E B m ss o0 (tVar i) d :=
  fun Z os σ H _ A Q q => by
    obtain ⟨v, h1, h2⟩ := A.slot i d h
    exact ⟨v, h1, q v d H .refl (rp_all h2) (fun z => absurd z (by simp)) rfl⟩
theorem ev_own {i : Nat} {p : Addr} {ds : List D} (h : ss[i]? = some (Sl.own p)) (ho : (p, OD.lst ds) ∈ o0) : EvD K E B false ss o0 (tVar i) (.lst ds) :=
  fun Z os σ H hi A Q q => by
    have hm := hi _ ho
    obtain ⟨vs, e, r⟩ := A.own p _ hm
    have pE : p ∉ E := A.oE p (List.mem_map.mpr ⟨_, hm, rfl⟩)
    refine ⟨.ref p, A.ownS i p h, q _ _ H .refl (.lst (xs := vs) ?_ (r.mono (era_mono (fun _ _ _ e _ => e) fun _ h => List.mem_append_right _ h))) (fun z => absurd z (by simp)) rfl⟩
    show era H E p = _
    rw [era_in pE]
    exact e
theorem ev_non : EvD K E B m ss o0 (tC .non) .non := fun Z os σ H _ _ Q q => q _ _ H .refl .non (fun z => absurd z (by simp)) rfl
theorem ev_bl {b : Bool} : EvD K E B m ss o0 (tC (.bl b)) (.bl b) := fun Z os σ H _ _ Q q => q _ _ H .refl (.bl b) (fun z => absurd z (by simp)) rfl
theorem ev_int {i : Int} : EvD K E B m ss o0 (tC (.int i)) (.int i) := fun Z os σ H _ _ Q q => q _ _ H .refl (.int i) (fun z => absurd z (by simp)) rfl
theorem ev_str {x : Str} {s : List Nat} (h : x = mk s := by rfl) : EvD K E B m ss o0 (tC (.str x)) (.str s) := fun Z os σ H _ _ Q q => by
  subst h
  exact q _ _ H .refl (.str s) (fun z => absurd z (by simp)) rfl
theorem ev_raw {v : V} : EvD K E B m ss o0 (tC v) (.raw v) := fun Z os σ H _ _ Q q => q _ _ H .refl (.raw v) (fun z => absurd z (by simp)) rfl
theorem ev_op {r : R2} (ha : Ev K E B m ss o0 false ta PA) (hb : Ev K E B m ss o0 false tb PB) (ho : ∀ a b, PA a → PB b → Op2 K B r a b F P) : Ev K E B m ss o0 F (tOp r ta tb) P :=
  fun Z os σ H i A Q q => ha Z os σ H i A _ fun v a H1 g1 r1 _ p1 => hb Z os σ H1 i (A.go g1) _ fun w b H2 g2 r2 _ p2 =>
    ho a b p1 p2 (er m os E) H2 v w (((A.rg m).go g1).go g2) (((A.rg m).go g1).keep g2 r1) r2 Q fun z d H3 g3 r3 f3 p3 => q z d H3 ((g1.trans g2).trans g3) r3
      (fun hf => (f3 hf).back (g1.trans g2) A.bag) p3
theorem ev_op2 {r : R2} {a b : D} (ha : EvD K E B m ss o0 ta a) (hb : EvD K E B m ss o0 tb b) (ho : Op2 K B r a b F P) : Ev K E B m ss o0 F (tOp r ta tb) P :=
  ev_op ha hb fun _ _ e1 e2 => by
    subst e1; subst e2
    exact ho
theorem ev_un {r : V → Hp → VK → Prop} (ha : Ev K E B m ss o0 false ta PA) (ho : ∀ a, PA a → Op1 K B r a F P) : Ev K E B m ss o0 F (tUn r ta) P :=
  fun Z os σ H i A Q q => ha Z os σ H i A _ fun v a H1 g1 r1 _ p1 => ho a p1 (er m os E) H1 v ((A.rg m).go g1) r1 Q fun z d H3 g3 r3 f3 p3 => q z d H3 (g1.trans g3) r3
      (fun hf => (f3 hf).back g1 A.bag) p3
theorem ea_nil : EvA K E B m ss o0 tNil (fun ds => ds = []) := fun Z os σ H _ _ Q q => q [] [] H .refl .nil rfl
theorem ea_cons {tr : TA} {PR : List D → Prop} (ha : Ev K E B m ss o0 false ta PA) (hr : EvA K E B m ss o0 tr PR) : EvA K E B m ss o0 (tCons ta tr) (fun ds => ∃ a r, ds = a :: r ∧ PA a ∧ PR r) :=
  fun Z os σ H i A Q q => ha Z os σ H i A _ fun v a H1 g1 r1 _ p1 => hr Z os σ H1 i (A.go g1) _ fun vs ds H2 g2 r2 p2 =>
    q (v :: vs) (a :: ds) H2 (g1.trans g2) (.cons (((A.rg m).go g1).keep g2 r1) r2) ⟨a, ds, rfl, p1, p2⟩
abbrev EaD (K : PySem.W.Frag) (E B : List Addr) (m : Bool) (ss : List Sl) (o0 : Os) (t : TA) (ds : List D) : Prop := EvA K E B m ss o0 t (fun x => x = ds)
theorem ea_consD {tr : TA} {a : D} {ds : List D} (ha : EvD K E B m ss o0 ta a) (hr : EaD K E B m ss o0 tr ds) : EaD K E B m ss o0 (tCons ta tr) (a :: ds) :=
  fun Z os σ H i A Q q => ea_cons ha hr Z os σ H i A Q fun vs es H' g r p => q vs es H' g r (by
    obtain ⟨x, y, e, e1, e2⟩ := p
    rw [e, e1, e2])
theorem ev_cb {r : List V → Hp → VK → Prop} {t : TA} {PR : List D → Prop} (ha : EvA K E B m ss o0 t PR) (ho : ∀ ds, PR ds → OpA K B r ds F P) : Ev K E B m ss o0 F (tCB r t) P :=
  fun Z os σ H i A Q q => ha Z os σ H i A _ fun vs ds H1 g1 r1 p1 => ho ds p1 (er m os E) H1 vs ((A.rg m).go g1) r1 Q fun z d H3 g3 r3 f3 p3 => q z d H3 (g1.trans g3) r3
      (fun hf => (f3 hf).back g1 A.bag) p3
theorem ev_cb1 {r : List V → Hp → VK → Prop} {a : D} (ha : EvD K E B m ss o0 ta a) (ho : OpA K B r [a] F P) : Ev K E B m ss o0 F (tCB r (tCons ta tNil)) P :=
  ev_cb (ea_consD ha ea_nil) fun ds e => by
    subst e
    exact ho
theorem ev_cbR {r : List V → Hp → VK → Prop} (ha : Ev K E B m ss o0 false ta PA) (ho : ∀ a, PA a → OpA K B r [a] F P) : Ev K E B m ss o0 F (tCB r (tCons ta tNil)) P :=
  ev_cb (ea_cons ha ea_nil) fun ds e => by
    obtain ⟨a, r, rfl, p, rfl⟩ := e
    exact ho a p
/-- tests -/
theorem et_test (h : Ev K E B false ss o0 F te (fun d => ∃ b, d = .bl b ∧ P (.bl b))) : EvT K E B ss o0 (tTest te) (fun b => P (.bl b)) :=
  fun Z os σ H i A Q q => h Z os σ H i A _ fun v d H' g r _ p => by
    obtain ⟨b, rfl, p⟩ := p
    cases r
    exact ⟨b, rfl, q b H' g p⟩
theorem et_testD {b : Bool} (h : EvD K E B false ss o0 te (.bl b)) : EvT K E B ss o0 (tTest te) (fun x => x = b) :=
  fun Z os σ H i A Q q => h Z os σ H i A _ fun v d H' g r _ p => by
    subst p
    cases r
    exact ⟨b, rfl, q b H' g rfl⟩
theorem et_bD {b : Bool} (h : EvD K E B false ss o0 te (.bl b)) : EvT K E B ss o0 (tB te) (fun x => x = b) :=
  fun Z os σ H i A Q q => h Z os σ H i A _ fun v d H' g r _ p => by
    subst p
    cases r
    exact ⟨b, rfl, q b H' g rfl⟩
theorem et_imp {t : TT} {P P' : Bool → Prop} (h : EvT K E B ss o0 t P) (k : ∀ b, P b → P' b) : EvT K E B ss o0 t P' :=
  fun Z os σ H i A Q q => h Z os σ H i A _ fun b H' g p => q b H' g (k b p)
theorem et_not {t : TT} {P : Bool → Prop} (h : EvT K E B ss o0 t P) : EvT K E B ss o0 (tNot t) (fun b => P (!b)) :=
  fun Z os σ H i A Q q => h Z os σ H i A _ fun b H' g p => q (!b) H' g (by show P (!(!b)); rw [Bool.not_not]; exact p)
theorem et_and {t u : TT} {a b : Bool} (h1 : EvT K E B ss o0 t (fun x => x = a)) (h2 : a = true → EvT K E B ss o0 u (fun x => x = b)) : EvT K E B ss o0 (tAnd t u) (fun x => x = (a && b)) :=
  fun Z os σ H i A Q q => h1 Z os σ H i A _ fun x H1 g1 e => by
    subst e
    cases x with
    | true =>
      show u σ H1 Q
      exact h2 rfl Z os σ H1 i (A.go g1) _ fun y H2 g2 e2 => q y H2 (g1.trans g2) (by rw [e2]; rfl)
    | false =>
      show Q false H1
      exact q false H1 g1 rfl
theorem et_or {t u : TT} {a b : Bool} (h1 : EvT K E B ss o0 t (fun x => x = a)) (h2 : a = false → EvT K E B ss o0 u (fun x => x = b)) : EvT K E B ss o0 (tOr t u) (fun x => x = (a || b)) :=
  fun Z os σ H i A Q q => h1 Z os σ H i A _ fun x H1 g1 e => by
    subst e
    cases x with
    | true =>
      show Q true H1
      exact q true H1 g1 rfl
    | false =>
      show u σ H1 Q
      exact h2 rfl Z os σ H1 i (A.go g1) _ fun y H2 g2 e2 => q y H2 (g1.trans g2) (by rw [e2]; rfl)
theorem ev_andV {a b : Bool} (h1 : EvD K E B m ss o0 ta (.bl a)) (h2 : a = true → EvD K E B m ss o0 tb (.bl b)) : EvD K E B m ss o0 (tAndV ta tb) (.bl (a && b)) :=
  fun Z os σ H i A Q q => h1 Z os σ H i A _ fun v d H1 g1 r _ e => by
    subst e
    cases r
    refine ⟨a, rfl, ?_⟩
    cases a with
    | true =>
      show tb σ H1 Q
      exact h2 rfl Z os σ H1 i (A.go g1) _ fun w d H2 g2 r2 f e2 => q w d H2 (g1.trans g2) r2 (fun z => absurd z (by simp)) (by rw [e2]; rfl)
    | false =>
      show Q (.bl false) H1
      exact q _ _ H1 g1 (.bl false) (fun z => absurd z (by simp)) rfl
theorem ev_orV {a b : Bool} (h1 : EvD K E B m ss o0 ta (.bl a)) (h2 : a = false → EvD K E B m ss o0 tb (.bl b)) : EvD K E B m ss o0 (tOrV ta tb) (.bl (a || b)) :=
  fun Z os σ H i A Q q => h1 Z os σ H i A _ fun v d H1 g1 r _ e => by
    subst e
    cases r
    refine ⟨a, rfl, ?_⟩
    cases a with
    | false =>
      show tb σ H1 Q
      exact h2 rfl Z os σ H1 i (A.go g1) _ fun w d H2 g2 r2 f e2 => q w d H2 (g1.trans g2) r2 (fun z => absurd z (by simp)) (by rw [e2]; rfl)
    | true =>
      show Q (.bl true) H1
      exact q _ _ H1 g1 (.bl true) (fun z => absurd z (by simp)) rfl
theorem ev_notV {a : Bool} (h1 : EvD K E B m ss o0 ta (.bl a)) : EvD K E B m ss o0 (tNotV ta) (.bl (!a)) :=
  fun Z os σ H i A Q q => h1 Z os σ H i A _ fun v d H1 g1 r _ e => by
    subst e
    cases r
    exact ⟨a, rfl, q _ _ H1 g1 (.bl _) (fun z => absurd z (by simp)) rfl⟩
theorem ev_if {t : TT} {T : Bool → Prop} (h : EvT K E B ss o0 t T) (h1 : T true → Ev K E B m ss o0 F ta P) (h2 : T false → Ev K E B m ss o0 F tb P) : Ev K E B m ss o0 F (tIf t ta tb) P :=
  fun Z os σ H i A Q q => h Z os σ H i A _ fun b H1 g1 p => by
    cases b with
    | true =>
      show ta σ H1 Q
      exact h1 p Z os σ H1 i (A.go g1) _ fun v d H2 g2 r f pd => q v d H2 (g1.trans g2) r (fun hf => (f hf).back g1 A.bag) pd
    | false =>
      show tb σ H1 Q
      exact h2 p Z os σ H1 i (A.go g1) _ fun v d H2 g2 r f pd => q v d H2 (g1.trans g2) r (fun hf => (f hf).back g1 A.bag) pd
/-- displays -/
theorem ev_lst {t : TA} {PR : List D → Prop} (h : EvA K E B m ss o0 t PR) (hz : ∀ ds, PR ds → ds.length ≤ 1000) : Ev K E B m ss o0 true (tLst t) (fun d => ∃ ds, d = .lst ds ∧ PR ds) :=
  fun Z os σ H i A Q q => h Z os σ H i A _ fun vs ds H1 g1 r p => ⟨by rw [r.length]; exact Nat.le_trans (hz ds p) (by decide), fun a na =>
    q _ _ _ (g1.trans (.new na)) (.lst (((A.rg m).go g1).new na) (r.mono (era_mono (fun x o _ e _ => by rw [upd_ne (ne_of_none e na)]; exact e) fun _ h => h))) (fun _ => (New.laid ((A.rg m).go g1) na r).back g1 A.bag) ⟨ds, rfl, p⟩⟩
theorem ev_lstD {t : TA} {ds : List D} (h : EaD K E B m ss o0 t ds) (hz : ds.length ≤ 1000 := by decide) : Ev K E B m ss o0 true (tLst t) (fun d => d = .lst ds) :=
  (ev_lst h fun _ e => by rw [e]; exact hz).impF fun d ⟨_, e, e2⟩ => by rw [e, e2]
theorem ev_tup {t : TA} {PR : List D → Prop} (h : EvA K E B m ss o0 t PR) (hz : ∀ ds, PR ds → ds.length ≤ 1000) : Ev K E B m ss o0 false (tTup t) (fun d => ∃ ds, d = .tup ds ∧ PR ds) :=
  fun Z os σ H i A Q q => h Z os σ H i A _ fun vs ds H1 g1 r p => ⟨by rw [r.length]; exact Nat.le_trans (hz ds p) (by decide), fun a na =>
    q _ _ _ (g1.trans (.new na)) (.tup (((A.rg m).go g1).sqT na) (r.mono (era_mono (fun x o _ e _ => by rw [upd_ne (ne_of_none e na)]; exact e) fun _ h => h))) (fun z => absurd z (by simp)) ⟨ds, rfl, p⟩⟩
theorem ev_tupD {t : TA} {ds : List D} (h : EaD K E B m ss o0 t ds) (hz : ds.length ≤ 1000 := by decide) : Ev K E B m ss o0 false (tTup t) (fun d => d = .tup ds) :=
  (ev_tup h fun _ e => by rw [e]; exact hz).impF fun d ⟨_, e, e2⟩ => by rw [e, e2]
/-- slices' parts -/
theorem eo_none : EvO K E B ss o0 tNoPart (fun o => o = none) := fun Z os σ H _ _ Q q => q none H .refl rfl
theorem eo_some {PI : D → Prop} (h : Ev K E B false ss o0 F te PI) (hi : ∀ d, PI d → ∃ i, d = .int i) : EvO K E B ss o0 (tPart te) (fun o => ∃ i, o = some i ∧ PI (.int i)) :=
  fun Z os σ H i A Q q => h Z os σ H i A _ fun v d H' g r _ p => by
    obtain ⟨j, rfl⟩ := hi d p
    cases r
    exact ⟨j, rfl, q _ H' g ⟨j, rfl, p⟩⟩
theorem eo_someD {j : Int} (h : EvD K E B false ss o0 te (.int j)) : EvO K E B ss o0 (tPart te) (fun o => o = some j) :=
  fun Z os σ H i A Q q => h Z os σ H i A _ fun v d H' g r _ p => by
    subst p
    cases r
    exact ⟨j, rfl, q _ H' g rfl⟩
/-! ### calls of defs -/
/-- the bag that a def is handed -/
def bagsOf (w : Bool) (ds : List D) : List Addr := match w, ds with
  | true, .raw (.ref b) :: _ => [b]
  | _, _ => []
/-- a promise in terms of data: w: the first argument is the bag -/
def SpX (K : PySem.W.Frag) (w : Bool) (pre : List D → Prop) (F : Bool) (post : List D → D → Prop) : Sp := fun vs H Q _ => ∃ R ds, Rg (bagsOf w ds) R H ∧ RpAll K (era H R) vs ds ∧ pre ds ∧
  ∀ v d H', Go (bagsOf w ds) H H' → Rp K (era H' R) v d → (F = true → New K H H' R v d) → post ds d → Q v H'
/-- the call's reading -/
theorem ev_call {pre : List D → Prop} {post : List D → D → Prop} {w : Bool} {X : XK} {t : TA} {PR : List D → Prop} (ha : EvA K E B m ss o0 t PR) (hp : ∀ ds, PR ds → pre ds ∧ (∀ b, b ∈ bagsOf w ds → b ∈ B) ∧ ∀ d, post ds d → P d) :
    Ev K E B m ss o0 F (tCall (SpX K w pre F post) [] X t) P :=
  fun Z os σ H i A Q q => ha Z os σ H i A _ fun vs ds H1 g1 r1 p1 => by
    obtain ⟨h1, h2, h3⟩ := hp ds p1
    have rg := (A.rg m).go g1
    show SpX K w pre F post (vs ++ []) H1 Q X
    rw [List.append_nil]
    refine ⟨er m os E, ds, ⟨fun b hb => rg.bE b (h2 b hb), fun b hb => rg.bag b (h2 b hb), rg.ent, rg.tab⟩, r1, h1, fun v d H' g r f p => ?_⟩
    have gB : Go B H1 H' := ⟨fun a o n e => g.stp a o (fun z => n (h2 a z)) e, fun b hb l hg => by
      by_cases hw : b ∈ bagsOf w ds
      · exact g.bag b hw l hg
      · have hl : l ∉ bagsOf w ds := fun z => by
          obtain ⟨l', _, h'⟩ := rg.bag l (h2 l z)
          exact hg.ne h' rfl
        obtain ⟨x, c, k, ns, e1, e2, rr⟩ := hg
        exact ⟨x, c, k, ns, g.one hw e1 trivial, g.one hl e2 trivial, rr⟩, g.tab⟩
    exact q v d H' (g1.trans gB) r (fun hf => (f hf).back g1 A.bag) (h3 d p)
theorem ev_callD {pre : List D → Prop} {post : List D → D → Prop} {w : Bool} {X : XK} {t : TA} {ds : List D} (ha : EaD K E B m ss o0 t ds) (h1 : pre ds) (h2 : (∀ b, b ∈ bagsOf w ds → b ∈ B)) (h3 : ∀ d, post ds d → P d) :
    Ev K E B m ss o0 F (tCall (SpX K w pre F post) [] X t) P := ev_call ha fun x e => by
  subst e
  exact ⟨h1, h2, h3⟩
end
end Da
namespace Da
open PySem L2
variable [Tbs]

section
variable {K : PySem.W.Frag} {E B W R : List Addr} {Z : List (List Addr × Hp)} {H0 H H' : Hp} {ss : List Sl} {os : Os} {σ : L2.St} {m F : Bool} {o0 : Os} {te ta tb tc : TE} {PA PB P P' : D → Prop}

/-! ### operations -/
theorem o_I0 {g : Int → Int → V} {d : Int → Int → D} {i j : Int} (h : ∀ i j H, Rp K H (g i j) (d i j)) : Op2 K B (rI0 g) (.int i) (.int j) false (fun x => x = d i j) := fun R H v w _ r1 r2 Q q => by
  cases r1; cases r2
  exact ⟨i, j, rfl, rfl, q _ _ H .refl (h i j _) (fun z => absurd z (by simp)) rfl⟩
theorem o_I {C : Int → Int → Prop} {g : Int → Int → V} {d : Int → Int → D} {i j : Int} (h : ∀ i j H, Rp K H (g i j) (d i j)) (c : C i j) : Op2 K B (rI C g) (.int i) (.int j) false (fun x => x = d i j) := fun R H v w _ r1 r2 Q q => by
  cases r1; cases r2
  exact ⟨i, j, rfl, rfl, c, q _ _ H .refl (h i j _) (fun z => absurd z (by simp)) rfl⟩
theorem o_add {i j : Int} : Op2 K B (rI0 fun i j => .int (i + j)) (.int i) (.int j) false (fun x => x = .int (i + j)) := o_I0 (d := fun i j => .int (i + j)) fun i j H => .int _
theorem o_sub {i j : Int} : Op2 K B (rI0 fun i j => .int (i - j)) (.int i) (.int j) false (fun x => x = .int (i - j)) := o_I0 (d := fun i j => .int (i - j)) fun i j H => .int _
theorem o_mul {C : Int → Int → Prop} {i j : Int} (c : C i j) : Op2 K B (rI C fun i j => .int (i * j)) (.int i) (.int j) false (fun x => x = .int (i * j)) := o_I (d := fun i j => .int (i * j)) (fun i j H => .int _) c
theorem o_div {C : Int → Int → Prop} {i j : Int} (c : C i j) : Op2 K B (rI C fun i j => .int (i / j)) (.int i) (.int j) false (fun x => x = .int (i / j)) := o_I (d := fun i j => .int (i / j)) (fun i j H => .int _) c
theorem o_mod {C : Int → Int → Prop} {i j : Int} (c : C i j) : Op2 K B (rI C fun i j => .int (i % j)) (.int i) (.int j) false (fun x => x = .int (i % j)) := o_I (d := fun i j => .int (i % j)) (fun i j H => .int _) c
theorem o_lt {i j : Int} : Op2 K B (rI0 fun i j => .bl (decide (i < j))) (.int i) (.int j) false (fun x => x = .bl (decide (i < j))) := o_I0 (d := fun i j => .bl (decide (i < j))) fun i j H => .bl _
theorem o_le {i j : Int} : Op2 K B (rI0 fun i j => .bl (decide (i ≤ j))) (.int i) (.int j) false (fun x => x = .bl (decide (i ≤ j))) := o_I0 (d := fun i j => .bl (decide (i ≤ j))) fun i j H => .bl _
theorem o_gt {i j : Int} : Op2 K B (rI0 fun i j => .bl (decide (j < i))) (.int i) (.int j) false (fun x => x = .bl (decide (j < i))) := o_I0 (d := fun i j => .bl (decide (j < i))) fun i j H => .bl _
theorem o_ge {i j : Int} : Op2 K B (rI0 fun i j => .bl (decide (j ≤ i))) (.int i) (.int j) false (fun x => x = .bl (decide (j ≤ i))) := o_I0 (d := fun i j => .bl (decide (j ≤ i))) fun i j H => .bl _
theorem o_neg {i : Int} : Op1 K B (rU fun i => .int (-i)) (.int i) false (fun x => x = .int (-i)) := fun R H v _ r Q q => by
  cases r
  exact ⟨i, rfl, q _ _ H .refl (.int _) (fun z => absurd z (by simp)) rfl⟩
theorem o_eqI {i j : Int} : Op2 K B rEq (.int i) (.int j) false (fun x => x = .bl (decide (i = j))) := fun R H v w _ r1 r2 Q q => by
  cases r1; cases r2
  refine ⟨rfl, q _ _ H .refl (.bl _) (fun z => absurd z (by simp)) ?_⟩
  congr 1
  exact decide_eq_decide.mpr ⟨fun e => V.int.inj e, fun e => by rw [e]⟩
theorem o_neI {i j : Int} : Op2 K B rNe (.int i) (.int j) false (fun x => x = .bl (!decide (i = j))) := fun R H v w _ r1 r2 Q q => by
  cases r1; cases r2
  refine ⟨rfl, q _ _ H .refl (.bl _) (fun z => absurd z (by simp)) ?_⟩
  congr 2
  exact decide_eq_decide.mpr ⟨fun e => V.int.inj e, fun e => by rw [e]⟩
theorem o_eqS {i j : List Nat} : Op2 K B rEq (.str i) (.str j) false (fun x => x = .bl (decide (i = j))) := fun R H v w _ r1 r2 Q q => by
  cases r1; cases r2
  refine ⟨rfl, q _ _ H .refl (.bl _) (fun z => absurd z (by simp)) ?_⟩
  congr 1
  exact decide_eq_decide.mpr ⟨fun e => mk_inj (V.str.inj e), fun e => by rw [e]⟩
theorem o_neS {i j : List Nat} : Op2 K B rNe (.str i) (.str j) false (fun x => x = .bl (!decide (i = j))) := fun R H v w _ r1 r2 Q q => by
  cases r1; cases r2
  refine ⟨rfl, q _ _ H .refl (.bl _) (fun z => absurd z (by simp)) ?_⟩
  congr 2
  exact decide_eq_decide.mpr ⟨fun e => mk_inj (V.str.inj e), fun e => by rw [e]⟩
/-- text + text -/
def rAddS : R2 := fun x y H Q => ∃ i j, x = .str i ∧ y = .str j ∧ i.length + j.length ≤ sizeLine ∧ Q (.str (i ++ j)) H
theorem mk_app (s t : List Nat) : mk s ++ mk t = mk (s ++ t) := by
  show Str.append (mk s) (mk t) = _
  unfold Str.append mk
  simp
theorem o_addS {s t : List Nat} (h : s.length + t.length ≤ 1000000) : Op2 K B rAddS (.str s) (.str t) false (fun x => x = .str (s ++ t)) := fun R H v w _ r1 r2 Q q => by
  cases r1; cases r2
  refine ⟨_, _, rfl, rfl, by rw [mk_len, mk_len]; exact Nat.le_trans h (by decide), ?_⟩
  rw [mk_app]
  exact q _ _ H .refl (.str _) (fun z => absurd z (by simp)) rfl
/-- a sign in a text -/
theorem o_inS {c : Nat} {z : List Nat} : Op2 K B (fun x y H Q => ∃ (c : Nat) (z : Str), x = .str ⟨#[c]⟩ ∧ y = .str z ∧ Q (.bl (decide (c ∈ z.cps.toList))) H) (.str [c]) (.str z) false (fun x => x = .bl (decide (c ∈ z))) := fun R H v w _ r1 r2 Q q => by
  cases r1; cases r2
  exact ⟨c, mk z, rfl, rfl, q _ _ H .refl (.bl _) (fun z => absurd z (by simp)) rfl⟩
theorem o_ninS {c : Nat} {z : List Nat} : Op2 K B (fun x y H Q => ∃ (c : Nat) (z : Str), x = .str ⟨#[c]⟩ ∧ y = .str z ∧ Q (.bl (!decide (c ∈ z.cps.toList))) H) (.str [c]) (.str z) false (fun x => x = .bl (!decide (c ∈ z))) := fun R H v w _ r1 r2 Q q => by
  cases r1; cases r2
  exact ⟨c, mk z, rfl, rfl, q _ _ H .refl (.bl _) (fun z => absurd z (by simp)) rfl⟩
theorem RpAll.atI {vs : List V} {ds : List D} {i : Int} {d : D} (r : RpAll K H vs ds) (h : L2.atI ds i = some d) : ∃ v, L2.atI vs i = some v ∧ Rp K H v d := by
  unfold L2.atI at h ⊢
  rw [r.length]
  cases e : ixN ds.length i with
  | none => rw [e] at h; cases h
  | some j =>
    rw [e] at h
    exact r.get h
/-- items by place -/
theorem o_ixL {ds : List D} {i : Int} {d : D} (h : atI ds i = some d) : Op2 K B (rIxL K) (.lst ds) (.int i) false (fun x => x = d) := fun R H v w _ r1 r2 Q q => by
  cases r2
  cases r1 with
  | @lst a xs ds h1 h2 =>
    obtain ⟨v, e, r⟩ := h2.atI h
    exact ⟨_, _, _, v, rfl, rfl, .inl (.inl (era_sub H R _ _ h1)), e, q _ _ H .refl r (fun z => absurd z (by simp)) rfl⟩
theorem o_ixT {ds : List D} {i : Int} {d : D} (h : atI ds i = some d) : Op2 K B (rIxT K) (.tup ds) (.int i) false (fun x => x = d) := fun R H v w _ r1 r2 Q q => by
  cases r2
  cases r1 with
  | @tup a xs ds h1 h2 =>
    obtain ⟨v, e, r⟩ := h2.atI h
    exact ⟨_, _, _, v, rfl, rfl, (era_sub H R).t h1, e, q _ _ H .refl r (fun z => absurd z (by simp)) rfl⟩
theorem o_ixS {s : List Nat} {i : Int} {c : Nat} (hz : s.length ≤ 1000000) (h : atI s i = some c) : Op2 K B rIxS (.str s) (.int i) false (fun x => x = .str [c]) := fun R H v w _ r1 r2 Q q => by
  cases r2
  cases r1
  exact ⟨_, _, c, rfl, rfl, by rw [mk_len]; exact Nat.le_trans hz (by decide), h, q _ _ H .refl (.str [c]) (fun z => absurd z (by simp)) rfl⟩
/-! ### slices -/
def cutL {α : Type} (xs : List α) (lo hi : Option Int) : List α := (xs.drop (HT.sIx xs.length 0 lo)).take (HT.sIx xs.length xs.length hi - HT.sIx xs.length 0 lo)
theorem cutS_mk (s : List Nat) (lo hi : Option Int) : cutS (mk s) lo hi = mk (cutL s lo hi) := by
  unfold cutS cutL
  rw [mk_len] <;> rfl
theorem ev_slS {tl th : TO} {s : List Nat} {lo hi : Option Int} (h : EvD K E B m ss o0 te (.str s)) (hl : EvO K E B ss o0 tl (fun o => o = lo)) (hh : EvO K E B ss o0 th (fun o => o = hi)) (hz : s.length ≤ 1000000) :
    EvD K E B m ss o0 (tSl rSlS te tl th) (.str (cutL s lo hi)) := fun Z os σ H i A Q q => h Z os σ H i A _ fun v d H1 g1 r _ e => by
  subst e
  cases r
  refine hl Z os σ H1 i (A.go g1) _ fun o H2 g2 e2 => hh Z os σ H2 i ((A.go g1).go g2) _ fun o' H3 g3 e3 => ?_
  subst e2; subst e3
  refine ⟨mk s, rfl, by rw [mk_len]; exact Nat.le_trans hz (by decide), ?_⟩
  rw [cutS_mk]
  exact q _ _ H3 ((g1.trans g2).trans g3) (.str _) (fun z => absurd z (by simp)) rfl
theorem RpAll.drop : ∀ {vs : List V} {ds : List D} (n : Nat), RpAll K H vs ds → RpAll K H (vs.drop n) (ds.drop n)
  | _, _, 0, r => r
  | _, _, _ + 1, .nil => .nil
  | _, _, n + 1, .cons _ t => RpAll.drop n t
theorem RpAll.take : ∀ {vs : List V} {ds : List D} (n : Nat), RpAll K H vs ds → RpAll K H (vs.take n) (ds.take n)
  | _, _, 0, _ => .nil
  | _, _, _ + 1, .nil => .nil
  | _, _, n + 1, .cons r t => .cons r (RpAll.take n t)
theorem RpAll.cut {vs : List V} {ds : List D} (r : RpAll K H vs ds) (lo hi : Option Int) : RpAll K H (cutV vs lo hi) (cutL ds lo hi) := by
  unfold cutV cutL
  rw [r.length]
  exact (r.drop _).take _
/-- a value laid anew -/
theorem Rg.put (A : Rg B R H) {p : Addr} {o : HO} (h : H p = none) : Sub (era H R) (era (upd H p o) R) := era_mono (fun x u _ e _ => by rw [upd_ne (ne_of_none e h)]; exact e) fun _ h => h
theorem Rg.rpL (A : Rg B R H) {p : Addr} {vs : List V} {ds : List D} (h : H p = none) (r : RpAll K (era H R) vs ds) : Rp K (era (upd H p (.lst vs)) R) (.ref p) (.lst ds) := .lst (A.new h) (r.mono (A.put h))
theorem Rg.rpT (A : Rg B R H) {p : Addr} {vs : List V} {ds : List D} (h : H p = none) (r : RpAll K (era H R) vs ds) : Rp K (era (upd H p (.tup vs)) R) (.ref p) (.tup ds) := .tup (A.sqT h) (r.mono (A.put h))
theorem ev_slL {tl th : TO} {s : List D} {lo hi : Option Int} (h : EvD K E B m ss o0 te (.lst s)) (hl : EvO K E B ss o0 tl (fun o => o = lo)) (hh : EvO K E B ss o0 th (fun o => o = hi)) :
    Ev K E B m ss o0 true (tSl (rSlL K) te tl th) (fun x => x = .lst (cutL s lo hi)) := fun Z os σ H i A Q q => h Z os σ H i A _ fun v d H1 g1 r _ e => by
  subst e
  refine hl Z os σ H1 i (A.go g1) _ fun o H2 g2 e2 => hh Z os σ H2 i ((A.go g1).go g2) _ fun o' H3 g3 e3 => ?_
  subst e2; subst e3
  have rg := (((A.go g1).go g2).go g3).rg m
  have r' := (((A.go g1).go g2).rg m).keep g3 (((A.go g1).rg m).keep g2 r)
  cases r' with
  | lst h1 h2 =>
    exact ⟨_, _, rfl, .inl (.inl (era_sub _ _ _ _ h1)), fun p hp => q _ _ _ (((g1.trans g2).trans g3).trans (.new hp)) (rg.rpL hp (h2.cut _ _)) (fun _ => (New.laid rg hp (h2.cut _ _)).back ((g1.trans g2).trans g3) A.bag) rfl⟩

theorem ev_slR {tl th : TO} {s : List D} {lo hi : Option Int} (h : EvD K E B m ss o0 te (.rdl s)) (hl : EvO K E B ss o0 tl (fun o => o = lo)) (hh : EvO K E B ss o0 th (fun o => o = hi)) :
    Ev K E B m ss o0 true (tSl (rSlL K) te tl th) (fun x => x = .lst (cutL s lo hi)) := fun Z os σ H i A Q q => h Z os σ H i A _ fun v d H1 g1 r _ e => by
  subst e
  refine hl Z os σ H1 i (A.go g1) _ fun o H2 g2 e2 => hh Z os σ H2 i ((A.go g1).go g2) _ fun o' H3 g3 e3 => ?_
  subst e2; subst e3
  have rg := (((A.go g1).go g2).go g3).rg m
  have r' := (((A.go g1).go g2).rg m).keep g3 (((A.go g1).rg m).keep g2 r)
  cases r' with
  | rdl h1 h2 =>
    exact ⟨_, _, rfl, (era_sub _ _).l h1, fun p hp => q _ _ _ (((g1.trans g2).trans g3).trans (.new hp)) (rg.rpL hp (h2.cut _ _)) (fun _ => (New.laid rg hp (h2.cut _ _)).back ((g1.trans g2).trans g3) A.bag) rfl⟩
/-- list + list -/
theorem o_cat {ds es : List D} (hz : ds.length + es.length ≤ 1000000) : Op2 K B rCat (.lst ds) (.lst es) true (fun x => x = .lst (ds ++ es)) := fun R H v w rg r1 r2 Q q => by
  cases r1 with
  | lst h1 h2 =>
    cases r2 with
    | lst k1 k2 =>
      refine ⟨_, _, _, _, rfl, rfl, era_sub _ _ _ _ h1, era_sub _ _ _ _ k1, by rw [h2.length, k2.length]; exact Nat.le_trans hz (by decide), fun p hp => ?_⟩
      exact q _ _ _ (.new hp) (rg.rpL hp (h2.append k2)) (fun _ => New.laid rg hp (h2.append k2)) rfl

/-! ### built-ins by name -/
theorem c_len {ds : List D} : OpA K B (fun xs H Q => ∃ p ys, xs = [.ref p] ∧ (SqL K H p ys ∨ SqT K H p ys) ∧ Q (.int ys.length) H) [.lst ds] false (fun x => x = .int ds.length) := fun R H vs _ r Q q => by
  cases r with
  | cons h t =>
    cases t
    cases h with
    | lst h1 h2 =>
      refine ⟨_, _, rfl, .inl (.inl (.inl (era_sub _ _ _ _ h1))), ?_⟩
      rw [h2.length]
      exact q _ _ H .refl (.int _) (fun z => absurd z (by simp)) rfl
theorem c_lenT {ds : List D} : OpA K B (fun xs H Q => ∃ p ys, xs = [.ref p] ∧ (SqL K H p ys ∨ SqT K H p ys) ∧ Q (.int ys.length) H) [.tup ds] false (fun x => x = .int ds.length) := fun R H vs _ r Q q => by
  cases r with
  | cons h t =>
    cases t
    cases h with
    | tup h1 h2 =>
      refine ⟨_, _, rfl, .inr ((era_sub _ _).t h1), ?_⟩
      rw [h2.length]
      exact q _ _ H .refl (.int _) (fun z => absurd z (by simp)) rfl
theorem c_lenS {s : List Nat} (hz : s.length ≤ 1000000) : OpA K B (fun xs H Q => ∃ z, xs = [.str z] ∧ z.length ≤ sizeLine ∧ Q (.int z.length) H) [.str s] false (fun x => x = .int s.length) := fun R H vs _ r Q q => by
  cases r with
  | cons h t =>
    cases t
    cases h
    refine ⟨_, rfl, by rw [mk_len]; exact Nat.le_trans hz (by decide), ?_⟩
    rw [mk_len]
    exact q _ _ H .refl (.int _) (fun z => absurd z (by simp)) rfl
theorem c_abs {i : Int} : OpA K B (fun xs H Q => ∃ i, xs = [.int i] ∧ Q (.int (if i < 0 then -i else i)) H) [.int i] false (fun x => x = .int (if i < 0 then -i else i)) := fun R H vs _ r Q q => by
  cases r with
  | cons h t =>
    cases t
    cases h
    exact ⟨_, rfl, q _ _ H .refl (.int _) (fun z => absurd z (by simp)) rfl⟩
theorem c_intI {i : Int} : OpA K B (fun xs H Q => (∃ i, xs = [.int i] ∧ Q (.int i) H) ∨ ∃ k, xs = [.bl k] ∧ Q (.int (if k then 1 else 0)) H) [.int i] false (fun x => x = .int i) := fun R H vs _ r Q q => by
  cases r with
  | cons h t =>
    cases t
    cases h
    exact .inl ⟨_, rfl, q _ _ H .refl (.int _) (fun z => absurd z (by simp)) rfl⟩
theorem c_intB {b : Bool} : OpA K B (fun xs H Q => (∃ i, xs = [.int i] ∧ Q (.int i) H) ∨ ∃ k, xs = [.bl k] ∧ Q (.int (if k then 1 else 0)) H) [.bl b] false (fun x => x = .int (if b then 1 else 0)) := fun R H vs _ r Q q => by
  cases r with
  | cons h t =>
    cases t
    cases h
    exact .inr ⟨_, rfl, q _ _ H .refl (.int _) (fun z => absurd z (by simp)) rfl⟩
end
end Da
namespace Da
open PySem L2
variable [Tbs]

section
variable {K : PySem.W.Frag} {E B W R : List Addr} {Z : List (List Addr × Hp)} {H0 H H' : Hp} {ss : List Sl} {os : Os} {σ : L2.St} {m F : Bool} {o0 : Os} {te ta tb tc : TE} {PA PB P P' : D → Prop} {Dn : Ends}

theorem At.set {i : Nat} {v : V} {d : D} (A : At K E B Z ss os σ H) (r : Rp K (era H (ads os ++ E)) v d) : At K E B Z (ss.set i (.dat d)) os (σ.set i (some v)) H where
  len := by simpa using A.len
  stp := A.stp
  bag := A.bag
  bgo := A.bgo
  bE := A.bE
  bW := A.bW
  slot := fun j e h => by
    by_cases hj : i = j
    · subst hj
      by_cases hl : i < ss.length
      · rw [List.getElem?_set_self hl] at h
        cases h
        exact ⟨v, by rw [List.getElem?_set_self (by rw [A.len]; exact hl)], r⟩
      · rw [List.getElem?_eq_none (by simpa using hl)] at h; cases h
    · rw [List.getElem?_set_ne hj] at h
      obtain ⟨w, h1, h2⟩ := A.slot j e h
      exact ⟨w, by rw [List.getElem?_set_ne hj]; exact h1, h2⟩
  ownS := fun j p h => by
    by_cases hj : i = j
    · subst hj
      by_cases hl : i < ss.length
      · rw [List.getElem?_set_self hl] at h; cases h
      · rw [List.getElem?_eq_none (by simpa using hl)] at h; cases h
    · rw [List.getElem?_set_ne hj] at h
      rw [List.getElem?_set_ne hj]
      exact A.ownS j p h
  own := A.own
  nd := A.nd
  frs := A.frs
  oE := A.oE
  ent := A.ent
  tab := A.tab
/-- a new list is taken as the def's own -/
theorem At.setO {i : Nat} {p : Addr} {vs : List V} {ds : List D} (A : At K E B Z ss os σ H) (n : H p = none) (e : H' p = some (.lst vs)) (g : Go B H H') (r : RpAll K (era H' (p :: (ads os ++ E))) vs ds) :
    At K E B Z (ss.set i (.own p)) ((p, .lst ds) :: os) (σ.set i (some (.ref p))) H' := by
  have A' := A.go g
  have nos : p ∉ ads os := fun z => A.tracked z n
  have nE : p ∉ E := fun z => A.ent p z n
  have hs : Sub (era H' (ads os ++ E)) (era H' (ads os ++ E)) := .refl _
  -- what stood hangs not on p
  have av : ∀ {v : V} {d : D}, Rp K (era H (ads os ++ E)) v d → Rp K (era H' (ads ((p, OD.lst ds) :: os) ++ E)) v d := fun {v d} h => h.mono fun a o q _ => by
    obtain ⟨na, q⟩ := era_some q
    have nap : a ≠ p := ne_of_none q n
    rw [era_in (by simp [nap] at *; exact na)]
    exact g.one (fun z => na (List.mem_append_right _ (A.bE a z))) q ‹_›
  refine ⟨by simpa using A.len, A'.stp, A'.bag, A'.bgo, A.bE, A.bW, fun j d h => ?_, fun j q h => ?_, fun q od h => ?_, ?_, fun y hy q h => ?_, fun q h => ?_, A'.ent, A'.tab⟩
  · by_cases hj : i = j
    · subst hj
      by_cases hl : i < ss.length
      · rw [List.getElem?_set_self hl] at h; cases h
      · rw [List.getElem?_eq_none (by simpa using hl)] at h; cases h
    · rw [List.getElem?_set_ne hj] at h
      obtain ⟨w, h1, h2⟩ := A.slot j d h
      exact ⟨w, by rw [List.getElem?_set_ne hj]; exact h1, av h2⟩
  · by_cases hj : i = j
    · subst hj
      by_cases hl : i < ss.length
      · rw [List.getElem?_set_self hl] at h
        cases h
        rw [List.getElem?_set_self (by rw [A.len]; exact hl)]
      · rw [List.getElem?_eq_none (by simpa using hl)] at h; cases h
    · rw [List.getElem?_set_ne hj] at h
      rw [List.getElem?_set_ne hj]
      exact A.ownS j q h
  · rcases List.mem_cons.mp h with h | h
    · cases h
      exact ⟨vs, e, r⟩
    · have o := A.own q od h
      cases od with
      | lst es =>
        obtain ⟨ws, e1, e2⟩ := o
        refine ⟨ws, g.one (fun z => A.oE q (List.mem_map.mpr ⟨_, h, rfl⟩) (A.bE q z)) e1 trivial, e2.mono fun a o q _ => ?_⟩
        obtain ⟨na, q⟩ := era_some q
        have nap : a ≠ p := ne_of_none q n
        rw [era_in (by simp [nap] at *; exact na)]
        exact g.one (fun z => na (List.mem_append_right _ (A.bE a z))) q ‹_›
  · exact List.nodup_cons.mpr ⟨nos, A.nd⟩
  · rcases List.mem_cons.mp h with rfl | h
    · by_cases hw : q ∈ y.1
      · exact .inl hw
      · right
        cases z : y.2 q with
        | none => rfl
        | some o => exact absurd n (A.stp y hy q o hw z).2
    · exact A.frs y hy q h
  · rcases List.mem_cons.mp h with rfl | h
    · exact nE
    · exact A.oE q h
/-- less is known -/
theorem At.weak {ss' : List Sl} (A : At K E B Z ss os σ H) (hl : ss'.length = ss.length) (h : ∀ (i : Nat) (d : D), ss'[i]? = some (Sl.dat d) → ss[i]? = some (Sl.dat d)) (ho : ∀ (i : Nat) (p : Addr), ss'[i]? = some (Sl.own p) → ss[i]? = some (Sl.own p)) : At K E B Z ss' os σ H :=
  ⟨A.len.trans hl.symm, A.stp, A.bag, A.bgo, A.bE, A.bW, fun i d e => A.slot i d (h i d e), fun i p e => A.ownS i p (ho i p e), A.own, A.nd, A.frs, A.oE, A.ent, A.tab⟩
theorem era_less (H : Hp) {E F : List Addr} (h : ∀ a, a ∈ F → a ∈ E) : Sub (era H E) (era H F) := era_mono (fun _ _ _ e _ => e) h
/-- the owned things are let go: the slots that held them are forgotten -/
theorem At.drop {ss' : List Sl} (A : At K E B Z ss os σ H) (hl : ss'.length = ss.length) (h : ∀ (i : Nat) (d : D), ss'[i]? = some (.dat d) → ss[i]? = some (.dat d)) (ho : ∀ (i : Nat) (p : Addr), ss'[i]? ≠ some (.own p)) : At K E B Z ss' [] σ H :=
  ⟨A.len.trans hl.symm, A.stp, A.bag, A.bgo, A.bE, A.bW, fun i d e => let ⟨v, h1, h2⟩ := A.slot i d (h i d e); ⟨v, h1, h2.mono (era_less H fun a (z : a ∈ [] ++ E) => List.mem_append_right _ z)⟩,
    fun i p e => absurd e (ho i p), fun p od z => (nomatch z), List.nodup_nil, fun _ _ p z => (nomatch z), fun p z => (nomatch z), A.ent, A.tab⟩

/-! ### statements -/
theorem s_asg {i : Nat} (A : At K E B Z ss os σ H) (h : Ev K E B true ss os F te P) (k : ∀ d σ' H', P d → At K E B Z (ss.set i (.dat d)) os σ' H' → Dn.nx σ' H') : tAsg te (gName i) Dn σ H :=
  h Z os σ H (fun _ z => z) A _ fun v d H' g r _ p => k d _ H' p ((A.go g).set r)
theorem s_asgD {i : Nat} {d : D} (A : At K E B Z ss os σ H) (h : Ev K E B true ss os F te (fun x => x = d)) (k : ∀ σ' H', At K E B Z (ss.set i (.dat d)) os σ' H' → Dn.nx σ' H') : tAsg te (gName i) Dn σ H :=
  s_asg A h fun d' σ' H' e a => k σ' H' (e ▸ a)
theorem s_asgO {i : Nat} (A : At K E B Z ss os σ H) (h : Ev K E B true ss os true te P) (k : ∀ p ds σ' H', P (.lst ds) → At K E B Z (ss.set i (.own p)) ((p, .lst ds) :: os) σ' H' → Dn.nx σ' H') : tAsg te (gName i) Dn σ H :=
  h Z os σ H (fun _ z => z) A _ fun v d H' g r f p => by
    obtain ⟨q, vs, ds, rfl, rfl, e1, e2, e3⟩ := f rfl
    exact k q ds _ H' p (A.setO e1 e2 g e3)
theorem s_drop (A : At K E B Z ss os σ H) (h : Ev K E B m ss os F te P) (k : ∀ d σ' H', P d → At K E B Z ss os σ' H' → Dn.nx σ' H') : tDrop te Dn σ H :=
  h Z os σ H (fun _ z => z) A _ fun v d H' g r _ p => k d σ H' p (A.go g)
theorem s_if {t : TT} {T : Bool → Prop} {tu tw : TS} (A : At K E B Z ss os σ H) (h : EvT K E B ss os t T) (h1 : ∀ H', T true → At K E B Z ss os σ H' → tu Dn σ H') (h2 : ∀ H', T false → At K E B Z ss os σ H' → tw Dn σ H') : tIfS t tu tw Dn σ H :=
  h Z os σ H (fun _ z => z) A _ fun b H' g p => by
    cases b with
    | true =>
      show tu Dn σ H'
      exact h1 H' p (A.go g)
    | false =>
      show tw Dn σ H'
      exact h2 H' p (A.go g)
/-- the end: what a caller is told -/
def Tells (K : PySem.W.Frag) (E B : List Addr) (H0 : Hp) (F : Bool) (P : D → Prop) (Q : VK) : Prop := ∀ v d H', Go B H0 H' → Rp K (era H' E) v d → (F = true → New K H0 H' E v d) → P d → Q v H'
theorem At.toGo (A : At K E B Z ss os σ H) (hz : (B, H0) ∈ Z) : Go B H0 H := ⟨A.stp _ hz, A.bgo _ hz, fun _ => A.tab⟩
theorem s_ret {Q : VK} (A : At K E B Z ss os σ H) (hz : (B, H0) ∈ Z) (h : Ev K E B false ss os F te P) (hb : Bags B E H0) (k : Tells K E B H0 F P Q) (hq : Dn.rt = Q) : tRet te Dn σ H :=
  h Z os σ H (fun _ z => z) A _ fun v d H' g r f p => by
    rw [hq]
    exact k v d H' ((A.toGo hz).trans g) r (fun hf => (f hf).back (A.toGo hz) hb) p
/-- an owned list is returned -/
theorem s_retO {Q : VK} {i : Nat} {p : Addr} {ds : List D} (A : At K E B Z ss os σ H) (hz : (B, H0) ∈ Z) (h : ss[i]? = some (.own p)) (ho : (p, OD.lst ds) ∈ os) (k : Tells K E B H0 F (fun x => x = .lst ds) Q) (hq : Dn.rt = Q) : tRet (tVar i) Dn σ H := by
  obtain ⟨vs, e, r⟩ := A.own p _ ho
  have hp : p ∈ ads os := List.mem_map.mpr ⟨_, ho, rfl⟩
  have pE : p ∉ E := A.oE p hp
  have n0 : H0 p = none := by
    rcases A.frs _ hz p hp with z | z
    · exact absurd (A.bE p z) pE
    · exact z
  refine ⟨.ref p, A.ownS i p h, ?_⟩
  rw [hq]
  refine k _ _ H (A.toGo hz) (.lst (xs := vs) ?_ (r.mono (era_less H fun _ h => List.mem_append_right _ h))) (fun _ => ⟨p, vs, ds, rfl, rfl, n0, e, r.mono (era_less H fun a h => ?_)⟩) rfl
  · show era H E p = _
    rw [era_in pE]
    exact e
  · rcases List.mem_cons.mp h with rfl | h
    · exact List.mem_append_left _ hp
    · exact List.mem_append_right _ h
/-- the law's own end -/
theorem s_retL {Q : VK} (A : At K E B Z ss os σ H) (h : Ev K E B false ss os F te P) (k : ∀ v H', P v → ∀ u, Rp K (era H' E) u v → Q u H') (hq : Dn.rt = Q) : tRet te Dn σ H :=
  h Z os σ H (fun _ z => z) A _ fun v d H' g r f p => by
    rw [hq]
    exact k d H' p v r
/-- x += e -/
theorem s_aug {i : Nat} {f : Int → Int → Int} {a b : Int} (A : At K E B Z ss os σ H) (hx : ss[i]? = some (.dat (.int a))) (h : EvD K E B true ss os te (.int b)) (k : ∀ σ' H', At K E B Z (ss.set i (.dat (.int (f a b)))) os σ' H' → Dn.nx σ' H') : tAug i te (ipI f) Dn σ H := by
  obtain ⟨v, h1, h2⟩ := A.slot i _ hx
  cases h2
  refine ⟨_, h1, ?_⟩
  refine h Z os σ H (fun _ z => z) A _ fun v d H' g r _ p => ?_
  subst p
  cases r
  exact ⟨a, b, rfl, rfl, k _ H' ((A.go g).set (.int _))⟩
end
end Da
namespace Da
open PySem L2
variable [Tbs]

section
variable {K : PySem.W.Frag} {E B W R : List Addr} {Z : List (List Addr × Hp)} {H0 H H' : Hp} {ss : List Sl} {os : Os} {σ : L2.St} {m F : Bool} {o0 : Os} {te ta tb tc : TE} {PA PB P P' : D → Prop} {Dn : Ends}

/-- what is no table and no code may be put otherwise -/
theorem tabs_upd {T : TB0} {p : Addr} {o o' : HO} (t : Tbl T H) (e : H p = some o) (nt : NT o) (nc : ∀ q, o ≠ LamX.CodeO p q) : Tbl T (upd H p o') := ⟨fun x hx => by
  obtain ⟨ps, h1, h2, h3⟩ := t.1 x hx
  refine ⟨ps, by rw [upd_ne (fun z => by rw [z, e] at h1; cases h1; exact nt)]; exact h1, h2, fun pos cv hc => ?_⟩
  obtain ⟨c, e1, e2⟩ := h3 pos cv hc
  exact ⟨c, e1, by rw [upd_ne (fun z => by rw [z, e] at e2; exact nc _ (Option.some.inj e2))]; exact e2⟩, fun x hx => by rw [upd_ne (fun z => by have e2 := t.2 x hx; rw [z, e] at e2; exact nc _ (Option.some.inj e2))]; exact t.2 x hx⟩
theorem tabs_dk {T : TB0} {p : Addr} {vs : List (Key × V)} {o' : HO} (t : Tbl T H) (e : H p = some (.dK vs)) : Tbl T (upd H p o') := tabs_upd t e trivial fun q z => by unfold LamX.CodeO at z; cases z
theorem tabs_lst {T : TB0} {p : Addr} {vs : List V} {o' : HO} (t : Tbl T H) (e : H p = some (.lst vs)) : Tbl T (upd H p o') := tabs_upd t e trivial fun q z => by unfold LamX.CodeO at z; cases z
/-- an owned list is changed -/
theorem At.put {p : Addr} {ds ds' : List D} {vs' : List V} (A : At K E B Z ss ((p, .lst ds) :: os) σ H) (r : RpAll K (era H (p :: (ads os ++ E))) vs' ds') :
    At K E B Z ss ((p, .lst ds') :: os) σ (upd H p (.lst vs')) := by
  have pE : p ∉ E := A.oE p List.mem_cons_self
  have nB : p ∉ B := fun z => pE (A.bE p z)
  have sub : Sub (era H (p :: (ads os ++ E))) (era (upd H p (.lst vs')) (p :: (ads os ++ E))) := era_mono (fun a o na ea _ => by
    have : a ≠ p := fun z => na (by simp [z])
    rw [upd_ne this]; exact ea) fun a h => h
  have bag1 : ∀ b, b ∈ B → ∀ l, l ≠ p → BagL H b l → BagL (upd H p (.lst vs')) b l := fun b hb l hl hg => by
    obtain ⟨w, c, i, ns, e1, e2, q⟩ := hg
    exact ⟨w, c, i, ns, by rw [upd_ne (fun z : b = p => nB (z ▸ hb))]; exact e1, by rw [upd_ne hl]; exact e2, q⟩
  have lp : ∀ b, b ∈ B → ∀ l, BagL H b l → l ≠ p := fun b hb l hg => by
    obtain ⟨l1, h1, hg1⟩ := A.bag b hb
    obtain ⟨_, _, _, _, e1, _⟩ := hg
    obtain ⟨_, _, _, _, e2, _⟩ := hg1
    rw [e1] at e2
    have : l = l1 := by
      have := congrArg (fun o => match o with | some (HO.lst xs) => xs[3]? | _ => none) e2
      simpa using this
    rw [this]
    exact fun z => pE (z ▸ h1)
  refine ⟨A.len, fun y hy a o n e => ?_, fun b hb => ?_, fun y hy b hb l e => ?_, A.bE, A.bW, fun i d e => ?_, A.ownS, fun q od h => ?_, A.nd, A.frs, A.oE, fun e he => ?_, let ⟨_, e, _⟩ := A.own p _ List.mem_cons_self; tabs_lst A.tab e⟩
  · by_cases ha : a = p
    · subst ha
      rcases A.frs y hy a List.mem_cons_self with z | z
      · exact absurd z n
      · rw [z] at e; cases e
    · rw [upd_ne ha]
      exact A.stp y hy a o n e
  · obtain ⟨l, h1, h2⟩ := A.bag b hb
    exact ⟨l, h1, bag1 b hb l (fun z => pE (z ▸ h1)) h2⟩
  · have h := A.bgo y hy b hb l e
    exact bag1 b hb l (lp b hb l h) h
  · obtain ⟨v, h1, h2⟩ := A.slot i d e
    exact ⟨v, h1, h2.mono sub⟩
  · rcases List.mem_cons.mp h with h | h
    · cases h
      exact ⟨vs', upd_same, r.mono sub⟩
    · have o := A.own q od (List.mem_cons_of_mem _ h)
      cases od with
      | lst es =>
        obtain ⟨ws, e1, e2⟩ := o
        have hq : q ≠ p := fun z => (List.nodup_cons.mp A.nd).1 (List.mem_map.mpr ⟨_, h, z⟩)
        exact ⟨ws, by rw [upd_ne hq]; exact e1, e2.mono sub⟩
  · by_cases ha : e = p
    · subst ha; rw [upd_same]; simp
    · rw [upd_ne ha]; exact A.ent e he
/-- x.append(e) as a statement, x owned at the head -/
theorem s_app {i : Nat} {p : Addr} {ds : List D} (A : At K E B Z ss ((p, .lst ds) :: os) σ H) (hi : ss[i]? = some (.own p)) (hz : ds.length ≤ 1000000) (h : Ev K E B true ss ((p, .lst ds) :: os) F te P)
    (k : ∀ d σ' H', P d → At K E B Z ss ((p, .lst (ds ++ [d])) :: os) σ' H' → Dn.nx σ' H') : tDrop (tBM K "list" rAppend (tVar i) (tCons te tNil)) Dn σ H := by
  obtain ⟨vs, e, r⟩ := A.own p _ List.mem_cons_self
  refine ⟨.ref p, A.ownS i p hi, .inl ⟨rfl, vs, .inl (.inl e)⟩, ?_⟩
  refine h Z _ σ H (fun _ z => z) A _ fun v d H' g rv _ pd => ?_
  have A' := A.go g
  obtain ⟨vs', e', r'⟩ := A'.own p _ List.mem_cons_self
  refine ⟨p, vs', v, rfl, rfl, e', ?_, k d σ _ pd (A'.put (r'.append (.cons rv .nil)))⟩
  rw [r'.length]
  exact Nat.lt_of_le_of_lt hz (by decide)

/-! ### loops -/
/-- a heap to look back to -/
theorem At.mark (A : At K E B Z ss os σ H) : At K E B ((ads os ++ E, H) :: Z) ss os σ H :=
  ⟨A.len, fun y hy a o n e => (List.mem_cons.mp hy).elim (fun z => by subst z; exact stays e) fun hy => A.stp y hy a o n e, A.bag, fun y hy b hb l e => (List.mem_cons.mp hy).elim (fun z => by subst z; exact e) fun hy => A.bgo y hy b hb l e,
    A.bE, fun y hy b hb => (List.mem_cons.mp hy).elim (fun z => by subst z; exact List.mem_append_right _ (A.bE b hb)) fun hy => A.bW y hy b hb, A.slot, A.ownS, A.own, A.nd,
    fun y hy p hp => (List.mem_cons.mp hy).elim (fun z => by subst z; exact .inl (List.mem_append_left _ hp)) fun hy => A.frs y hy p hp, A.oE, A.ent, A.tab⟩
theorem At.unmark {z : List Addr × Hp} (A : At K E B (z :: Z) ss os σ H) : At K E B Z ss os σ H :=
  ⟨A.len, fun y hy => A.stp y (List.mem_cons_of_mem _ hy), A.bag, fun y hy => A.bgo y (List.mem_cons_of_mem _ hy), A.bE, fun y hy => A.bW y (List.mem_cons_of_mem _ hy), A.slot, A.ownS, A.own, A.nd, fun y hy => A.frs y (List.mem_cons_of_mem _ hy), A.oE, A.ent, A.tab⟩
/-- for x in range(n) -/
theorem s_forR {ta : TA} {j : Nat} {n : Int} {tb : TS} (A : At K E B Z ss os σ H) (h : EaD K E B false ss os ta [.int n]) (hn : -1000000 ≤ n ∧ n ≤ 1000000) (J : Nat → List Sl → Os → Prop) (h0 : J 0 ss os)
    (hs : ∀ (i : Nat) ss' os' σ' H', (i : Int) < n → J i ss' os' → At K E B Z (ss'.set j (.dat (.int i))) os' σ' H' →
      tb { Dn with nx := fun σ H => ∃ ss os, J (i + 1) ss os ∧ At K E B Z ss os σ H, ct := fun σ H => ∃ ss os, J (i + 1) ss os ∧ At K E B Z ss os σ H, bk := Dn.nx } σ' H')
    (hd : ∀ ss' os' σ' H', J n.toNat ss' os' → At K E B Z ss' os' σ' H' → Dn.nx σ' H') : tFor (iRng1 ta) (gName j) tb Dn σ H :=
  h Z os σ H (fun _ z => z) A _ fun vs ds H1 g r e => by
    subst e
    cases r with
    | cons r t =>
      cases t
      cases r
      refine ⟨n, rfl, by omega, by omega, for_range (fun i σ H => ∃ ss os, J i ss os ∧ At K E B Z ss os σ H) ⟨ss, os, h0, A.go g⟩ (fun i σ' H' hi ⟨ss', os', hj, A'⟩ => ?_) fun σ' H' ⟨ss', os', hj, A'⟩ => hd ss' os' σ' H' hj A'⟩
      have e0 : (0 : Int) + (i : Int) = (i : Int) := Int.zero_add _
      rw [e0]
      exact hs i ss' os' _ H' (by omega) hj (A'.set (.int _))
theorem s_forR2 {ta : TA} {j : Nat} {lo n : Int} {tb : TS} (A : At K E B Z ss os σ H) (h : EaD K E B false ss os ta [.int lo, .int n]) (hn : -1000000 ≤ lo ∧ lo ≤ 1000000 ∧ -1000000 ≤ n ∧ n ≤ 1000000) (J : Nat → List Sl → Os → Prop) (h0 : J 0 ss os)
    (hs : ∀ (i : Nat) ss' os' σ' H', lo + (i : Int) < n → J i ss' os' → At K E B Z (ss'.set j (.dat (.int (lo + i)))) os' σ' H' →
      tb { Dn with nx := fun σ H => ∃ ss os, J (i + 1) ss os ∧ At K E B Z ss os σ H, ct := fun σ H => ∃ ss os, J (i + 1) ss os ∧ At K E B Z ss os σ H, bk := Dn.nx } σ' H')
    (hd : ∀ ss' os' σ' H', J (n - lo).toNat ss' os' → At K E B Z ss' os' σ' H' → Dn.nx σ' H') : tFor (iRng2 ta) (gName j) tb Dn σ H :=
  h Z os σ H (fun _ z => z) A _ fun vs ds H1 g r e => by
    subst e
    cases r with
    | cons r t =>
      cases r
      cases t with
      | cons r t =>
        cases r
        cases t
        refine ⟨lo, n, rfl, by omega, for_range (fun i σ H => ∃ ss os, J i ss os ∧ At K E B Z ss os σ H) ⟨ss, os, h0, A.go g⟩ (fun i σ' H' hi ⟨ss', os', hj, A'⟩ => ?_) fun σ' H' ⟨ss', os', hj, A'⟩ => hd ss' os' σ' H' hj A'⟩
        exact hs i ss' os' _ H' (by omega) hj (A'.set (.int _))
/-- for x in a list: what its items stand for holds as long as nothing that was not owned is written -/
theorem s_forL {tl : TE} {j : Nat} {tb : TS} {ds : List D} (A : At K E B Z ss os σ H) (h : EvD K E B true ss os tl (.lst ds)) (J : Nat → List Sl → Os → Prop) (h0 : J 0 ss os)
    (ho : ∀ i ss' os', J i ss' os' → ads os' = ads os)
    (hs : ∀ z (i : Nat) x ss' os' σ' H', ds[i]? = some x → J i ss' os' → At K E B (z :: Z) (ss'.set j (.dat x)) os' σ' H' →
      tb { Dn with nx := fun σ H => ∃ ss os, J (i + 1) ss os ∧ At K E B (z :: Z) ss os σ H, ct := fun σ H => ∃ ss os, J (i + 1) ss os ∧ At K E B (z :: Z) ss os σ H, bk := Dn.nx } σ' H')
    (hd : ∀ ss' os' σ' H', J ds.length ss' os' → At K E B Z ss' os' σ' H' → Dn.nx σ' H') : tFor (iList K tl) (gName j) tb Dn σ H :=
  h Z os σ H (fun _ z => z) A _ fun v d H1 g r _ e => by
    subst e
    cases r with
    | @lst a xs _ h1 h2 =>
      have A1 := (A.go g).mark
      have sub : ∀ {ss' : List Sl} {os' : Os} {σ' : L2.St} {H' : Hp}, At K E B ((ads os ++ E, H1) :: Z) ss' os' σ' H' → Sub (era H1 (ads os ++ E)) (era H' (ads os ++ E)) := fun A' => era_mono (fun a o n e t => (A'.stp _ List.mem_cons_self a o n e).1 t) fun _ h => h
      refine ⟨a, rfl, ⟨xs, .inl (.inl (era_sub _ _ _ _ h1))⟩, for_list (K := K) (a := a) (xs := xs) (fun i σ H => ∃ ss os', J i ss os' ∧ At K E B ((ads os ++ E, H1) :: Z) ss os' σ H) ⟨ss, os, h0, A1⟩ (fun i σ' H' _ ⟨ss', os', hj, A'⟩ => .inl (.inl (era_sub _ _ _ _ (sub A' _ _ h1 trivial)))) (fun i x σ' H' hx ⟨ss', os', hj, A'⟩ => ?_) fun σ' H' ⟨ss', os', hj, A'⟩ => hd ss' os' σ' H' (by rw [← h2.length]; exact hj) A'.unmark⟩
      obtain ⟨d, hd1, r1⟩ := h2.get' hx
      refine hs (ads os ++ E, H1) i d ss' os' _ H' hd1 hj (A'.set ?_)
      rw [ho i ss' os' hj]
      exact r1.mono (sub A')
end
end Da
namespace Da
open PySem L2
variable [Tbs]

section
variable {K : PySem.W.Frag} {E B W R : List Addr} {Z : List (List Addr × Hp)} {H0 H H' : Hp} {ss : List Sl} {os : Os} {σ : L2.St} {m F : Bool} {o0 : Os} {te ta tb tc : TE} {PA PB P P' : D → Prop} {Dn : Ends}

/-- J yields ds, as long as what stood at H1 (R aside) stands -/
def ItD (K : PySem.W.Frag) (R : List Addr) (H1 : Hp) (J : It) (ds : List D) : Prop := ∀ H, (∀ a o, a ∉ R → H1 a = some o → NT o → H a = some o) →
  (∀ i, i < ds.length → J.go i H) ∧ (∀ i, ds.length ≤ i → J.stop i H) ∧ (∀ i x H', i < ds.length → J.yld i H x H' → H' = H ∧ ∃ d, ds[i]? = some d ∧ Rp K (era H1 R) x d)
def EvI (K : PySem.W.Frag) (E B : List Addr) (ss : List Sl) (o0 : Os) (wi : TI) (P : List D → Prop) : Prop :=
  ∀ (Z : List (List Addr × Hp)) (os : Os) (σ : L2.St) (H : Hp), (∀ x, x ∈ o0 → x ∈ os) → At K E B Z ss os σ H → ∀ R : It → Hp → Prop, (∀ J ds H', Go B H H' → ItD K (ads os ++ E) H' J ds → P ds → R J H') → wi σ H R
abbrev EvID (K : PySem.W.Frag) (E B : List Addr) (ss : List Sl) (o0 : Os) (wi : TI) (ds : List D) : Prop := EvI K E B ss o0 wi (fun x => x = ds)
theorem itd_list {a : Addr} {xs : List V} {ds : List D} (h : SqL K (era H R) a xs) (r : RpAll K (era H R) xs ds) : ItD K R H (Itl K a) ds := fun H' s => by
  have h' : SqL K H' a xs := (Sub.l (H := era H R) (fun a o e t => let ⟨n, e⟩ := era_some e; s a o n e t) h)
  refine ⟨fun i hi => ?_, fun i hi => ⟨xs, h', by rw [r.length]; exact hi⟩, fun i x H2 hi ⟨e1, e2⟩ => ⟨e1, ?_⟩⟩
  · have hx : i < xs.length := by rw [r.length]; exact hi
    exact ⟨xs, xs[i], h', List.getElem?_eq_getElem hx⟩
  · exact r.get' (e2 xs h')
theorem itd_tup {a : Addr} {xs : List V} {ds : List D} (h : SqT K (era H R) a xs) (r : RpAll K (era H R) xs ds) : ItD K R H (Itt K a) ds := fun H' s => by
  have h' : SqT K H' a xs := (Sub.t (H := era H R) (fun a o e t => let ⟨n, e⟩ := era_some e; s a o n e t) h)
  refine ⟨fun i hi => ?_, fun i hi => ⟨xs, h', by rw [r.length]; exact hi⟩, fun i x H2 hi ⟨e1, e2⟩ => ⟨e1, ?_⟩⟩
  · have hx : i < xs.length := by rw [r.length]; exact hi
    exact ⟨xs, xs[i], h', List.getElem?_eq_getElem hx⟩
  · exact r.get' (e2 xs h')
/-- the items of a range -/
def rngD (lo : Int) (n : Nat) : List D := (List.range n).map fun (i : Nat) => D.int (lo + i)
theorem rngD_len (lo : Int) (n : Nat) : (rngD lo n).length = n := by unfold rngD; rw [List.length_map, List.length_range]
theorem rngD_get {lo : Int} {n i : Nat} (h : i < n) : (rngD lo n)[i]? = some (.int (lo + i)) := by
  unfold rngD
  rw [List.getElem?_map, List.getElem?_range h] <;> rfl
theorem itd_rng {lo : Int} {n : Nat} : ItD K R H (Itr lo n) (rngD lo n) := fun H' s => by
  rw [rngD_len]
  refine ⟨fun i hi => hi, fun i hi => hi, fun i x H2 hi ⟨e1, e2⟩ => ⟨e1, _, rngD_get hi, by rw [e2]; exact .int _⟩⟩
def sgnD (s : List Nat) : List D := s.map fun c => D.str [c]
theorem itd_str {s : List Nat} : ItD K R H (Its (mk s)) (sgnD s) := fun H' _ => by
  have hl : (sgnD s).length = s.length := by unfold sgnD; rw [List.length_map]
  have hs : (mk s).cps.size = s.length := by unfold mk; exact List.size_toArray
  rw [hl]
  refine ⟨fun i hi => ?_, fun i hi => ?_, fun i x H2 hi ⟨e1, c, e2, e3⟩ => ⟨e1, .str [c], ?_, ?_⟩⟩
  · show i < (mk s).cps.size
    rw [hs]; exact hi
  · show (mk s).cps.size ≤ i
    rw [hs]; exact hi
  · have e2' : s[i]? = some c := by
      have : (mk s).cps[i]? = s[i]? := by unfold mk; exact List.getElem?_toArray
      rw [← this]; exact e2
    unfold sgnD
    rw [List.getElem?_map, e2'] <;> rfl
  · rw [e3]; exact .str [c]
theorem ei_list {ds : List D} (h : EvD K E B true ss o0 te (.lst ds)) : EvID K E B ss o0 (iList K te) ds := fun Z os σ H i A R q => h Z os σ H i A _ fun v d H1 g r _ e => by
  subst e
  cases r with
  | lst h1 h2 => exact ⟨_, rfl, ⟨_, .inl (.inl (era_sub _ _ _ _ h1))⟩, q _ _ H1 g (itd_list (.inl (.inl h1)) h2) rfl⟩
theorem ei_tup {ds : List D} (h : EvD K E B true ss o0 te (.tup ds)) : EvID K E B ss o0 (iTup K te) ds := fun Z os σ H i A R q => h Z os σ H i A _ fun v d H1 g r _ e => by
  subst e
  cases r with
  | tup h1 h2 => exact ⟨_, rfl, ⟨_, (era_sub _ _).t h1⟩, q _ _ H1 g (itd_tup h1 h2) rfl⟩
theorem ei_str {s : List Nat} (h : EvD K E B true ss o0 te (.str s)) : EvID K E B ss o0 (iStr te) (sgnD s) := fun Z os σ H i A R q => h Z os σ H i A _ fun v d H1 g r _ e => by
  subst e
  cases r
  exact ⟨_, rfl, q _ _ H1 g itd_str rfl⟩
theorem ei_rng1 {t : TA} {n : Int} (h : EaD K E B false ss o0 t [.int n]) (hn : -1000000 ≤ n ∧ n ≤ 1000000) : EvID K E B ss o0 (iRng1 t) (rngD 0 n.toNat) := fun Z os σ H i A R q => h Z os σ H i A _ fun vs ds H1 g r e => by
  subst e
  cases r with
  | cons r t =>
    cases t
    cases r
    exact ⟨n, rfl, by omega, by omega, q _ _ H1 g itd_rng rfl⟩
theorem ei_rng2 {t : TA} {lo n : Int} (h : EaD K E B false ss o0 t [.int lo, .int n]) (hn : -1000000 ≤ lo ∧ lo ≤ 1000000 ∧ -1000000 ≤ n ∧ n ≤ 1000000) : EvID K E B ss o0 (iRng2 t) (rngD lo (n - lo).toNat) := fun Z os σ H i A R q => h Z os σ H i A _ fun vs ds H1 g r e => by
  subst e
  cases r with
  | cons r t =>
    cases r
    cases t with
    | cons r t =>
      cases r
      cases t
      exact ⟨lo, n, rfl, by omega, q _ _ H1 g itd_rng rfl⟩
/-- relational range, list: the bound is drawn -/
theorem ei_imp {wi : TI} {P P' : List D → Prop} (h : EvI K E B ss o0 wi P) (k : ∀ ds, P ds → P' ds) : EvI K E B ss o0 wi P' := fun Z os σ H i A R q => h Z os σ H i A R fun J ds H' g t p => q J ds H' g t (k ds p)
theorem ei_rngR (h : Ev K E B false ss o0 false te PA) (hn : ∀ d, PA d → ∃ n : Int, d = .int n ∧ -1000000 ≤ n ∧ n ≤ 1000000) : EvI K E B ss o0 (iRng1 (tCons te tNil)) (fun ds => ∃ n, PA (.int n) ∧ ds = rngD 0 n.toNat) := fun Z os σ H i A R q => h Z os σ H i A _ fun v d H1 g r _ p => by
  obtain ⟨n, rfl, h1, h2⟩ := hn d p
  cases r
  exact ⟨n, rfl, by omega, by omega, q _ _ H1 g itd_rng ⟨n, p, rfl⟩⟩

/-! ### for -/
theorem s_for {wi : TI} {j : Nat} {tb : TS} {PI : List D → Prop} (A : At K E B Z ss os σ H) (h : EvI K E B ss os wi PI) (J : List D → Nat → List Sl → Os → Prop) (h0 : ∀ ds, PI ds → J ds 0 ss os)
    (ho : ∀ ds i ss' os', J ds i ss' os' → ads os' = ads os)
    (hs : ∀ ds z (i : Nat) x ss' os' σ' H', PI ds → ds[i]? = some x → J ds i ss' os' → At K E B (z :: Z) (ss'.set j (.dat x)) os' σ' H' →
      tb { Dn with nx := fun σ H => ∃ ss os, J ds (i + 1) ss os ∧ At K E B (z :: Z) ss os σ H, ct := fun σ H => ∃ ss os, J ds (i + 1) ss os ∧ At K E B (z :: Z) ss os σ H, bk := Dn.nx } σ' H')
    (hd : ∀ ds ss' os' σ' H', PI ds → J ds ds.length ss' os' → At K E B Z ss' os' σ' H' → Dn.nx σ' H') : tFor wi (gName j) tb Dn σ H :=
  h Z os σ H (fun _ z => z) A _ fun I ds H1 g it p => by
    have A1 := (A.go g).mark
    have sub : ∀ {ss' : List Sl} {os' : Os} {σ' : L2.St} {H' : Hp}, At K E B ((ads os ++ E, H1) :: Z) ss' os' σ' H' → ∀ a o, a ∉ ads os ++ E → H1 a = some o → NT o → H' a = some o := fun A' a o n e t => (A'.stp _ List.mem_cons_self a o n e).1 t
    refine ⟨fun i mm σ H => mm = ds.length - i ∧ i ≤ ds.length ∧ ∃ ss' os', J ds i ss' os' ∧ At K E B ((ads os ++ E, H1) :: Z) ss' os' σ H, ⟨ds.length, by simp, Nat.zero_le _, ss, os, h0 ds p, A1⟩, ?_⟩
    rintro i mm σ' H' ⟨rfl, hi, ss', os', hj, A'⟩
    obtain ⟨f1, f2, f3⟩ := it H' (sub A')
    by_cases hlt : i < ds.length
    · refine .inr ⟨f1 i hlt, fun σ H => ∃ ss os', J ds (i + 1) ss os' ∧ At K E B ((ads os ++ E, H1) :: Z) ss os' σ H, fun σ2 H2 ⟨s2, o2, j2, A2⟩ => ⟨ds.length - (i + 1), by omega, rfl, hlt, s2, o2, j2, A2⟩, fun x H2 y => ?_⟩
      obtain ⟨rfl, d, hd1, r⟩ := f3 i x H2 hlt y
      refine hs ds (ads os ++ E, H1) i d ss' os' _ H2 p hd1 hj (A'.set ?_)
      rw [ho ds i ss' os' hj]
      exact r.mono (era_mono (sub A') fun _ h => h)
    · have : i = ds.length := by omega
      subst this
      exact .inl ⟨f2 _ (Nat.le_refl _), hd ds ss' os' σ' H' p hj A'.unmark⟩
/-- while, by a measure over the slots' data -/
theorem s_while {t : TT} {tb : TS} (A : At K E B Z ss os σ H) (J : Nat → List Sl → Os → Prop) (n : Nat) (h0 : J n ss os)
    (hs : ∀ n ss' os', J n ss' os' → ∃ T : Bool → Prop, EvT K E B ss' os' t T ∧
      (T true → ∀ σ' H', At K E B Z ss' os' σ' H' → tb { Dn with nx := fun σ H => ∃ n' ss os, n' < n ∧ J n' ss os ∧ At K E B Z ss os σ H, ct := fun σ H => ∃ n' ss os, n' < n ∧ J n' ss os ∧ At K E B Z ss os σ H, bk := Dn.nx } σ' H') ∧
      (T false → ∀ σ' H', At K E B Z ss' os' σ' H' → Dn.nx σ' H')) : tWhile t tb Dn σ H := by
  refine ⟨fun n σ H => ∃ ss os, J n ss os ∧ At K E B Z ss os σ H, ⟨n, ss, os, h0, A⟩, ?_⟩
  rintro n σ' H' ⟨ss', os', hj, A'⟩
  obtain ⟨T, et, h1, h2⟩ := hs n ss' os' hj
  refine et Z os' σ' H' (fun _ z => z) A' _ fun b H2 g p => ?_
  cases b with
  | true => exact ⟨_, fun σ3 H3 ⟨n', s3, o3, hl, j3, A3⟩ => ⟨n', hl, s3, o3, j3, A3⟩, h1 p σ' H2 (A'.go g)⟩
  | false => exact h2 p σ' H2 (A'.go g)

/-! ### comprehensions -/
def wip (ss : List Sl) : List Nat → List Sl
  | [] => ss
  | v :: vs => (wip ss vs).set v .any
theorem At.forget {i : Nat} (A : At K E B Z ss os σ H) : At K E B Z (ss.set i .any) os (σ.set i none) H where
  len := by simpa using A.len
  stp := A.stp
  bag := A.bag
  bgo := A.bgo
  bE := A.bE
  bW := A.bW
  slot := fun j e h => by
    by_cases hj : i = j
    · subst hj
      by_cases hl : i < ss.length
      · rw [List.getElem?_set_self hl] at h; cases h
      · rw [List.getElem?_eq_none (by simpa using hl)] at h; cases h
    · rw [List.getElem?_set_ne hj] at h
      rw [List.getElem?_set_ne hj]
      exact A.slot j e h
  ownS := fun j p h => by
    by_cases hj : i = j
    · subst hj
      by_cases hl : i < ss.length
      · rw [List.getElem?_set_self hl] at h; cases h
      · rw [List.getElem?_eq_none (by simpa using hl)] at h; cases h
    · rw [List.getElem?_set_ne hj] at h
      rw [List.getElem?_set_ne hj]
      exact A.ownS j p h
  own := A.own
  nd := A.nd
  frs := A.frs
  oE := A.oE
  ent := A.ent
  tab := A.tab
theorem At.wipe (A : At K E B Z ss os σ H) : ∀ vs, At K E B Z (wip ss vs) os (L2.wipe σ vs) H
  | [] => A
  | v :: vs => (A.wipe vs).forget
theorem wipe_self {σ : L2.St} {j : Nat} {x : V} : ∀ {vs : List Nat}, j ∈ vs → L2.wipe ((L2.wipe σ vs).set j (some x)) vs = L2.wipe σ vs := fun {vs} hj => by
  have len : ∀ (τ : L2.St) (ws : List Nat), (L2.wipe τ ws).length = τ.length := fun τ ws => wipe_length τ ws
  have get : ∀ (τ : L2.St) (ws : List Nat) (i : Nat), (L2.wipe τ ws)[i]? = if i ∈ ws ∧ i < τ.length then some none else τ[i]? := by
    intro τ ws
    induction ws with
    | nil => intro i; simp [L2.wipe]
    | cons v r ih =>
      intro i
      show ((L2.wipe τ r).set v none)[i]? = _
      by_cases h : v = i
      · subst h
        by_cases hl : v < τ.length
        · rw [List.getElem?_set_self (by rw [len]; exact hl)]
          simp [hl]
        · rw [List.getElem?_eq_none (by simp [len]; omega)]
          simp [hl]
      · rw [List.getElem?_set_ne h, ih]
        have : (i ∈ v :: r) ↔ (i ∈ r) := by simp [Ne.symm h]
        simp [this]
  apply List.ext_getElem?
  intro i
  rw [get, get, List.length_set, len]
  by_cases h : i ∈ vs ∧ i < σ.length
  · rw [if_pos h, if_pos h]
  · rw [if_neg h, if_neg h]
    by_cases hij : j = i
    · subst hij
      have : ¬ j < σ.length := fun z => h ⟨hj, z⟩
      rw [List.getElem?_eq_none (by simp [len]; omega), List.getElem?_eq_none (by omega)]
    · rw [List.getElem?_set_ne hij, get, if_neg h]
/-- what was free at H1 may be laid and changed -/
theorem Go.past {H1 : Hp} {p : Addr} {o : HO} (g : Go B H1 H) (n : H1 p = none) (tb : Tbl Tbs.tabs H → Tbl Tbs.tabs (upd H p o)) : Go B H1 (upd H p o) :=
  ⟨fun a u nb e => by
    rw [upd_ne (ne_of_none e n)]
    exact g.stp a u nb e, fun b hb l h => by
    have nb : b ≠ p := fun z => h.there (z ▸ n)
    have nl : l ≠ p := fun z => by
      obtain ⟨_, _, _, _, _, e, _⟩ := h
      rw [z, n] at e; cases e
    obtain ⟨x, c, k, ns, e1, e2, r⟩ := g.bag b hb l h
    exact ⟨x, c, k, ns, by rw [upd_ne nb]; exact e1, by rw [upd_ne nl]; exact e2, r⟩, fun t => tb (g.tab t)⟩
theorem At.ownNew {p : Addr} {vs : List V} {ds : List D} (A : At K E B Z ss os σ H) (n : H p = none) (r : RpAll K (era H (ads os ++ E)) vs ds) : At K E B Z ss ((p, .lst ds) :: os) σ (upd H p (.lst vs)) := by
  have h := A.setO (i := ss.length) (vs := vs) (ds := ds) n upd_same (.new n) (r.mono fun a o e _ => by
    obtain ⟨na, e⟩ := era_some e
    have nap : a ≠ p := ne_of_none e n
    rw [era_in (by simp [nap] at *; exact na), upd_ne nap]
    exact e)
  rw [List.set_eq_of_length_le (Nat.le_refl _), List.set_eq_of_length_le (by rw [A.len]; exact Nat.le_refl _)] at h
  exact h
/-- what was made, item by item: by the places that were kept -/
inductive Made (T : Nat → D → Prop) : List Nat → List D → Prop
  | nil : Made T [] []
  | cons {i : Nat} {d : D} {is : List Nat} {ds : List D} : T i d → Made T is ds → Made T (i :: is) (d :: ds)
theorem Made.snoc {T : Nat → D → Prop} {i : Nat} {d : D} (h : T i d) : ∀ {is : List Nat} {ds : List D}, Made T is ds → Made T (is ++ [i]) (ds ++ [d])
  | _, _, .nil => .cons h .nil
  | _, _, .cons a r => .cons a (r.snoc h)
theorem Made.length {T : Nat → D → Prop} : ∀ {is : List Nat} {ds : List D}, Made T is ds → ds.length = is.length
  | _, _, .nil => rfl
  | _, _, .cons _ r => congrArg (· + 1) r.length
theorem Made.map {f : Nat → D} : ∀ {is : List Nat} {ds : List D}, Made (fun i d => d = f i) is ds → ds = is.map f
  | _, _, .nil => rfl
  | _, _, .cons h r => by rw [h, r.map] <;> rfl
theorem ev_lc {wi : TI} {j : Nat} {tt : TT} {vs : List Nat} {PI : List D → Prop} (h : EvI K E B ss o0 wi PI) (hj : j ∈ vs) (hz : ∀ ds, PI ds → ds.length ≤ 1000000) (c : List D → Nat → Bool) (T : List D → Nat → D → Prop)
    (ht : ∀ ds (i : Nat) x, PI ds → ds[i]? = some x → EvT K E B ((wip ss vs).set j (.dat x)) o0 tt (fun b => b = c ds i))
    (he : ∀ ds (i : Nat) x, PI ds → ds[i]? = some x → c ds i = true → Ev K E B true ((wip ss vs).set j (.dat x)) o0 F te (T ds i)) :
    Ev K E B m ss o0 true (tLc wi (gName j) tt te vs) (fun d => ∃ ds outs, PI ds ∧ d = .lst outs ∧ Made (T ds) ((List.range ds.length).filter (c ds)) outs) :=
  fun Z os σ H io A Q q => h Z os σ H io A _ fun J ds H1 g it p => fun Dl nD => by
    have A1 := A.go g
    have Aw := (A1.wipe vs).ownNew nD (vs := []) (ds := []) .nil
    have hlen := hz ds p
    refine ⟨fun i mm H' => mm = ds.length - i ∧ i ≤ ds.length ∧ ∃ outs, At K E B Z (wip ss vs) ((Dl, .lst outs) :: os) (L2.wipe σ vs) H' ∧ Go B H1 H' ∧ Made (T ds) ((List.range i).filter (c ds)) outs,
      ⟨ds.length, by simp, Nat.zero_le _, [], Aw, Go.new nD, .nil⟩, ?_⟩
    rintro i mm H' ⟨rfl, hi, outs, A', g', mk⟩
    obtain ⟨f1, f2, f3⟩ := it H' (fun a o n e t => g'.one (fun z => n (List.mem_append_right _ (A.bE a z))) e t)
    by_cases hlt : i < ds.length
    · refine .inr ⟨f1 i hlt, fun H' => ∃ outs, At K E B Z (wip ss vs) ((Dl, .lst outs) :: os) (L2.wipe σ vs) H' ∧ Go B H1 H' ∧ Made (T ds) ((List.range (i + 1)).filter (c ds)) outs, fun H2 h2 => ⟨ds.length - (i + 1), by omega, rfl, hlt, h2⟩, fun x H2 y => ?_⟩
      obtain ⟨rfl, d, hd, r⟩ := f3 i x H2 hlt y
      have r2 : Rp K (era H2 (ads ((Dl, OD.lst outs) :: os) ++ E)) x d := r.mono fun a o e t => by
        obtain ⟨na, e⟩ := era_some e
        have nap : a ≠ Dl := ne_of_none e nD
        rw [era_in (by simp [nap] at *; exact na)]
        exact g'.one (fun z => na (List.mem_append_right _ (A.bE a z))) e t
      have A2 := A'.set (i := j) r2
      refine ⟨wipe_self hj, ?_⟩
      refine ht ds i d p hd Z _ _ H2 (fun x hx => List.mem_cons_of_mem _ (io x hx)) A2 _ fun b H3 g3 e => ?_
      subst e
      have ef : (List.range (i + 1)).filter (c ds) = (List.range i).filter (c ds) ++ (if c ds i = true then [i] else []) := by
        rw [List.range_succ, List.filter_append, List.filter_cons]
        split <;> rfl
      cases hc : c ds i with
      | false =>
        rw [if_neg Bool.false_ne_true]
        refine ⟨outs, A'.go g3, g'.trans g3, ?_⟩
        rw [ef, hc, if_neg Bool.false_ne_true, List.append_nil]
        exact mk
      | true =>
        rw [if_pos rfl]
        refine he ds i d p hd hc Z _ _ H3 (fun x hx => List.mem_cons_of_mem _ (io x hx)) (A2.go g3) _ fun y e H4 g4 ry _ pe => ?_
        have A4 := A'.go (g3.trans g4)
        obtain ⟨ws, e4, r4⟩ := A4.own Dl _ List.mem_cons_self
        have lo : outs.length ≤ i := by
          rw [mk.length]
          have := List.length_filter_le (c ds) (List.range i)
          rw [List.length_range] at this
          exact this
        refine ⟨ws, e4, ?_, outs ++ [e], A4.put (r4.append (.cons ry .nil)), (g'.trans (g3.trans g4)).past nD fun t => tabs_lst t e4, ?_⟩
        · rw [r4.length]
          exact Nat.lt_of_le_of_lt lo (Nat.lt_of_lt_of_le hlt (Nat.le_trans hlen (by decide)))
        · rw [ef, hc, if_pos rfl]
          exact mk.snoc pe
    · have : i = ds.length := by omega
      subst this
      refine .inl ⟨f2 _ (Nat.le_refl _), ?_⟩
      obtain ⟨ws, e, r⟩ := A'.own Dl _ List.mem_cons_self
      have nE : Dl ∉ ads os ++ E := fun z => by
        rcases List.mem_append.mp z with z | z
        · exact A1.tracked z nD
        · exact A1.ent Dl z nD
      have sub : ∀ a, a ∈ er m os E → a ∈ Dl :: (ads os ++ E) := fun a ha => by
        cases m with
        | true => exact List.mem_cons_of_mem _ ha
        | false => exact List.mem_cons_of_mem _ (List.mem_append_right _ ha)
      refine q _ _ H' (g.trans g') (.lst (xs := ws) ?_ (r.mono (era_less H' sub))) (fun _ => ⟨Dl, ws, outs, rfl, rfl, g.free A.bag nD, e, r.mono (era_less H' fun a ha => ?_)⟩) ⟨ds, outs, p, rfl, mk⟩
      · rw [era_in]
        · exact e
        · cases m with
          | true => exact nE
          | false => exact fun z => nE (List.mem_append_right _ z)
      · rcases List.mem_cons.mp ha with rfl | ha
        · exact List.mem_cons_self
        · exact sub a ha
theorem et_yes : EvT K E B ss o0 tYes (fun b => b = true) := fun Z os σ H i A Q q => q true H .refl rfl
theorem filter_true {n : Nat} : (List.range n).filter (fun _ => true) = List.range n := List.filter_eq_self.mpr fun _ _ => rfl
/-- without a test, each item told by its source -/
theorem ev_lcD {wi : TI} {j : Nat} {vs : List Nat} {ds : List D} (f : D → D) (h : EvID K E B ss o0 wi ds) (hj : j ∈ vs) (hz : ds.length ≤ 1000000) (he : ∀ x, x ∈ ds → Ev K E B true ((wip ss vs).set j (.dat x)) o0 F te (fun d => d = f x)) :
    Ev K E B m ss o0 true (tLc wi (gName j) tYes te vs) (fun d => d = .lst (ds.map f)) :=
  (ev_lc (T := fun ds i d => ∃ x, ds[i]? = some x ∧ d = f x) (c := fun _ _ => true) h hj (fun _ e => e ▸ hz) (fun _ _ _ _ _ => et_yes) (fun es i x e hx _ => (he x (by subst e; exact List.mem_of_getElem? hx)).impF fun d hd => ⟨x, hx, hd⟩)).impF fun d hd => by
    obtain ⟨es, outs, rfl, rfl, mk⟩ := hd
    rw [filter_true] at mk
    have gen : ∀ (is : List Nat) (outs : List D), Made (fun i d => ∃ x, es[i]? = some x ∧ d = f x) is outs → outs = is.map fun i => f (es.getD i .non) := fun is outs mk => by
      induction mk with
      | nil => rfl
      | cons h _ ih =>
        obtain ⟨x, e1, e2⟩ := h
        rw [List.map_cons, ← ih, e2, List.getD_eq_getElem?_getD, e1] <;> rfl
    rw [gen _ _ mk]
    congr 1
    apply List.ext_getElem?
    intro i
    rw [List.getElem?_map, List.getElem?_map]
    by_cases hi : i < es.length
    · rw [List.getElem?_range hi, List.getElem?_eq_getElem hi]
      show some (f (es.getD i .non)) = some (f es[i])
      rw [List.getD_eq_getElem?_getD, List.getElem?_eq_getElem hi] <;> rfl
    · rw [List.getElem?_eq_none (by simp; omega), List.getElem?_eq_none (by omega)] <;> rfl
end
end Da
namespace Da
open PySem L2 PyProof.Rows
variable [Tbs]

/-! ### data as the library's data -/
mutual
def D.py : D → PyData
  | .bl b => .bool b
  | .int i => .int i
  | .str s => .str (mk s)
  | .lst ds => .list (pyAll ds)
  | .tup ds => .tuple (pyAll ds)
  | .non | .dic _ | .obj _ _ | .raw _ | .rdl _ | .rdd _ _ | .fn _ _ _ => .none
def pyAll : List D → List PyData
  | [] => []
  | d :: ds => d.py :: pyAll ds
end
/-- plain data of a weight, a depth -/
inductive Pl : Nat → Nat → D → Prop
  | non {w n : Nat} : Pl w n .non
  | bl {w n : Nat} (b : Bool) : Pl w n (.bl b)
  | int {w n : Nat} {i : Int} : i.natAbs < 10 ^ 50 → 170 ≤ w → Pl w n (.int i)
  | str {w n : Nat} {s : List Nat} : (∀ c ∈ s, c < 128) → s.length ≤ w → Pl w n (.str s)
  | lst {w n v : Nat} {ds : List D} : (∀ d ∈ ds, Pl v n d) → ds.length * (v + 1) ≤ w → Pl w (n + 1) (.lst ds)
  | tup {w n v : Nat} {ds : List D} : (∀ d ∈ ds, Pl v n d) → ds.length * (v + 1) ≤ w → Pl w (n + 1) (.tup ds)
structure PlOk (w n : Nat) (p : PyData) : Prop where
  lay : p.canLay0 = true
  dep : p.depth ≤ n
  wt : p.weight ≤ w
  lv : p.leavesShort 60 = true
  sh : p.showable = true
theorem pyAll_ok {v n : Nat} : ∀ {ds : List D}, (∀ d ∈ ds, PlOk v n d.py) → PyData.canLayAll0 (pyAll ds) = true ∧ PyData.depthAll (pyAll ds) ≤ n ∧ PyData.weightAll (pyAll ds) ≤ ds.length * (v + 1) ∧ PyData.leavesShortAll 60 (pyAll ds) = true ∧ PyData.showableAll (pyAll ds) = true
  | [], _ => ⟨rfl, Nat.zero_le _, by simp [pyAll, PyData.weightAll], rfl, rfl⟩
  | d :: ds, h => by
    have h1 := h d List.mem_cons_self
    obtain ⟨a, b, c, e, f⟩ := pyAll_ok (ds := ds) fun x hx => h x (List.mem_cons_of_mem _ hx)
    refine ⟨?_, ?_, ?_, ?_, ?_⟩
    · simp [pyAll, PyData.canLayAll0, h1.lay, a]
    · simp only [pyAll, PyData.depthAll]; exact Nat.max_le.mpr ⟨h1.dep, b⟩
    · simp only [pyAll, PyData.weightAll, List.length_cons]
      have := h1.wt
      rw [Nat.succ_mul]
      omega
    · simp [pyAll, PyData.leavesShortAll, h1.lv, e]
    · simp [pyAll, PyData.showableAll, h1.sh, f]
theorem int_short {i : Int} (h : i.natAbs < 10 ^ 50) : i.natAbs.log2 < 170 := by
  by_cases h0 : i.natAbs = 0
  · rw [h0]; decide
  · exact (Nat.log2_lt h0).mpr (Nat.lt_trans h (by decide))
theorem shown_int_len {i : Int} (h : i.natAbs < 10 ^ 50) : (PyData.shown (.int i)).length ≤ 60 := by
  have e := int_text_length_le10 (k := 50) (by decide) h
  show (Str.ofString (toString i)).length ≤ 60
  rw [PySem.ofString_length]
  omega
theorem Pl.ok : ∀ {w n : Nat} {d : D}, Pl w n d → PlOk w n d.py
  | w, n, _, .non => ⟨rfl, Nat.zero_le _, Nat.zero_le _, rfl, rfl⟩
  | w, n, _, .bl b => ⟨rfl, Nat.zero_le _, Nat.zero_le _, rfl, rfl⟩
  | w, n, _, .int (i := i) h hw => ⟨rfl, Nat.zero_le _, by
      show (if i == 0 then 0 else i.natAbs.log2 + 1) ≤ w
      have := int_short h
      split <;> omega, by
      show decide _ = true
      exact decide_eq_true (shown_int_len h), by
      show decide (i.natAbs.log2 < 1920) = true
      exact decide_eq_true (by have := int_short h; omega)⟩
  | w, n, _, .str (s := s) h hw => ⟨by
      show PyData.strOk (mk s) = true
      unfold PyData.strOk mk
      simp
      intro c hc
      exact Nat.lt_trans (h c hc) (by decide), Nat.zero_le _, by
      show (mk s).cps.size ≤ w
      exact Nat.le_trans (Nat.le_of_eq (mk_len s)) hw, by
      show ((mk s).cps.toList.all fun c => decide (c < 16 ^ 8)) = true
      rw [mk_cps]
      exact List.all_eq_true.mpr fun c hc => decide_eq_true (Nat.lt_trans (h c hc) (by decide)), rfl⟩
  | w, _, _, .lst (n := n) (v := v) (ds := ds) h hw => by
    obtain ⟨a, b, c, e, f⟩ := pyAll_ok fun d hd => (h d hd).ok
    exact ⟨by simpa [D.py, PyData.canLay0] using a, by simp only [D.py, PyData.depth]; omega, by simp only [D.py, PyData.weight]; omega, by simpa [D.py, PyData.leavesShort] using e, by simpa [D.py, PyData.showable] using f⟩
  | w, _, _, .tup (n := n) (v := v) (ds := ds) h hw => by
    obtain ⟨a, b, c, e, f⟩ := pyAll_ok fun d hd => (h d hd).ok
    exact ⟨by simpa [D.py, PyData.canLay0] using a, by simp only [D.py, PyData.depth]; omega, by simp only [D.py, PyData.weight]; omega, by simpa [D.py, PyData.leavesShort] using e, by simpa [D.py, PyData.showable] using f⟩
section
variable {K : PySem.W.Frag} {H : Hp}
mutual
theorem Rp.dpD : ∀ (d : D) {v : V} {w n : Nat}, Rp K H v d → Pl w n d → Dp K H v d.py
  | .non, _, _, _, r, _ => by cases r; exact .non
  | .bl b, _, _, _, r, _ => by cases r; exact .bl b
  | .int i, _, _, _, r, _ => by cases r; exact .int i
  | .str s, _, _, _, r, _ => by cases r; exact .str _
  | .lst ds, _, _, _, r, p => by
    cases r with
    | lst h1 h2 =>
      cases p with
      | lst q _ => exact .lst (.inl (.inl h1)) (RpAll.dpD ds h2 q)
  | .tup ds, _, _, _, r, p => by
    cases r with
    | tup h1 h2 =>
      cases p with
      | tup q _ => exact .tup h1 (RpAll.dpD ds h2 q)
  | .dic _, _, _, _, _, p => by cases p
  | .obj _ _, _, _, _, _, p => by cases p
  | .raw _, _, _, _, _, p => by cases p
  | .rdl _, _, _, _, _, p => by cases p
  | .rdd _ _, _, _, _, _, p => by cases p
  | .fn _ _ _, _, _, _, _, p => by cases p
theorem RpAll.dpD : ∀ (ds : List D) {vs : List V} {w n : Nat}, RpAll K H vs ds → (∀ d ∈ ds, Pl w n d) → DpAll K H vs (pyAll ds)
  | [], _, _, _, r, _ => by cases r; exact .nil
  | d :: ds, _, _, _, r, p => by
    cases r with
    | cons h t => exact .cons (Rp.dpD d h (p _ List.mem_cons_self)) (RpAll.dpD ds t fun x hx => p x (List.mem_cons_of_mem _ hx))
end
theorem Rp.dp {v : V} {d : D} {w n : Nat} (r : Rp K H v d) (p : Pl w n d) : Dp K H v d.py := Rp.dpD d r p
end
theorem PlOk.shaped {w n : Nat} {p : PyData} (h : PlOk w n p) (hn : n ≤ 60) : SeqAt.shaped p = true := by
  unfold SeqAt.shaped
  rw [h.lay, Bool.true_and]
  exact decide_eq_true (by have := h.dep; omega)
theorem PlOk.shown {w n : Nat} {p : PyData} (h : PlOk w n p) (hw : w ≤ 250000) : p.shown.length ≤ sizeLine := by
  have := PyData.shown_le 60 (by decide) p h.lv
  have h2 := h.wt
  have : sizeLine = 16777216 := by decide
  omega

/-! ### equality of data, repr -/
section
variable {K : PySem.W.Frag} {B : List Addr}
/-- the same data -/
theorem o_eqSame {d : D} {w n : Nat} (p : Pl w n d) (hn : n ≤ 60) : Op2 K B (rEqD K) d d false (fun x => x = .bl true) := fun R H v u _ r1 r2 Q q => by
  have ok := p.ok
  refine ⟨d.py, d.py, (r1.mono (era_sub _ _).sub).dp p, (r2.mono (era_sub _ _).sub).dp p, ok.shaped hn, ok.shaped hn, ?_⟩
  rw [SeqAt.eqv_refl _ ok.lay]
  exact q _ _ H .refl (.bl true) (fun z => absurd z (by simp)) rfl
theorem o_neSame {d : D} {w n : Nat} (p : Pl w n d) (hn : n ≤ 60) : Op2 K B (rNeD K) d d false (fun x => x = .bl false) := fun R H v u _ r1 r2 Q q => by
  have ok := p.ok
  refine ⟨d.py, d.py, (r1.mono (era_sub _ _).sub).dp p, (r2.mono (era_sub _ _).sub).dp p, ok.shaped hn, ok.shaped hn, ?_⟩
  rw [SeqAt.eqv_refl _ ok.lay]
  exact q _ _ H .refl (.bl false) (fun z => absurd z (by simp)) rfl
/-- any plain data -/
theorem o_eqPy {d e : D} {w n w' n' : Nat} (p : Pl w n d) (p' : Pl w' n' e) (hn : n ≤ 60) (hn' : n' ≤ 60) : Op2 K B (rEqD K) d e false (fun x => x = .bl (PyData.eqv d.py e.py)) := fun R H v u _ r1 r2 Q q =>
  ⟨d.py, e.py, (r1.mono (era_sub _ _).sub).dp p, (r2.mono (era_sub _ _).sub).dp p', p.ok.shaped hn, p'.ok.shaped hn', q _ _ H .refl (.bl _) (fun z => absurd z (by simp)) rfl⟩
theorem o_nePy {d e : D} {w n w' n' : Nat} (p : Pl w n d) (p' : Pl w' n' e) (hn : n ≤ 60) (hn' : n' ≤ 60) : Op2 K B (rNeD K) d e false (fun x => x = .bl (!PyData.eqv d.py e.py)) := fun R H v u _ r1 r2 Q q =>
  ⟨d.py, e.py, (r1.mono (era_sub _ _).sub).dp p, (r2.mono (era_sub _ _).sub).dp p', p.ok.shaped hn, p'.ok.shaped hn', q _ _ H .refl (.bl _) (fun z => absurd z (by simp)) rfl⟩
end
section
variable {X : Cx}
/-- repr of plain data, where no repr runs around -/
def rRepr (K : PySem.W.Frag) : List V → Hp → VK → Prop := fun xs H Q => ∃ x d, xs = [x] ∧ Dp K H x d ∧ SeqAt.shaped d = true ∧ d.showable = true ∧ d.shown.length ≤ sizeLine ∧ Q (.str d.shown) H
theorem cr_repr (hg : X.A.guards = some []) (hu : X.A.units + 128 < cLine) : CallR X (.builtin "repr") (rRepr X.K) := by
  intro pins s σ H xs us Q I r h
  obtain ⟨x, d, rfl, hd, hs, hw, hz, q⟩ := h
  cases r with
  | @cons _ u _ us rx rr =>
    cases rr
    have fin : ∀ (tk : Tok) (h' : Heap), (∀ b o, s.heap.get? b = some o → h'.get? b = some o) → ∀ tk', EP X pins σ Q (.str d.shown tk) { s with heap := h', toks := tk' } := fun tk h' hk tk' => ⟨.str d.shown, H, I.kept hk, ⟨tk, rfl⟩, q⟩
    cases hd with
    | non => cases (show u = Value.none from rx); exact P.repr_of_none (fin _ s.heap (fun _ _ e => e) _)
    | bl b => cases (show u = Value.bool b from rx); exact P.repr_of_bool (fin _ s.heap (fun _ _ e => e) _)
    | int i =>
      obtain ⟨t, e⟩ := (show ∃ t, u = Value.int i t from rx)
      cases e
      exact P.repr_of_int (of_decide_eq_true hw) (fin _ s.heap (fun _ _ e => e) _)
    | str z =>
      obtain ⟨t, e⟩ := (show ∃ t, u = Value.str z t from rx)
      cases e
      exact P.repr_of_str (fin _ s.heap (fun _ _ e => e) _) (hsz := hz)
    | @lst a xs ds h1 h2 =>
      cases (show u = Value.ref a from rx)
      obtain ⟨as, rd⟩ := Dp.reads I _ _ _ (.lst h1 h2) rx
      refine repr_of_reads' rd hw (PyData.noDict_hsm (PyData.hasDict_of_canLay _ (SeqAt.canLay_of_shaped hs))) hg (by have := SeqAt.depth_of_shaped hs; omega) (fun _ _ e => e) (fun h' u tk hk => fin u h' hk tk) hz
    | @tup a xs ds h1 h2 =>
      cases (show u = Value.ref a from rx)
      obtain ⟨as, rd⟩ := Dp.reads I _ _ _ (.tup h1 h2) rx
      refine repr_of_reads' rd hw (PyData.noDict_hsm (PyData.hasDict_of_canLay _ (SeqAt.canLay_of_shaped hs))) hg (by have := SeqAt.depth_of_shaped hs; omega) (fun _ _ e => e) (fun h' u tk hk => fin u h' hk tk) hz
end
section
variable {K : PySem.W.Frag} {B : List Addr}
theorem c_repr {d : D} {w n : Nat} (p : Pl w n d) (hw : w ≤ 250000) (hn : n ≤ 60) : OpA K B (rRepr K) [d] false (fun x => x = .str (d.py.shown.cps.toList)) := fun R H vs _ r Q q => by
  cases r with
  | cons h t =>
    cases t
    have ok := p.ok
    refine ⟨_, d.py, rfl, (h.mono (era_sub _ _).sub).dp p, ok.shaped hn, ok.sh, ok.shown hw, ?_⟩
    refine q _ _ H .refl ?_ (fun z => absurd z (by simp)) rfl
    have := Rp.str (K := K) (H := era H R) (d.py.shown.cps.toList)
    rw [mk_of] at this
    exact this
end

/-! ### defs that are called where no repr runs -/
structure FnG (P : Program) (w : World) (K : PySem.W.Frag) (mg : Str → Option Value) (base : Heap) (CX : CXT) (k : Nat) (f : Addr) (fd : FuncData) (ps : List Str) (sp : Sp) : Prop where
  len : ∀ vs H Q E, sp vs H Q E → vs.length = ps.length
  run : ∀ (A : Around), A.guards = some [] → ∀ (outer : List Env) (s : Shared) (H : Hp) (args : Args) (us : List Value) (vs : List V) (Q : VK) (E : XK), Room k A → Env0 P w K mg base A outer s H → BindsTo s fd args (ps.zip us) → Vals vs us → sp vs H Q E →
    codeAny (model P w) A (.call (.ref f) args) (CR CX outer P w H s Q E) s
theorem FnG.of {P : Program} {w : World} {K : PySem.W.Frag} {mg : Str → Option Value} {base : Heap} {CX : CXT} {k : Nat} {f : Addr} {fd : FuncData} {ps : List Str} {sp : Sp} (F : FnOk P w K mg base CX k f fd ps sp) : FnG P w K mg base CX k f fd ps sp :=
  ⟨F.len, fun A _ outer s H args us vs Q E => F.run A outer s H args us vs Q E⟩
section
variable {X : Cx} {CX : CXT} {k : Nat} {f : Addr} {fd : FuncData} {ps : List Str} {sp : Sp} {dvs : List V} {ds : List Value} {E : XK} {x : Str} {p pos : Pos} {e : Expr} {es : List Expr} {t : TA}
theorem run_fnG {pins : List (Addr × Obj)} {σ : L2.St} {H : Hp} {s : Shared} {Q : VK} {us : List Value} {vs : List V} (F : FnG X.prog X.w X.K X.mg X.base CX k f fd ps sp) (hG : X.A.guards = some []) (hr : Room k X.A) (hb : Binds X.K fd ps ds) (hd : Vals dvs ds) (hx : Passes CX X E)
    (I : Inv X pins σ H s) (r : Vals vs us) (h : sp (vs ++ dvs) H Q E) : wpAny (model X.prog X.w) X.A (call (.ref f) us) (EP X pins σ Q) X.xe s := by
  have both := r.append hd
  have count : (us ++ ds).length = ps.length := both.length.symm.trans (F.len _ _ _ _ h)
  refine wpAny_call (codeAny_mono (F.run X.A hG X.stack s H ⟨us, []⟩ _ _ Q E hr I.env0 (hb s us I.kIn count) both h) fun res s' got => ?_)
  match res, got with
  | .error e, got => exact hx pins σ H s e s' I got
  | .ok (.ret u), got => exact I.after got
theorem pe_callG (F : FnG X.prog X.w X.K X.mg X.base CX k f fd ps sp) (hG : X.A.guards = some []) (hr : Room k X.A) (hg : Gl X x) (hm : X.mg x = some (.ref f)) (hk : PySem.W.keepIn X.K (.ref f) = true) (hb : Binds X.K fd ps ds) (hd : Vals dvs ds) (hx : Passes CX X E)
    (ha : PA X (e :: es) t) (hdb : (x == ("__debug__" : Str)) = false := by decide) (he : starEach (e :: es) X.env = (false, eval e X.env) :: starEach es X.env := by rfl) (hpl : (backTo pos (starEach es X.env)).any (·.1) = false := by rfl) :
    PE X (.Call (.Name x p) (e :: es) [] pos) (tCall sp dvs E t) := ⟨fun pins s σ H Q I h =>
  wpAny_Call_Name_kw (ld_glob I hg hm (PySem.W.callWith_K (h₀ := X.base) I.ok.mod.kin hk (thn (ha.run pos pins s σ H _ I h) fun us s1 ⟨vs, H1, I1, r, q⟩ => ⟨I1.kIn, run_fnG F hG hr hb hd hx I1 r q⟩) he hpl) hdb)⟩
end
section
variable {P : Program} {w : World} {K : PySem.W.Frag} {mg : Str → Option Value} {base : Heap}
/-- a def by its body, where no repr runs around -/
theorem fnG_of {CX : CXT} {k : Nat} {f : Addr} {name qual : Str} {params : Arguments} {body : List Stmt} {scope : Scope} {dV kV doc pm cdv ct oc : Value} {an od : Option Addr}
    {osl : Array (Option Value)} {N ps : List Str} {sp : Sp} (lk : K.lookup f = some ⟨oc, od, .func (PySem.W.fnOf name qual params body scope dV kV doc pm an cdv ct), osl⟩) (hcd : PySem.W.codeIn K cdv qual = true) (S : FnScope N ps scope)
    (len : ∀ vs H Q E, sp vs H Q E → vs.length = ps.length)
    (hbody : ∀ (A : Around), A.guards = some [] → ∀ (outer : List Env) (s : Shared) (H : Hp) (vs : List V) (Q : VK) (E : XK), Room k (A.deeper (envOfC qual scope s.heap.objs.size f cdv)) → sp vs H Q E →
      ∃ t, PSs (cxOf CX P w K mg base N qual scope f cdv A outer s H E) body t ∧ t { nx := fun _ H' => Q .non H', rt := Q } (start N vs) H) :
    FnG P w K mg base CX (k + 1) f (PySem.W.fnOf name qual params body scope dV kV doc pm an cdv ct) ps sp := by
  refine ⟨len, fun A hG outer s H args us vs Q E room e0 binds rel promise => ?_⟩
  have atBase := fun b o e => (e0.bs b o e).1
  have KX : K.In s.heap := e0.mod.kin.keeps atBase
  refine codeAny_call_function room.depth (KX _ _ lk) rfl S.co S.gen rfl (PySem.W.codeRec_of KX hcd) (binds _ _ _ _ ?_)
  refine wpAny_newFunctionEnv_cells S.kind (fun ⟨n, v⟩ hy => ?_) fun env he s1 x => ?_
  · rcases S.par n (List.of_mem_zip hy).1 with q | q
    · exact .inl q
    · exact .inr ⟨q, PySem.W.cellsFrom_some _ _ _ (.inl q)⟩
  subst he
  refine ⟨(e0.mod.nolimit.keeps atBase).keeps x.toInCall.keep, codeAny_func ?_⟩
  obtain ⟨t, ht, hq⟩ := hbody A hG outer s H vs Q E (room.deeper _) promise
  have I := inv_start (CX := CX) (E := E) S room.hd e0 (len _ _ _ _ promise) rel x
  refine wpAny_mono (ht.run [] s1 _ H _ I hq) (fun fl s' hs => ?_) fun e s' hs => hs
  match fl, hs with
  | .ret u, ⟨v, σ', H', J, rv, q⟩ => exact ⟨v, H', J.os, J.bare, J.base, J.hok, rv, q⟩
  | .next, ⟨σ', H', J, q⟩ => exact ⟨V.non, H', J.os, J.bare, J.base, J.hok, rfl, q⟩
  | .brk, ⟨_, _, _, q⟩ => exact q.elim
  | .cont, ⟨_, _, _, q⟩ => exact q.elim
end
end Da
namespace Da
open PySem L2 PyProof.Rows
variable [Tbs]

section
variable {P : Program} {w : World} {K : PySem.W.Frag} {mg : Str → Option Value} {base : Heap}
/-- the slots at the entry -/
def begin (N : List Str) (ds : List D) : List Sl := ds.map Sl.dat ++ List.replicate (N.length - ds.length) .any
theorem At.start {R B : List Addr} {N : List Str} {vs : List V} {ds : List D} {H : Hp} (rg : Rg B R H) (r : RpAll K (era H R) vs ds) : At K R B [(B, H)] (begin N ds) [] (L2.start N vs) H where
  len := by
    unfold begin L2.start
    rw [List.length_append, List.length_append, List.length_map, List.length_map, List.length_replicate, List.length_replicate, r.length]
  stp := fun z hz a o n e => by
    rcases List.mem_cons.mp hz with rfl | hz
    · exact stays e
    · cases hz
  bag := rg.bag
  bgo := fun z hz b hb l e => by
    rcases List.mem_cons.mp hz with rfl | hz
    · exact e
    · cases hz
  bE := rg.bE
  bW := fun z hz b hb => by
    rcases List.mem_cons.mp hz with rfl | hz
    · exact hb
    · cases hz
  slot := fun i d e => by
    unfold begin at e
    by_cases hi : i < ds.length
    · rw [List.getElem?_append_left (by simpa using hi), List.getElem?_map] at e
      cases q : ds[i]? with
      | none => rw [q] at e; cases e
      | some d' =>
        rw [q] at e
        cases e
        obtain ⟨v, h1, h2⟩ := r.get q
        refine ⟨v, ?_, h2⟩
        unfold L2.start
        rw [List.getElem?_append_left (by rw [List.length_map, r.length]; exact hi), List.getElem?_map, h1] <;> rfl
    · rw [List.getElem?_append_right (by simpa using hi), List.getElem?_replicate] at e
      split at e <;> cases e
  ownS := fun i p e => by
    unfold begin at e
    by_cases hi : i < ds.length
    · rw [List.getElem?_append_left (by simpa using hi), List.getElem?_map] at e
      cases q : ds[i]? with
      | none => rw [q] at e; cases e
      | some d' => rw [q] at e; cases e
    · rw [List.getElem?_append_right (by simpa using hi), List.getElem?_replicate] at e
      split at e <;> cases e
  own := fun p od h => nomatch h
  nd := List.nodup_nil
  frs := fun _ _ p h => nomatch h
  oE := fun p h => nomatch h
  ent := rg.ent
  tab := rg.tab
/-- a def told by data -/
theorem okD {x qual : Str} {st : Stmt} {f : Addr} {fd : FuncData} {N ps : List Str} {k : Nat} {wb : Bool} {pre : List D → Prop} {F : Bool} {post : List D → D → Prop} (Fu : Fun K x qual st f fd) (S : FnScope N ps (defScope st)) (len : ∀ ds, pre ds → ds.length = ps.length)
    (hbody : ∀ (cdv : Value) (A : Around) (outer : List Env) (s : Shared) (H : Hp) (E : XK), Room k (A.deeper (envOfC qual (defScope st) s.heap.objs.size f cdv)) →
      ∃ t, PSs (cxOf CX0 P w K mg base N qual (defScope st) f cdv A outer s H E).nox (defBody st) t ∧
        ∀ R ds σ Q, pre ds → Bags (bagsOf wb ds) R H → At K R (bagsOf wb ds) [(bagsOf wb ds, H)] (begin N ds) [] σ H → Tells K R (bagsOf wb ds) H F (post ds) Q → t { nx := fun _ H' => Q .non H', rt := Q } σ H) :
    FnOk P w K mg base CX0 (k + 1) f fd ps (SpX K wb pre F post) := by
  refine Fu.ok S (fun vs H Q E h => ?_) (fun cdv A outer s H vs Q E hr h => ?_)
  · obtain ⟨R, ds, _, r, p, _⟩ := h
    rw [r.length]
    exact len ds p
  · obtain ⟨R, ds, rg, r, p, q⟩ := h
    obtain ⟨t, ht, hq⟩ := hbody cdv A outer s H E hr
    exact ⟨t, ht, hq R ds _ Q p rg.bag (.start rg r) q⟩
theorem okG {x qual : Str} {st : Stmt} {f : Addr} {fd : FuncData} {N ps : List Str} {k : Nat} {sp : Sp} (Fu : Fun K x qual st f fd) (S : FnScope N ps (defScope st)) (len : ∀ vs H Q E, sp vs H Q E → vs.length = ps.length)
    (hbody : ∀ (cdv : Value) (A : Around) (outer : List Env) (s : Shared) (H : Hp) (vs : List V) (Q : VK) (E : XK), A.guards = some [] → Room k (A.deeper (envOfC qual (defScope st) s.heap.objs.size f cdv)) → sp vs H Q E →
      ∃ t, PSs (cxOf CX0 P w K mg base N qual (defScope st) f cdv A outer s H E).nox (defBody st) t ∧ t { nx := fun _ H' => Q .non H', rt := Q } (L2.start N vs) H) : FnG P w K mg base CX0 (k + 1) f fd ps sp := by
  obtain ⟨oc, od, kV, doc, pm, an, cdv, ct, osl, rfl, lk, hcd⟩ := Fu.ex
  refine fnG_of lk hcd S len fun A hG outer s H vs Q E hr hsp => ?_
  obtain ⟨t, h, q⟩ := hbody cdv A outer s H vs Q E hG hr hsp
  exact ⟨t, h.nox, q⟩
theorem okGD {x qual : Str} {st : Stmt} {f : Addr} {fd : FuncData} {N ps : List Str} {k : Nat} {wb : Bool} {pre : List D → Prop} {F : Bool} {post : List D → D → Prop} (Fu : Fun K x qual st f fd) (S : FnScope N ps (defScope st)) (len : ∀ ds, pre ds → ds.length = ps.length)
    (hbody : ∀ (cdv : Value) (A : Around) (outer : List Env) (s : Shared) (H : Hp) (E : XK), A.guards = some [] → Room k (A.deeper (envOfC qual (defScope st) s.heap.objs.size f cdv)) →
      ∃ t, PSs (cxOf CX0 P w K mg base N qual (defScope st) f cdv A outer s H E).nox (defBody st) t ∧
        ∀ R ds σ Q, pre ds → Bags (bagsOf wb ds) R H → At K R (bagsOf wb ds) [(bagsOf wb ds, H)] (begin N ds) [] σ H → Tells K R (bagsOf wb ds) H F (post ds) Q → t { nx := fun _ H' => Q .non H', rt := Q } σ H) :
    FnG P w K mg base CX0 (k + 1) f fd ps (SpX K wb pre F post) := by
  refine okG Fu S (fun vs H Q E h => ?_) (fun cdv A outer s H vs Q E hG hr h => ?_)
  · obtain ⟨R, ds, _, r, p, _⟩ := h
    rw [r.length]
    exact len ds p
  · obtain ⟨R, ds, rg, r, p, q⟩ := h
    obtain ⟨t, ht, hq⟩ := hbody cdv A outer s H E hG hr
    exact ⟨t, ht, hq R ds _ Q p rg.bag (.start rg r) q⟩

/-- a def of the text with its promise, as a caller wants it -/
structure Gd (P : Program) (w : World) (K : PySem.W.Frag) (mg : Str → Option Value) (base : Heap) (k : Nat) (nm : Str) (f : Addr) (fd : FuncData) (ps : List Str) (sp : Sp) : Prop where
  ok : FnOk P w K mg base CX0 k f fd ps sp
  mg : mg nm = some (.ref f)
  kp : PySem.W.keepIn K (.ref f) = true
  b : Binds K fd ps []
structure GdG (P : Program) (w : World) (K : PySem.W.Frag) (mg : Str → Option Value) (base : Heap) (k : Nat) (nm : Str) (f : Addr) (fd : FuncData) (ps : List Str) (sp : Sp) : Prop where
  ok : FnG P w K mg base CX0 k f fd ps sp
  mg : mg nm = some (.ref f)
  kp : PySem.W.keepIn K (.ref f) = true
  b : Binds K fd ps []
end

section
variable {X : Cx}
/-- a list's item, for a store by an operator -/
theorem get_list : PGet X (rIxL X.K) := by
  intro pins s σ H o i ov iv Q I ro ri h
  obtain ⟨p, xs, j, z, rfl, rfl, hq, he, q⟩ := h
  cases ro
  obtain ⟨t, rfl⟩ := ri
  obtain ⟨its, r, pl, hz⟩ := I.list hq
  obtain ⟨n, h1, h2, h3, h4, h5⟩ := atI_get he
  obtain ⟨u, eu, ru⟩ := r.get h2
  have hn := line63
  have fin : EP X pins σ Q u s := ⟨z, H, I, ru, q⟩
  by_cases h0 : 0 ≤ j
  · have hj : j.toNat = n := by
      rw [seqIndex_of h0 h5] at h1
      exact Option.some.inj h1
    exact wpAny_getItem_list pl.isList h0 (by omega) (by rw [hj]; simpa using eu) fin
  · have hj : (j + (its.toArray.size : Int)).toNat = n := by
      rw [seqIndex_neg (by omega) h4] at h1
      rw [List.size_toArray, ← r.length]
      exact Option.some.inj h1
    exact wpAny_getItem_list_neg pl.isList (by omega) (by rw [List.size_toArray] <;> have := r.length <;> omega) (by omega) (by rw [hj]; simpa using eu) fin
end

/-! ### the law's bag -/
/-- what the def that makes the bag promises -/
def SpBag (K : PySem.W.Frag) : Sp := fun vs H Q _ => ∃ (a : Addr) (ns : List Int), vs = [.ref a] ∧ SqL K H a (ns.map V.int) ∧ ns.length ≤ 63 ∧ Tbl Tbs.tabs H ∧ ∀ b l H', Tbl Tbs.tabs H' → H b = none → H l = none → b ≠ l → BagL H' b l → Q (.ref b) H'
/-- bag = _law_bag(script), at the law's begin -/
theorem s_bag {K : PySem.W.Frag} {N : List Str} {a : Addr} {ns : List Int} {H : Hp} {X : XK} {Dn : Ends} (h : SqL K H a (ns.map V.int)) (hl : ns.length ≤ 63) (ht : Tbl Tbs.tabs H) (hN : 1 < N.length)
    (k : ∀ b l σ' H', At K [b, l] [b] [] ((begin N [.non]).set 0 .any |>.set 1 (.dat (.raw (.ref b)))) [] σ' H' → Dn.nx σ' H') : tAsg (tCall (SpBag K) [] X (tCons (tVar 0) tNil)) (gName 1) Dn (L2.start N [.ref a]) H := by
  refine ⟨.ref a, ?_, a, ns, rfl, h, hl, ht, fun b l H' s nb nl ne g => ?_⟩
  · rfl
  refine k b l _ H' ?_
  have lenN : (begin N [D.non]).length = N.length := by
    unfold begin
    simp
    omega
  have lenS : (L2.start N [V.ref a]).length = N.length := by
    unfold L2.start
    simp
    omega
  have get1 : ∀ (i : Nat) (x : Sl), i ≠ 0 → i ≠ 1 → (((begin N [.non]).set 0 .any).set 1 (.dat (.raw (.ref b))))[i]? = some x → x = .any := fun i x h0 h1 e => by
    rw [List.getElem?_set_ne (Ne.symm h1), List.getElem?_set_ne (Ne.symm h0)] at e
    unfold begin at e
    rw [List.getElem?_append_right (by simp; omega), List.getElem?_replicate] at e
    split at e
    · exact (Option.some.inj e).symm
    · cases e
  refine ⟨by rw [List.length_set, List.length_set, List.length_set, lenN, lenS], fun z hz => (nomatch hz), fun c hc => ?_, fun z hz => (nomatch hz), fun c hc => ?_, fun z hz => (nomatch hz), fun i d e => ?_, fun i p e => ?_, fun p od h => (nomatch h), List.nodup_nil, fun z hz => (nomatch hz), fun p h => (nomatch h), fun e he => ?_, s⟩
  · have : c = b := by simpa using hc
    subst this
    exact ⟨l, by simp, g⟩
  · have : c = b := by simpa using hc
    subst this
    simp
  · by_cases h1 : i = 1
    · subst h1
      rw [List.getElem?_set_self (by rw [List.length_set, lenN]; exact hN)] at e
      cases e
      exact ⟨.ref b, by rw [List.getElem?_set_self (by rw [lenS]; exact hN)], .raw _⟩
    · by_cases h0 : i = 0
      · subst h0
        rw [List.getElem?_set_ne (by decide), List.getElem?_set_self (by rw [lenN]; omega)] at e
        cases e
      · have := get1 i _ h0 h1 e
        cases this
  · by_cases h1 : i = 1
    · subst h1
      rw [List.getElem?_set_self (by rw [List.length_set, lenN]; exact hN)] at e
      cases e
    · by_cases h0 : i = 0
      · subst h0
        rw [List.getElem?_set_ne (by decide), List.getElem?_set_self (by rw [lenN]; omega)] at e
        cases e
      · have := get1 i _ h0 h1 e
        cases this
  · rcases List.mem_cons.mp he with rfl | he
    · exact g.there
    · have : e = l := by simpa using he
      subst this
      obtain ⟨_, _, _, ms, _, e2, _⟩ := g
      rw [e2]; simp
end Da
namespace Da
open PySem L2 PyProof.Rows
variable [Tbs]

section
variable {K : PySem.W.Frag} {E B W R : List Addr} {Z : List (List Addr × Hp)} {H0 H H' : Hp} {ss : List Sl} {os : Os} {σ : L2.St} {m F : Bool} {o0 : Os} {te ta tb tc : TE} {PA PB P P' : D → Prop} {Dn : Ends}

theorem yes_t {A C : Hp → Prop} (h : A H) : tYes σ H (fun b H' => if b = true then A H' else C H') := by
  show (if true = true then A H else C H)
  rw [if_pos rfl]
  exact h
theorem ev_lc2 {wi wi1 : TI} {j j1 : Nat} {vs vs1 : List Nat} {ds : List D} (g1 : D → List D) (f : D → D → D) (h : EvID K E B ss o0 wi ds) (hj : j ∈ vs) (hj1 : j1 ∈ vs1)
    (h1 : ∀ x, x ∈ ds → EvID K E B ((wip ss vs).set j (.dat x)) o0 wi1 (g1 x)) (hz : (ds.flatMap fun x => (g1 x).map (f x)).length ≤ 1000000)
    (he : ∀ x, x ∈ ds → ∀ y, y ∈ g1 x → Ev K E B true ((wip ((wip ss vs).set j (.dat x)) vs1).set j1 (.dat y)) o0 F te (fun d => d = f x y)) :
    Ev K E B m ss o0 true (tLc2 wi (gName j) tYes wi1 (gName j1) tYes te vs vs1) (fun d => d = .lst (ds.flatMap fun x => (g1 x).map (f x))) :=
  fun Z os σ H io A Q q => h Z os σ H io A _ fun J es H1 g it p => fun Dl nD => by
    subst p
    have A1 := A.go g
    have Aw := (A1.wipe vs).ownNew nD (vs := []) (ds := []) .nil
    refine ⟨fun i mm H' => mm = es.length - i ∧ i ≤ es.length ∧ At K E B Z (wip ss vs) ((Dl, .lst ((es.take i).flatMap fun x => (g1 x).map (f x))) :: os) (L2.wipe σ vs) H' ∧ Go B H1 H',
      ⟨es.length, by simp, Nat.zero_le _, Aw, Go.new nD⟩, ?_⟩
    rintro i mm H' ⟨rfl, hi, A', g'⟩
    obtain ⟨f1, f2, f3⟩ := it H' (fun a o n e t => g'.one (fun z => n (List.mem_append_right _ (A.bE a z))) e t)
    by_cases hlt : i < es.length
    · refine .inr ⟨f1 i hlt, fun H' => At K E B Z (wip ss vs) ((Dl, .lst ((es.take (i + 1)).flatMap fun x => (g1 x).map (f x))) :: os) (L2.wipe σ vs) H' ∧ Go B H1 H', fun H2 h2 => ⟨es.length - (i + 1), by omega, rfl, hlt, h2⟩, fun x H2 y => ?_⟩
      obtain ⟨rfl, d, hd, r⟩ := f3 i x H2 hlt y
      have hmem : d ∈ es := List.mem_of_getElem? hd
      have etake : es.take (i + 1) = es.take i ++ [d] := by rw [List.take_add_one, hd] <;> rfl
      have r2 : ∀ {H3 : Hp} {o1 : List D}, Go B H1 H3 → Rp K (era H3 (ads ((Dl, OD.lst o1) :: os) ++ E)) x d := fun {H3 o1} g3 => r.mono fun a o e t => by
        obtain ⟨na, e⟩ := era_some e
        have nap : a ≠ Dl := ne_of_none e nD
        rw [era_in (by simp [nap] at *; exact na)]
        exact g3.one (fun z => na (List.mem_append_right _ (A.bE a z))) e t
      have A2 := A'.set (i := j) (r2 g')
      refine ⟨wipe_self hj, ?_⟩
      refine yes_t ?_
      refine h1 d hmem Z _ _ H2 (fun x hx => List.mem_cons_of_mem _ (io x hx)) A2 _ fun J1 ds1 H4 g4 it1 e => ?_
      subst e
      refine ⟨fun k mm H' => mm = (g1 d).length - k ∧ k ≤ (g1 d).length ∧ At K E B Z (wip ss vs) ((Dl, .lst (((es.take i).flatMap fun x => (g1 x).map (f x)) ++ ((g1 d).take k).map (f d))) :: os) (L2.wipe σ vs) H' ∧ Go B H1 H' ∧
        ∀ a o, a ∉ B → a ≠ Dl → H4 a = some o → NT o → H' a = some o, ⟨(g1 d).length, by simp, Nat.zero_le _, by simpa using A'.go g4, g'.trans g4, fun _ _ _ _ e _ => e⟩, ?_⟩
      rintro k mm H5 ⟨rfl, hk, A5, g5, s5⟩
      obtain ⟨e1, e2, e3⟩ := it1 H5 (fun a o n e t => s5 a o (fun z => n (List.mem_append_right _ (A.bE a z))) (fun z => n (by simp [z])) e t)
      by_cases hkl : k < (g1 d).length
      · refine .inr ⟨e1 k hkl, fun H' => At K E B Z (wip ss vs) ((Dl, .lst (((es.take i).flatMap fun x => (g1 x).map (f x)) ++ ((g1 d).take (k + 1)).map (f d))) :: os) (L2.wipe σ vs) H' ∧ Go B H1 H' ∧
          ∀ a o, a ∉ B → a ≠ Dl → H4 a = some o → NT o → H' a = some o, fun H6 h6 => ⟨(g1 d).length - (k + 1), by omega, rfl, hkl, h6⟩, fun y H6 yy => ?_⟩
        obtain ⟨rfl, d1, hd1, ry⟩ := e3 k y H6 hkl yy
        have hm1 : d1 ∈ g1 d := List.mem_of_getElem? hd1
        have A6 := ((A5.set (i := j) (r2 g5)).wipe vs1).set (i := j1) (v := y) (d := d1) (ry.mono (era_mono (fun a o n e t => s5 a o (fun z => n (List.mem_append_right _ (A.bE a z))) (fun z => n (by simp [z])) e t) fun _ h => h))
        refine ⟨wipe_self hj1, ?_⟩
        refine yes_t ?_
        refine he d hmem d1 hm1 Z _ _ H6 (fun x hx => List.mem_cons_of_mem _ (io x hx)) A6 _ fun u e H7 g7 ru _ pe => ?_
        have A7 := A5.go g7
        obtain ⟨ws, e7, r7⟩ := A7.own Dl _ List.mem_cons_self
        have ek : (g1 d).take (k + 1) = (g1 d).take k ++ [d1] := by rw [List.take_add_one, hd1] <;> rfl
        have grow : ((es.take i).flatMap fun x => (g1 x).map (f x)) ++ ((g1 d).take (k + 1)).map (f d) = (((es.take i).flatMap fun x => (g1 x).map (f x)) ++ ((g1 d).take k).map (f d)) ++ [f d d1] := by
          rw [ek, List.map_append, List.append_assoc] <;> rfl
        have short : (((es.take i).flatMap fun x => (g1 x).map (f x)) ++ ((g1 d).take k).map (f d)).length ≤ 1000000 := by
          refine Nat.le_trans ?_ hz
          have : es = es.take i ++ d :: es.drop (i + 1) := by
            obtain ⟨hl, he0⟩ := List.getElem?_eq_some_iff.mp hd
            rw [← he0, List.getElem_cons_drop, List.take_append_drop]
          rw [this, List.flatMap_append, List.flatMap_cons, List.length_append, List.length_append, List.length_append, List.length_map, List.length_map, List.length_take]
          have : ((List.take i (es.take i ++ d :: es.drop (i + 1))).flatMap fun x => (g1 x).map (f x)).length = ((es.take i).flatMap fun x => (g1 x).map (f x)).length := by
            rw [← this]
          omega
        subst pe
        refine ⟨ws, e7, ?_, by rw [grow]; exact A7.put (r7.append (.cons ru .nil)), (g5.trans g7).past nD fun t => tabs_lst t e7, fun a o n1 n2 e t => ?_⟩
        · rw [r7.length]
          exact Nat.lt_of_le_of_lt short (by decide)
        · rw [upd_ne n2]
          exact g7.one n1 (s5 a o n1 n2 e t) t
      · have : k = (g1 d).length := by omega
        subst this
        refine .inl ⟨e2 _ (Nat.le_refl _), ?_, g5⟩
        rw [etake, List.flatMap_append, List.flatMap_cons, List.flatMap_nil, List.append_nil]
        rw [List.take_length] at A5
        exact A5
    · have : i = es.length := by omega
      subst this
      refine .inl ⟨f2 _ (Nat.le_refl _), ?_⟩
      rw [List.take_length] at A'
      obtain ⟨ws, e, r⟩ := A'.own Dl _ List.mem_cons_self
      have nE : Dl ∉ ads os ++ E := fun z => by
        rcases List.mem_append.mp z with z | z
        · exact A1.tracked z nD
        · exact A1.ent Dl z nD
      have sub : ∀ a, a ∈ er m os E → a ∈ Dl :: (ads os ++ E) := fun a ha => by
        cases m with
        | true => exact List.mem_cons_of_mem _ ha
        | false => exact List.mem_cons_of_mem _ (List.mem_append_right _ ha)
      refine q _ _ H' (g.trans g') (.lst (xs := ws) ?_ (r.mono (era_less H' sub))) (fun _ => ⟨Dl, ws, _, rfl, rfl, g.free A.bag nD, e, r.mono (era_less H' fun a ha => ?_)⟩) rfl
      · rw [era_in]
        · exact e
        · cases m with
          | true => exact nE
          | false => exact fun z => nE (List.mem_append_right _ z)
      · rcases List.mem_cons.mp ha with rfl | ha
        · exact List.mem_cons_self
        · exact sub a ha
end
/-! ### more of texts -/
section
variable {X : Cx}
def rMulS : R2 := fun x y H Q => ∃ (z : Str) (n : Int), x = .str z ∧ y = .int n ∧ 0 ≤ n ∧ n ≤ 1000000 ∧ z.length * n.toNat ≤ 1000000 ∧ Q (.str (Txt.mul z n)) H
theorem op_mul_str : OpR X (binaryOp .Mult) rMulS := by
  intro pins s σ H x y v u Q I rx ry h
  obtain ⟨z, n, rfl, rfl, h0, h1, hz, q⟩ := h
  obtain ⟨t, rfl⟩ := rx
  obtain ⟨t', rfl⟩ := ry
  have hlen : z.length * n.toNat ≤ 1000000 := hz
  refine SB.mul ⟨?_, fun hn _ => ?_, fun _ _ => ?_⟩ fun t' k => ⟨.str _, H, I.tok _, ⟨_, rfl⟩, q⟩
  · rw [Bool.or_eq_false_iff]
    exact ⟨decide_eq_false (by omega), decide_eq_false (by omega)⟩
  · have hn1 : 1 ≤ n := by omega
    have e : (z.length : Int) * n ≤ 1000000 := by
      have h2 : ((z.length * n.toNat : Nat) : Int) ≤ ((1000000 : Nat) : Int) := Int.ofNat_le.mpr hlen
      rw [Int.natCast_mul, Int.toNat_of_nonneg h0] at h2
      exact h2
    have : (z.length : Int) ≤ (2 ^ 63 - 1) / n := by
      rw [Int.le_ediv_iff_mul_le (by omega)]
      omega
    omega
  · unfold Builtin.Str.tooLong
    have e : sizeLine = 16777216 := by decide
    exact decide_eq_false (by omega)
theorem mul_mk (s : List Nat) {n : Int} (h : 0 ≤ n) : Txt.mul (mk s) n = mk (List.replicate n.toNat s).flatten := by
  have gen : ∀ (k : Nat) (acc : Array Nat), (List.replicate k (mk s).cps).foldl (· ++ ·) acc = acc ++ (List.replicate k s).flatten.toArray := by
    intro k
    induction k with
    | zero => intro acc; simp
    | succ k ih =>
      intro acc
      rw [List.replicate_succ, List.foldl_cons, ih, List.replicate_succ, List.flatten_cons]
      show acc ++ s.toArray ++ _ = _
      simp
  unfold Txt.mul
  by_cases h1 : n < 1
  · rw [if_pos h1]
    have : n.toNat = 0 := by omega
    rw [this] <;> rfl
  · rw [if_neg h1]
    by_cases h2 : (n == 1 || (mk s).length == 0) = true
    · rw [if_pos h2]
      rw [Bool.or_eq_true] at h2
      rcases h2 with h2 | h2
      · have : n = 1 := by simpa using h2
        subst this
        simp
      · rw [mk_len] at h2
        have : s = [] := List.eq_nil_of_length_eq_zero (by simpa using h2)
        subst this
        simp
    · rw [if_neg h2, gen]
      unfold mk
      simp
def tRevS (te : TE) : TE := fun σ H Q => te σ H fun x H1 => ∃ z : Str, x = .str z ∧ z.length ≤ sizeLine ∧ Q (.str ⟨z.cps.toList.reverse.toArray⟩) H1
theorem pe_revS {e : Expr} {te : TE} {k : Nat} {p1 p2 p3 pos : Pos} (he : PE X e te) : PE X (.Subscript e (.Slice none none (some (.UnaryOp .USub (.Constant (.int 1) k p1) p2)) p3) pos) (tRevS te) := by
  refine ⟨fun pins s σ H Q I h => ?_⟩
  refine Subscript_ (thn (he.run pins s σ H _ I h) fun v s1 ⟨x, H1, I1, r1, z, ex, hz, q⟩ => ?_)
  subst ex
  obtain ⟨t, rfl⟩ := r1
  have step : PO X (some (.UnaryOp .USub (.Constant (.int 1) k p1) p2)) (tPart (tUn (rU fun i => .int (-i)) (tC (.int 1)))) := po_some (pe_un un_neg pe_int)
  refine wpAny_Slice (thn (po_none.run pins s1 σ H1 (fun o H2 => o = none ∧ H2 = H1) I1 ⟨rfl, rfl⟩) fun vl s2 ⟨l, H2, I2, pl, el, e2⟩ => ?_)
  subst el e2
  refine thn (po_none.run pins s2 σ H2 (fun o H3 => o = none ∧ H3 = H2) I2 ⟨rfl, rfl⟩) fun vu s3 ⟨u, H3, I3, pu, eu, e3⟩ => ?_
  subst eu e3
  refine thn (step.run pins s3 σ H3 (fun o H4 => o = some (-1) ∧ H4 = H3) I3 ⟨1, rfl, -1, rfl, rfl, rfl⟩) fun vs s4 ⟨o, H4, I4, ps, eo, e4⟩ => ?_
  subst eo e4
  have I5 : Inv X pins σ H4 { s4 with heap := s4.heap.push { cls := .type "slice", data := .fields #[vl, vu, vs] } } := I4.kept (t' := s4.toks) fun b ob q => Heap.get?_push_of_some _ q
  obtain ⟨l', hl', el'⟩ := IsPart.raw pl
  obtain ⟨u', hu', eu'⟩ := IsPart.raw pu
  obtain ⟨st, hst, est⟩ := IsPart.raw ps
  cases l' with
  | some l' => cases el'
  | none =>
  cases u' with
  | some u' => cases eu'
  | none =>
  cases st with
  | none => cases est
  | some st =>
  have est : st.1 = -1 := Option.some.inj est
  subst hl' hu' hst
  refine tail_any (ops := [.ref s4.heap.objs.size, .str z t]) (typeIs_str _ _ _) PySem.F.slot_str_getitem.lookup ?_ (by with_unfolding_all rfl)
  refine wpAny_getItem_str_slice (l := none) (u := none) (st := some st) (Heap.IsSliceOf.new _ _ _ _) (by show (st.1 == 0) = false; rw [est]; rfl) ?_
  have idx : Builtin.Str.strSliceIndices none none (-1) z.length = (List.range z.length).reverse := by
    rw [← PySem.W.krv_range, ← PySem.W.krv_sliceRange] <;> rfl
  have all : ((List.range z.length).reverse.filterMap (z.cps[·]?)) = z.cps.toList.reverse := by
    rw [List.filterMap_reverse]
    exact congrArg List.reverse (PySem.W.krv_all z.cps)
  show Made.post (if (st.1 == 1 && (Builtin.Str.strSliceIndices none none st.1 z.length).length == z.length) = true then Made.val (.str z t)
    else Made.str ⟨((Builtin.Str.strSliceIndices none none st.1 z.length).filterMap (z.cps[·]?)).toArray⟩) (EP X pins σ Q) _
  rw [est, idx, show ((-1 : Int) == 1) = false from rfl, Bool.false_and, if_neg Bool.false_ne_true, all]
  refine ⟨?_, .str _, H4, I5.tok _, ⟨_, rfl⟩, q⟩
  show (z.cps.toList.reverse.toArray).size ≤ sizeLine
  rw [List.size_toArray, List.length_reverse, Array.length_toList]
  exact hz
end
section
variable {K : PySem.W.Frag} {E B : List Addr} {ss : List Sl} {m : Bool} {o0 : Os} {te : TE}
theorem o_mulS {s : List Nat} {n : Int} (h0 : 0 ≤ n) (h1 : n ≤ 1000000) (hz : s.length * n.toNat ≤ 1000000) : Op2 K B rMulS (.str s) (.int n) false (fun x => x = .str (List.replicate n.toNat s).flatten) := fun R H v w _ r1 r2 Q q => by
  cases r1; cases r2
  refine ⟨_, _, rfl, rfl, h0, h1, by rw [mk_len]; exact hz, ?_⟩
  rw [mul_mk s h0]
  exact q _ _ H .refl (.str _) (fun z => absurd z (by simp)) rfl
theorem ev_revS {s : List Nat} (h : EvD K E B m ss o0 te (.str s)) (hz : s.length ≤ 1000000) : EvD K E B m ss o0 (tRevS te) (.str s.reverse) := fun Z os σ H i A Q q => h Z os σ H i A _ fun v d H1 g r _ e => by
  subst e
  cases r
  exact ⟨mk s, rfl, by rw [mk_len]; exact Nat.le_trans hz (by decide), q _ _ H1 g (.str s.reverse) (fun z => absurd z (by simp)) rfl⟩
/-- sep.join(list of texts) -/
def joinC (sep : List Nat) (ss : List (List Nat)) : List Nat := TL.joinL sep ss
theorem join_mk (sep : List Nat) (ss : List (List Nat)) : Txt.join (mk sep) (ss.map mk) = mk (joinC sep ss) := by
  have h := TL.tl_join (mk sep) (ss.map mk)
  have e1 : (ss.map mk).map TL.tl = ss := by
    rw [List.map_map]
    exact List.map_id'' (fun _ => rfl) ss
  have e2 := TL.join_eq (mk sep) (ss.map mk)
  rw [e1] at h
  rw [e2, ← mk_of (Str.join (mk sep) (ss.map mk))]
  exact congrArg mk h
theorem joinC_nil (ss : List (List Nat)) : joinC [] ss = ss.flatten := by
  unfold joinC
  induction ss with
  | nil => rfl
  | cons p r ih =>
    cases r with
    | nil => simp [TL.joinL]
    | cons q r =>
      show p ++ ([] ++ TL.joinL [] (q :: r)) = _
      rw [ih] <;> rfl
theorem joinC_len (sep : List Nat) : ∀ ss : List (List Nat), (joinC sep ss).length ≤ (ss.map List.length).sum + ss.length * sep.length
  | [] => Nat.zero_le _
  | [p] => by
    show p.length ≤ ([p].map List.length).sum + 1 * sep.length
    simp
  | p :: q :: r => by
    have := joinC_len sep (q :: r)
    show (p ++ (sep ++ joinC sep (q :: r))).length ≤ _
    simp only [List.length_append, List.map_cons, List.sum_cons, List.length_cons] at *
    rw [Nat.succ_mul]
    omega
/-- sep.join(xs) -/
def rJoin (K : PySem.W.Frag) : V → List V → Hp → VK → Prop := fun x xs H Q => ∃ a p, ∃ ys : List Str, x = .str a ∧ xs = [.ref p] ∧ (SqL K H p (ys.map V.str) ∨ SqT K H p (ys.map V.str)) ∧ (ys.map (·.length)).sum + ys.length * a.length ≤ 16777216 ∧ Q (.str (Txt.join a ys)) H
theorem map_mk_len (ss : List (List Nat)) : (ss.map mk).map (·.length) = ss.map List.length := by
  rw [List.map_map]
  exact List.map_congr_left fun s _ => mk_len s
theorem ev_join {F1 F2 : Bool} {ta tb : TE} {sep : List Nat} {PB P : D → Prop} (ha : Ev K E B m ss o0 F1 ta (fun d => d = .str sep)) (hb : Ev K E B m ss o0 F2 tb PB)
    (hp : ∀ d, PB d → ∃ xs : List (List Nat), d = .lst (xs.map D.str) ∧ (xs.map List.length).sum + xs.length * sep.length ≤ 1000000 ∧ P (.str (joinC sep xs))) : Ev K E B m ss o0 false (tM1 (rJoin K) ta tb) P :=
  fun Z os σ H i A Q q => ha Z os σ H i A _ fun v d H1 g1 r1 _ e => by
    subst e
    cases r1
    refine ⟨⟨_, rfl⟩, hb Z os σ H1 i (A.go g1) _ fun w d2 H2 g2 r2 _ p2 => ?_⟩
    obtain ⟨xs, rfl, hz, hP⟩ := hp d2 p2
    cases r2 with
    | lst h1 h2 =>
      have e := h2.strs
      subst e
      refine ⟨mk sep, _, xs.map mk, rfl, rfl, .inl (.inl (.inl (era_sub _ _ _ _ h1))), ?_, ?_⟩
      · rw [map_mk_len, List.length_map, mk_len]
        exact Nat.le_trans hz (by decide)
      · rw [join_mk]
        exact q _ _ H2 (g1.trans g2) (.str _) (fun z => absurd z (by simp)) hP
theorem Made.imp {T T' : Nat → D → Prop} (h : ∀ i d, T i d → T' i d) : ∀ {is : List Nat} {ds : List D}, Made T is ds → Made T' is ds
  | _, _, .nil => .nil
  | _, _, .cons a r => .cons (h _ _ a) (Made.imp h r)
/-- texts that were made one by one -/
theorem Made.strs {T : Nat → D → Prop} {S : Nat → List Nat → Prop} (h : ∀ i d, T i d → ∃ s, d = .str s ∧ S i s) : ∀ {is : List Nat} {ds : List D}, Made T is ds → ∃ xs : List (List Nat), ds = xs.map D.str ∧ xs.length = is.length ∧ ∀ x ∈ xs, ∃ i ∈ is, S i x
  | _, _, .nil => ⟨[], rfl, rfl, fun _ h => (nomatch h)⟩
  | _, _, .cons a r => by
    obtain ⟨s, rfl, hs⟩ := h _ _ a
    obtain ⟨xs, rfl, e2, e3⟩ := Made.strs h r
    refine ⟨s :: xs, rfl, by simp [e2], fun x hx => ?_⟩
    rcases List.mem_cons.mp hx with rfl | hx
    · exact ⟨_, List.mem_cons_self, hs⟩
    · obtain ⟨i, hi, h2⟩ := e3 x hx
      exact ⟨i, List.mem_cons_of_mem _ hi, h2⟩
/-- one sign each -/
theorem Made.signs {T : Nat → D → Prop} {S : Nat → Prop} (h : ∀ i d, T i d → ∃ c, d = .str [c] ∧ S c) : ∀ {is : List Nat} {ds : List D}, Made T is ds → ∃ xs : List Nat, ds = (xs.map fun c => [c]).map D.str ∧ xs.length = is.length ∧ ∀ x ∈ xs, S x
  | _, _, .nil => ⟨[], rfl, rfl, fun _ h => (nomatch h)⟩
  | _, _, .cons a r => by
    obtain ⟨s, rfl, hs⟩ := h _ _ a
    obtain ⟨xs, rfl, e2, e3⟩ := Made.signs h r
    refine ⟨s :: xs, rfl, by simp [e2], fun x hx => ?_⟩
    rcases List.mem_cons.mp hx with rfl | hx
    · exact hs
    · exact e3 x hx
theorem flat_one (xs : List Nat) : (xs.map fun c => [c]).flatten = xs := by
  induction xs with
  | nil => rfl
  | cons a r ih => rw [List.map_cons, List.flatten_cons, ih] <;> rfl
theorem sum_one (xs : List Nat) : ((xs.map fun c => [c]).map List.length).sum = xs.length := by
  induction xs with
  | nil => rfl
  | cons a r ih =>
    rw [List.map_cons, List.map_cons, List.sum_cons, ih, List.length_cons]
    show 1 + r.length = r.length + 1
    omega
theorem o_isN {d : D} : Op2 K B (fun x y H Q => y = .non ∧ Q (.bl (decide (x = .non))) H) d .non false (fun x => x = .bl (match d with | .non => true | .raw v => decide (v = .non) | _ => false)) := fun R H v w _ r1 r2 Q q => by
  cases r2
  refine ⟨rfl, q _ _ H .refl (.bl _) (fun z => absurd z (by simp)) ?_⟩
  cases r1 <;> simp
end
end Da
namespace Da
open PySem L2 PyProof.Rows
variable [Tbs]
section
variable {K : PySem.W.Frag} {E B : List Addr} {m : Bool} {ss : List Sl} {o0 : Os} {F : Bool} {te : TE}
theorem ev_unD {F' : Bool} {P : D → Prop} {ta : TE} {r : V → Hp → VK → Prop} {a : D} (ha : EvD K E B m ss o0 ta a) (ho : Op1 K B r a F' P) : Ev K E B m ss o0 F' (tUn r ta) P := ev_un ha fun _ e => e ▸ ho
theorem range_getD (ds : List D) : (List.range ds.length).map (fun i => ds.getD i .non) = ds := by
  apply List.ext_getElem?
  intro i
  rw [List.getElem?_map]
  by_cases hi : i < ds.length
  · rw [List.getElem?_range hi, List.getElem?_eq_getElem hi]
    show some (ds.getD i .non) = _
    rw [List.getD_eq_getElem?_getD, List.getElem?_eq_getElem hi] <;> rfl
  · rw [List.getElem?_eq_none (by simp; omega), List.getElem?_eq_none (by omega)] <;> rfl
/-- with a test, each item and each answer told by its source -/
theorem ev_lcF {wi : TI} {j : Nat} {tt : TT} {vs : List Nat} {ds : List D} (c : D → Bool) (f : D → D) (h : EvID K E B ss o0 wi ds) (hj : j ∈ vs) (hz : ds.length ≤ 1000000)
    (ht : ∀ x, x ∈ ds → EvT K E B ((wip ss vs).set j (.dat x)) o0 tt (fun b => b = c x))
    (he : ∀ x, x ∈ ds → c x = true → Ev K E B true ((wip ss vs).set j (.dat x)) o0 F te (fun d => d = f x)) :
    Ev K E B m ss o0 true (tLc wi (gName j) tt te vs) (fun d => d = .lst ((ds.filter c).map f)) :=
  (ev_lc (T := fun ds i d => ∃ x, ds[i]? = some x ∧ d = f x) (c := fun ds i => c (ds.getD i .non)) h hj (fun _ e => e ▸ hz)
    (fun es i x e hx => by
      rw [List.getD_eq_getElem?_getD, hx]
      exact ht x (by subst e; exact List.mem_of_getElem? hx))
    (fun es i x e hx hc => by
      rw [List.getD_eq_getElem?_getD, hx] at hc
      exact (he x (by subst e; exact List.mem_of_getElem? hx) hc).impF fun d hd => ⟨x, hx, hd⟩)).impF fun d hd => by
    obtain ⟨es, outs, rfl, rfl, mk⟩ := hd
    have gen : ∀ (is : List Nat) (outs : List D), Made (fun i d => ∃ x, es[i]? = some x ∧ d = f x) is outs → outs = is.map fun i => f (es.getD i .non) := fun is outs mk => by
      induction mk with
      | nil => rfl
      | cons h _ ih =>
        obtain ⟨x, e1, e2⟩ := h
        rw [List.map_cons, ← ih, e2, List.getD_eq_getElem?_getD, e1] <;> rfl
    rw [gen _ _ mk]
    congr 1
    have e : es.filter c = ((List.range es.length).filter (fun i => c (es.getD i .non))).map (fun i => es.getD i .non) := by
      have : (es.filter c) = ((List.range es.length).map (fun i => es.getD i .non)).filter c := by rw [range_getD]
      rw [this, List.filter_map] <;> rfl
    rw [e, List.map_map] <;> rfl
/-! ### texts cut at a place -/
theorem cutL_to {α : Type} (xs : List α) {c : Int} (h0 : 0 ≤ c) (h1 : c ≤ xs.length) : cutL xs none (some c) = xs.take c.toNat := by
  have e : HT.sIx xs.length xs.length (some c) = c.toNat := by
    unfold HT.sIx
    simp only
    rw [if_neg (by omega)]
    omega
  unfold cutL
  rw [e] <;> rfl
theorem cutL_from {α : Type} (xs : List α) {c : Int} (h0 : 0 ≤ c) (h1 : c ≤ xs.length) : cutL xs (some c) none = xs.drop c.toNat := by
  have e : HT.sIx xs.length 0 (some c) = c.toNat := by
    unfold HT.sIx
    simp only
    rw [if_neg (by omega)]
    omega
  have e2 : HT.sIx xs.length xs.length none = xs.length := rfl
  unfold cutL
  rw [e, e2, List.take_of_length_le]
  rw [List.length_drop]
  omega
end
/-- what a text is if turned by so many places -/
def trn (s : List Nat) (p : Int) : List Nat := (List.range s.length).map fun (i : Nat) => s.getD (((i : Int) - p) % s.length).toNat 0
theorem trn_len (s : List Nat) (p : Int) : (trn s p).length = s.length := by unfold trn; rw [List.length_map, List.length_range]
theorem emod_lt {a : Int} {n : Nat} (h : 0 < n) : 0 ≤ a % (n : Int) ∧ a % (n : Int) < n := ⟨Int.emod_nonneg _ (by omega), Int.emod_lt_of_pos _ (by omega)⟩
theorem trn_get {s : List Nat} {p : Int} {i : Nat} (h : i < s.length) : (trn s p)[i]? = some (s.getD (((i : Int) - p) % s.length).toNat 0) := by
  unfold trn
  rw [List.getElem?_map, List.getElem?_range h] <;> rfl
/-- by two slices -/
theorem trn_cut {s : List Nat} (h : s ≠ []) (p : Int) : cutL s (some ((s.length : Int) - p % s.length)) none ++ cutL s none (some ((s.length : Int) - p % s.length)) = trn s p := by
  have hl : 0 < s.length := List.length_pos_iff.mpr h
  obtain ⟨q0, q1⟩ := emod_lt (a := p) hl
  generalize hq : p % (s.length : Int) = q at q0 q1 ⊢
  rw [cutL_from _ (by omega) (by omega), cutL_to _ (by omega) (by omega)]
  apply List.ext_getElem?
  intro i
  by_cases hi : i < s.length
  · rw [trn_get hi]
    have e : ((i : Int) - p) % s.length = if (i : Int) < q then (i : Int) + s.length - q else (i : Int) - q := by
      have : ((i : Int) - p) % s.length = ((i : Int) - q) % s.length := by
        have e1 := Int.emod_add_mul_ediv p s.length
        rw [hq] at e1
        have e2 : (i : Int) - p = ((i : Int) - q) + s.length * (-(p / s.length)) := by
          rw [Int.mul_neg]
          omega
        rw [e2, Int.add_mul_emod_self_left]
      rw [this]
      split
      · rw [← Int.add_emod_right, Int.emod_eq_of_lt (by omega) (by omega)] <;> omega
      · exact Int.emod_eq_of_lt (by omega) (by omega)
    rw [e]
    by_cases hc : (i : Int) < q
    · rw [if_pos hc, List.getElem?_append_left (by rw [List.length_drop]; omega), List.getElem?_drop, List.getD_eq_getElem?_getD]
      rw [show ((s.length : Int) - q).toNat + i = ((i : Int) + s.length - q).toNat by omega, List.getElem?_eq_getElem (by omega)] <;> rfl
    · rw [if_neg hc, List.getElem?_append_right (by rw [List.length_drop]; omega), List.length_drop, List.getD_eq_getElem?_getD, List.getElem?_take, if_pos (by omega)]
      rw [show i - (s.length - ((s.length : Int) - q).toNat) = ((i : Int) - q).toNat by omega, List.getElem?_eq_getElem (by omega)] <;> rfl
  · rw [List.getElem?_eq_none (by rw [List.length_append, List.length_drop, List.length_take]; omega), List.getElem?_eq_none (by rw [trn_len]; omega)]
/-- a sign each, by its place -/
theorem atI_mod {s : List Nat} (h : s ≠ []) (a : Int) : atI s (a % s.length) = some (s.getD (a % s.length).toNat 0) := by
  have hl : 0 < s.length := List.length_pos_iff.mpr h
  obtain ⟨q0, q1⟩ := emod_lt (a := a) hl
  generalize a % (s.length : Int) = q at q0 q1 ⊢
  have hk : q.toNat < s.length := by omega
  have e : q = ((q.toNat : Nat) : Int) := by omega
  have := atI_nat (List.getElem?_eq_getElem hk)
  rw [← e] at this
  rw [this, List.getD_eq_getElem?_getD, List.getElem?_eq_getElem hk] <;> rfl
theorem rngD_mem {lo : Int} {n : Nat} {x : D} (h : x ∈ rngD lo n) : ∃ i : Nat, i < n ∧ x = .int (lo + i) := by
  unfold rngD at h
  obtain ⟨i, hi, rfl⟩ := List.mem_map.mp h
  exact ⟨i, List.mem_range.mp hi, rfl⟩
/-- what stands in a place, or nothing -/
def D.i : D → Int
  | .int i => i
  | _ => 0
/-- signs made one by one over a range -/
theorem rng_signs (g : Int → Nat) (lo : Int) (n : Nat) : (rngD lo n).map (fun d => D.str [g d.i]) = ((((List.range n).map fun (i : Nat) => g (lo + i)).map fun c => [c]).map D.str) := by
  unfold rngD
  rw [List.map_map, List.map_map, List.map_map] <;> rfl
theorem join_signs {P : D → Prop} (g : Int → Nat) (lo : Int) (n : Nat) (hn : n ≤ 1000000) (hP : P (.str ((List.range n).map fun (i : Nat) => g (lo + i)))) :
    ∀ d : D, d = .lst ((rngD lo n).map (fun d => D.str [g d.i])) → ∃ xs : List (List Nat), d = .lst (xs.map D.str) ∧ (xs.map List.length).sum + xs.length * ([] : List Nat).length ≤ 1000000 ∧ P (.str (joinC [] xs)) := fun d e => by
  subst e
  refine ⟨_, by rw [rng_signs], ?_, ?_⟩
  · rw [sum_one, List.length_nil, Nat.mul_zero, List.length_map, List.length_range]
    omega
  · rw [joinC_nil, flat_one]
    exact hP
end Da
namespace Da
open PySem PySem.Spec L2 PyProof.Rows
variable [Tbs]
/-- the heap behind the top, with the script at a -/
structure Top (K : PySem.W.Frag) (mg : Str → Option Value) (s : Shared) (a : Addr) (us : List Value) (ns : List Int) : Prop where
  kin : K.In s.heap
  main : s.heap.Ns mainGlobals mg
  bi : ∃ mb, s.heap.Ns builtinsNs mb ∧ ∀ y : Str, y ≠ "__name__" → mb y = bootBuiltins y
  lim : s.heap.NoLimit
  nog : s.gens = #[]
  obj : s.heap.get? a = some { cls := .type "list", data := .seq us.toArray }
  whole : IntsAre us ns
  len : ns.length ≤ sizeLine
/-- what the abstract heap may tell: the script alone, where it is no object of the module -/
def Lone (K : PySem.W.Frag) (a : Addr) (us : List Value) (ns : List Int) (H : Hp) : Prop :=
  ∀ b u, H b = some u → b = a ∧ K.lookup a = none ∧ u = .frz { cls := .type "list", data := .seq us.toArray } (.lst (ns.map V.int))
section
variable {P : Program} {w : World} {K : PySem.W.Frag} {mg : Str → Option Value} {CX : CXT} {k : Nat} {fa a : Addr} {fd : FuncData} {x : Str} {sp : Sp} {s : Shared} {us : List Value} {ns : List Int}
theorem Top.told (S : Top K mg s a us ns) (F : ∀ base : Heap, K.In base → base.Ns mainGlobals mg → FnG P w K mg base CX k fa fd [x] sp)
    (bd : ∀ (t : Shared) (u : Value), BindsTo t fd ⟨[u], []⟩ [(x, u)]) (room : Room k callerA) {H : Hp} (lone : Lone K a us ns H) (told : HOk P w H s.heap)
    (go : sp [.ref a] H (fun v _ => v = .bl true) fun _ _ _ => False) (quiet : ∀ e t, CX [] H s (fun _ _ _ => False) e t → False) :
    codeAny (model P w) callerA (.call (.ref fa) ⟨[.ref a], []⟩) (fun r t => r = .ok (.ret (.bool true)) ∧ OldK s.heap t.heap ∧ t.os = s.os ∧ AllBare t.gens) s := by
  have off : ∀ b, b ≠ a → H b = .none := fun b nb => by
    match e : H b with
    | .none => rfl
    | .some u => exact absurd (lone b u e).1 nb
  have hid : ∀ {b : Addr} {o : Obj}, s.heap.get? b = some o → H b = .none → (hidT s.heap H).get? b = some o := fun e n => hidT_get e n
  have names : ∀ {b : Addr} {m : Str → Option Value}, s.heap.Ns b m → (hidT s.heap H).Ns b m := fun {b m} n => by
    obtain ⟨o, es, ep, e, d, r⟩ := n
    have nb : b ≠ a := fun z => by
      rw [z, S.obj] at e
      cases e
      cases d
    exact ⟨o, es, ep, hid e (off b nb), d, r⟩
  have own : K.In (hidT s.heap H) := fun b o e => hid (S.kin b o e) (by
    match q : H b with
    | .none => rfl
    | .some u =>
      obtain ⟨rfl, no, _⟩ := lone b u q
      rw [no] at e
      cases e)
  obtain ⟨mb, bi1, bi2⟩ := S.bi
  obtain ⟨mc, lim1, lim2⟩ := S.lim
  have env : Env0 P w K mg (hidT s.heap H) callerA [] s H := {
    frames := rfl
    mod := ⟨own, names S.main, ⟨mb, names bi1, bi2⟩, mc, names lim1, lim2⟩
    bs := fun _ _ e => of_hidT e
    bsz := Nat.le_of_eq (hidT_size _ _)
    funs := trivial
    frf := fun b hb => nomatch hb
    hok := told
    bare := .of_eq S.nog }
  have ran := (F _ own (names S.main)).run callerA rfl [] s H ⟨[.ref a], []⟩ [.ref a] [.ref a] (fun v _ => v = .bl true) (fun _ _ _ => False) room env (bd s (.ref a)) (.cons rfl .nil) go
  refine codeAny_mono ran fun r t got => ?_
  match r, got with
  | .error e, got => exact (quiet e t got).elim
  | .ok (.ret u), ⟨v, H', os, bare, un, told', rel, yes⟩ =>
    have yes : v = .bl true := yes
    subst yes
    have rel : u = Value.bool true := rel
    subst rel
    refine ⟨rfl, OldK.of_keep fun b o e => ?_, os, bare⟩
    match q : H b with
    | .none => exact un.keep b o e q (fun z => nomatch z) (by simp)
    | .some u =>
      obtain ⟨_, _, rfl⟩ := lone b u q
      have f1 := (told b _ q).1
      have f2 := (told' b _ (un.frzs b _ _ q)).1
      rw [e] at f1
      cases f1
      exact f2
theorem Top.call (S : Top K mg s a us ns) (F : ∀ base : Heap, K.In base → base.Ns mainGlobals mg → FnG P w K mg base CX k fa fd [x] sp)
    (bd : ∀ (t : Shared) (u : Value), BindsTo t fd ⟨[u], []⟩ [(x, u)]) (room : Room k callerA)
    (go : ∀ H : Hp, SqL K H a (ns.map V.int) → sp [.ref a] H (fun v _ => v = .bl true) fun _ _ _ => False) (quiet : ∀ H e t, CX [] H s (fun _ _ _ => False) e t → False) :
    codeAny (model P w) callerA (.call (.ref fa) ⟨[.ref a], []⟩) (fun r t => r = .ok (.ret (.bool true)) ∧ OldK s.heap t.heap ∧ t.os = s.os ∧ AllBare t.gens) s := by
  have rel := vals_ints S.whole
  have same := S.whole.length
  match hk : K.lookup a with
  | .some o =>
    have e := S.kin a o hk
    rw [S.obj] at e
    cases e
    have told : SqL K (fun _ => .none) a (ns.map V.int) := .inr ⟨_, us.toArray, _, hk, rfl, rfl, rfl, by rw [List.size_toArray, same]; exact S.len, by simpa using rel⟩
    exact S.told F bd room (H := fun _ => .none) (fun b u z => by cases z) (fun b u z => by cases z) (go _ told) (quiet _)
  | .none =>
    let H : Hp := fun b => if b = a then .some (.frz { cls := .type "list", data := .seq us.toArray } (.lst (ns.map V.int))) else .none
    have atA : H a = .some (.frz { cls := .type "list", data := .seq us.toArray } (.lst (ns.map V.int))) := if_pos rfl
    have only : ∀ b u, H b = .some u → b = a := fun b u z => by
      by_cases e : b = a
      · exact e
      · have : H b = .none := if_neg e
        rw [this] at z
        cases z
    have lone : Lone K a us ns H := fun b u z => by
      have e := only b u z
      subst e
      rw [atA] at z
      cases z
      exact ⟨rfl, hk, rfl⟩
    refine S.told F bd room lone (fun b u z => ?_) (go H (.inl (.inr ⟨_, atA⟩))) (quiet H)
    have e := only b u z
    subst e
    rw [atA] at z
    cases z
    exact ⟨S.obj, by rw [List.length_map]; exact S.len, us, _, rel, S.obj⟩
end
/-- the law, from a promise of its def where no repr runs around -/
theorem walkG {l : PySem.W.OpenLaw} {n k : Nat} {q : Program} {loose : List Str} {XP : (Str → Option Value) → Heap → Prop} {YP : World → Heap → Prop} {d : DefRec} {K : Params → PySem.W.Frag} {sp : PySem.W.Frag → Sp} {x : Str}
    (most : l.most = some n) (few : n ≤ sizeLine) (plain : d.params.defaults = []) (room : Room k callerA) (inK : ∀ (w : World) (h : Heap), YP w h → (K w.params).In h)
    (F : ∀ (w : World) (mg : Str → Option Value) (fa : Addr) (h : Heap), (K w.params).In h → h.Ns mainGlobals mg → mg d.name = some (.ref fa) →
      ∃ fd : FuncData, (∀ (t : Shared) (u : Value), BindsTo t fd ⟨[u], []⟩ [(x, u)]) ∧ ∀ base : Heap, (K w.params).In base → base.Ns mainGlobals mg → FnG l.prog w (K w.params) mg base CX0 k fa fd [x] (sp (K w.params)))
    (go : ∀ (K : PySem.W.Frag) (H : Hp) (a : Addr) (ns : List Int), ns.length ≤ n → SqL K H a (ns.map V.int) → sp K [.ref a] H (fun v _ => v = .bl true) fun _ _ _ => False) :
    PySem.W.WalkO q loose XP YP l.row.toRowW d [] (fun f us => PySem.call f us) := by
  refine Att.attach_call most plain fun w s₀ s mg mb fa o pm cd doc a us ns G Y ho hd hcd hmg hobj hints hlen hg => ?_
  obtain ⟨fd, bd, ok⟩ := F w mg fa _ (inK w _ Y) G.T.g hmg
  have S : Top (K w.params) mg s a us ns := ⟨inK w _ Y, G.T.g, ⟨mb, G.T.b, G.T.builtins⟩, G.T.nolimit, hg, hobj, hints, Nat.le_trans hlen few⟩
  exact S.call ok bd room (fun H h => go _ H a ns hlen h) fun H e t z => z
end Da
namespace Da
open PySem L2 PyProof.Rows
variable [Tbs]
/-! ### two names at once, one of them read by a comprehension -/
section
variable {X : Cx} {pos : Pos}
theorem ps_pair {i j : Nat} {x y : Str} {a b : Expr} {ta : TA} {p1 p2 p3 : Pos} {k1 k2 p4} (calm : X.calm = true) (nd : X.N.Nodup) (gi : X.N[i]? = some x) (gj : X.N[j]? = some y) (ne : i ≠ j)
    (lx : Loc X.env.scope x) (ly : Loc X.env.scope y) (fn : ∀ z, X.fn z = true) (args : PA X [a, b] ta)
    (sw : swappedStores [.Tuple [.Name x p1, .Name y p2] k1 p3] (.Tuple [a, b] k2 p4) X.env = pure (some [x, y]))
    (so : swapsWithSole [.Tuple [.Name x p1, .Name y p2] k1 p3] (.Tuple [a, b] k2 p4) pos.line X.env = pure false := by rfl) :
    PS X (.Assign [.Tuple [.Name x p1, .Name y p2] k1 p3] (.Tuple [a, b] k2 p4) pos) (tPar i j ta) := .mk fun pins s0 st Hp0 Dn inv goal => by
  rw [exec_Assign_arm]
  apply wpAny_bind
  apply wpAny_standAt
  rw [so]
  apply wpAny_bind
  apply wpAny_pure
  rw [if_neg Bool.false_ne_true]
  apply wpAny_bind
  apply Tuple_
  refine thn (args.run _ pins s0 st Hp0 _ inv goal) ?_
  rintro us sh ⟨vs, Hq, J, rel, v, w, rfl, nxt⟩
  match us, rel with
  | [u1, u2], .cons r1 (.cons r2 .nil) =>
    refine wpAny_newObj_type ?_ (by show 2 ≤ sizeLine; decide)
    rw [sw]
    apply wpAny_bind
    apply wpAny_pure
    have J2 : Inv X pins st Hq { sh with heap := sh.heap.push { cls := .type "tuple", data := .seq #[u1, u2] } } := J.kept (t' := sh.toks) fun _ _ got => Heap.get?_push_of_some _ got
    show wpAny (model X.prog X.w) X.A (rule "assign.swapped-stores" >>= fun _ => unpackItems (.ref sh.heap.objs.size) 2 none >>= fun got => assignInOrder [fun u => bindName X.env y u, fun u => bindName X.env x u] got.reverse >>= fun _ => pure Flow.next) _ _ _
    apply wpAny_bind
    apply wpAny_rule
    apply wpAny_bind
    refine unpackItems_tuple (items := #[u1, u2]) (J.ok.hd calm) (IsTup.new sh.heap _) fun hp keeps => ?_
    have J3 := J2.kept (h' := hp) (t' := sh.toks) fun c o got => keeps c o (Nat.ne_of_lt (Heap.lt_size got)) got
    apply wpAny_bind
    refine assignInOrder_cons (wpAny_bindName (store_ok J3 nd gj ly r2 (fun t4 J4 => ?_) (.inl (fn y))))
    refine assignInOrder_cons (wpAny_bindName (store_ok J4 nd gi lx r1 (fun t5 J5 => assignInOrder_nil (wpAny_pure ?_)) (.inl (fn x))))
    exact ⟨_, Hq, List.set_comm _ _ (Ne.symm ne) ▸ J5, nxt⟩
end
section
variable {K : PySem.W.Frag} {E B : List Addr} {Z : List (List Addr × Hp)} {ss : List Sl} {os : Os} {σ : L2.St} {H : Hp} {Dn : Ends}
theorem s_pair {i j : Nat} {ta : TA} {P : D → D → Prop} (A : At K E B Z ss os σ H) (h : EvA K E B true ss os ta (fun ds => ∃ a b, ds = [a, b] ∧ P a b)) (k : ∀ a b σ' H', P a b → At K E B Z ((ss.set i (.dat a)).set j (.dat b)) os σ' H' → Dn.nx σ' H') : tPar i j ta Dn σ H :=
  h Z os σ H (fun _ z => z) A _ fun vs ds H1 g r ⟨a, b, e, p⟩ => by
    subst e
    match vs, r with
    | [v, w], .cons r1 (.cons r2 .nil) => exact ⟨v, w, rfl, k a b _ H1 p (((A.go g).set r1).set r2)⟩
/-- two names at once, by the pair itself -/
theorem s_pairT {i j : Nat} {F : Bool} {te : TE} {P : D → D → Prop} (A : At K E B Z ss os σ H) (h : Ev K E B true ss os F te (fun d => ∃ a b, d = .tup [a, b] ∧ P a b)) (k : ∀ a b σ' H', P a b → At K E B Z ((ss.set i (.dat a)).set j (.dat b)) os σ' H' → Dn.nx σ' H') : tAsg te (gTup K 2 (gCons (gName i) (gCons (gName j) gNil))) Dn σ H :=
  h Z os σ H (fun _ z => z) A _ fun v d H1 g r _ ⟨a, b, e, p⟩ => by
    subst e
    cases r with
    | tup h1 h2 =>
      cases h2 with
      | cons r1 h2 =>
        cases h2 with
        | cons r2 h2 =>
          cases h2
          exact ⟨_, _, rfl, (era_sub _ _).t h1, rfl, _, _, rfl, _, _, rfl, rfl, k a b _ H1 p (((A.go g).set r1).set r2)⟩
/-! ### what may be forgotten of the slots -/
inductive Wk : List Sl → List Sl → Prop
  | nil : Wk [] []
  | any {x a b} (h : Wk a b) : Wk (.any :: a) (x :: b)
  | same {x a b} (h : Wk a b) : Wk (x :: a) (x :: b)
theorem Wk.len {a b : List Sl} (h : Wk a b) : a.length = b.length := by
  induction h with
  | nil => rfl
  | any _ ih => simp [ih]
  | same _ ih => simp [ih]
theorem Wk.get {a b : List Sl} (h : Wk a b) : ∀ {i : Nat} {s : Sl}, s ≠ .any → a[i]? = some s → b[i]? = some s := by
  induction h with
  | nil => exact fun _ e => e
  | any _ ih =>
    intro i s n e
    cases i with
    | zero =>
      cases e
      exact absurd rfl n
    | succ i => exact ih n e
  | same _ ih =>
    intro i s n e
    cases i with
    | zero => exact e
    | succ i => exact ih n e
theorem At.wk {ss' : List Sl} (A : At K E B Z ss os σ H) (h : Wk ss' ss) : At K E B Z ss' os σ H :=
  A.weak h.len (fun _ _ e => h.get (by simp) e) (fun _ _ e => h.get (by simp) e)
def Sl.free : Sl → Bool
  | .own _ => false
  | _ => true
theorem At.let {ss' : List Sl} (A : At K E B Z ss os σ H) (h : Wk ss' ss) (f : ss'.all Sl.free = true) : At K E B Z ss' [] σ H :=
  A.drop h.len (fun _ _ e => h.get (by simp) e) fun i p e => by
    have := List.all_eq_true.mp f _ (List.mem_of_getElem? e)
    cases this
end
end Da
namespace Da
open PySem L2 PyProof.Rows
variable [Tbs]
section
variable {K : PySem.W.Frag} {E B R : List Addr} {Z : List (List Addr × Hp)} {ss : List Sl} {os : Os} {σ : L2.St} {H : Hp} {m F : Bool} {o0 : Os} {te ta : TE} {Dn : Ends}
/-! ### kinds -/
def D.kind : D → Option String
  | .non => some "NoneType"
  | .bl _ => some "bool"
  | .int _ => some "int"
  | .str _ => some "str"
  | .lst _ => some "list"
  | .tup _ => some "tuple"
  | .dic _ => some "dict"
  | .obj _ _ => none
  | .raw _ => none
  | .rdl _ => none
  | .rdd _ _ => none
  | .fn _ _ _ => none
theorem Rp.ty {v : V} {d : D} {T : String} (r : Rp K (era H R) v d) (h : d.kind = some T) : TyX K H v (.type T) := by
  cases r with
  | non => cases h; exact .base .non
  | bl b => cases h; exact .base (.bl b)
  | int i => cases h; exact .base (.int i)
  | str s => cases h; exact .base (.str _)
  | lst e _ => cases h; exact .base (.lst (era_sub _ _ _ _ e))
  | dic e _ => cases h; exact .base (.dK (era_sub _ _ _ _ e))
  | tup e _ =>
    cases h
    rcases (era_sub _ _).t e with (e | ⟨o, e⟩) | ⟨o, its, n, e1, e2, _⟩
    · exact .base (.tup e)
    · exact .fTuple e
    · exact .kTuple e1 e2
  | rdl _ _ => cases h
  | rdd _ _ => cases h
  | fn _ => cases h
  | obj _ _ => cases h
  | raw _ => cases h
theorem c_isi {d : D} {T C : String} {b : Bool} (h : d.kind = some T) (e : PySem.W.kitOne K (.type T) (.type C) = some b) : OpA K B (rIsi K) [d, .raw (.ty C)] false (fun x => x = .bl b) := fun R H vs _ r Q q => by
  cases r with
  | cons r1 r =>
    cases r with
    | cons r2 r =>
      cases r
      cases r2
      exact ⟨_, _, _, _, b, rfl, .ty C, r1.ty h, e, q _ _ H .refl (.bl b) (fun z => absurd z (by simp)) rfl⟩
theorem kit_sub {T C : String} {b : Bool} (h : ∀ K : PySem.W.Frag, PySem.W.kitOne K (.type T) (.type C) = some b) : PySem.W.kitOne K (.type T) (.type C) = some b := h K
/-- what the built-in classes say of one another -/
def D.isI : D → Bool
  | .int _ => true
  | .bl _ => true
  | _ => false
def D.isB : D → Bool
  | .bl _ => true
  | _ => false
def D.isS : D → Bool
  | .str _ => true
  | _ => false
theorem c_isInt {d : D} (h : d.kind.isSome = true) : OpA K B (rIsi K) [d, .raw (.ty "int")] false (fun x => x = .bl d.isI) := by
  cases d <;> first | (cases h; done) | exact c_isi rfl (by rfl)
theorem c_isBool {d : D} (h : d.kind.isSome = true) : OpA K B (rIsi K) [d, .raw (.ty "bool")] false (fun x => x = .bl d.isB) := by
  cases d <;> first | (cases h; done) | exact c_isi rfl (by rfl)
theorem c_isStr {d : D} (h : d.kind.isSome = true) : OpA K B (rIsi K) [d, .raw (.ty "str")] false (fun x => x = .bl d.isS) := by
  cases d <;> first | (cases h; done) | exact c_isi rfl (by rfl)
/-! ### all -/
theorem c_all {bs : List Bool} : OpA K B (rAll K) [.lst (bs.map D.bl)] false (fun x => x = .bl (bs.all id)) := fun R H vs _ r Q q => by
  cases r with
  | cons r1 r =>
    cases r
    cases r1 with
    | lst h1 h2 =>
      have e := h2.bls
      subst e
      exact ⟨_, bs, rfl, .inl (.inl (era_sub _ _ _ _ h1)), q _ _ H .refl (.bl _) (fun z => absurd z (by simp)) rfl⟩
/-! ### dicts as they are written -/
theorem ev_dic0 : Ev K E B m ss o0 false tDNewK (fun d => d = .dic []) := fun Z os σ H i A Q q p hp =>
  q _ _ _ (.new hp) (.dic ((A.rg m).new hp) .nil) (fun z => absurd z (by simp)) rfl
theorem ev_dic1 {k : Key} {v : V} {d : D} (r : ∀ H, Rp K H v d) : Ev K E B m ss o0 false (tDisp [(tC (kV k), tC v)]) (fun x => x = .dic [(k, d)]) := fun Z os σ H i A Q q p hp => by
  refine ⟨upd_same, [(k, v)], rfl, by show (1 : Nat) ≤ 15; decide, ?_⟩
  rw [upd_upd]
  exact q _ _ _ (.new hp) (.dic ((A.rg m).new hp) (.cons (r _) .nil)) (fun z => absurd z (by simp)) rfl
/-! ### x += [..], x owned -/
theorem set_same {α : Type} {xs : List α} {i : Nat} {x : α} (h : xs[i]? = some x) : xs.set i x = xs := by
  apply List.ext_getElem?
  intro j
  rw [List.getElem?_set]
  split
  · rename_i e
    subst e
    split
    · exact h.symm
    · rename_i n
      rw [List.getElem?_eq_none (by omega)]
  · rfl
theorem s_ext {i : Nat} {p : Addr} {ds : List D} {P : D → Prop} (A : At K E B Z ss ((p, .lst ds) :: os) σ H) (hi : ss[i]? = some (.own p)) (h : Ev K E B true ss ((p, .lst ds) :: os) F te P) (hp : ∀ d, P d → ∃ es, d = .lst es ∧ ds.length + es.length ≤ 1000000)
    (k : ∀ es σ' H', P (.lst es) → At K E B Z ss ((p, .lst (ds ++ es)) :: os) σ' H' → Dn.nx σ' H') : tAug i te rExt2 Dn σ H := by
  refine ⟨.ref p, A.ownS i p hi, ?_⟩
  refine h Z _ σ H (fun _ z => z) A _ fun v d H' g rv _ pd => ?_
  have A' := A.go g
  obtain ⟨vs', e', r'⟩ := A'.own p _ List.mem_cons_self
  obtain ⟨es, rfl, hz⟩ := hp d pd
  cases rv with
  | lst h1 h2 =>
    refine ⟨p, _, vs', _, rfl, rfl, e', era_sub _ _ _ _ h1, by rw [r'.length, h2.length]; exact Nat.le_trans hz (by decide), ?_⟩
    show Dn.nx (σ.set i (some (.ref p))) _
    rw [set_same (A.ownS i p hi)]
    exact k es σ _ pd (A'.put (r'.append h2))
/-- [..] * k -/
theorem o_repL {ds : List D} {k : Int} (h0 : 0 ≤ k) (h1 : k ≤ 1000000) (hz : ds.length * k.toNat ≤ 1000000) : Op2 K B rRep (.lst ds) (.int k) true (fun x => x = .lst (List.replicate k.toNat ds).flatten) := fun R H v w rg r1 r2 Q q => by
  cases r2
  cases r1 with
  | lst h h2 =>
    have fl : ∀ (n : Nat) {us : List V}, RpAll K (era H R) us ds → RpAll K (era H R) (List.replicate n us).flatten (List.replicate n ds).flatten := fun n us h2 => by
      induction n with
      | zero => exact .nil
      | succ n ih =>
        rw [List.replicate_succ, List.replicate_succ, List.flatten_cons, List.flatten_cons]
        exact h2.append ih
    have r := fl k.toNat h2
    refine ⟨_, k, _, rfl, rfl, era_sub _ _ _ _ h, by omega, by omega, by rw [h2.length]; exact Nat.le_trans hz (by decide), fun p hp => ?_⟩
    exact q _ _ _ (.new hp) (rg.rpL hp r) (fun _ => New.laid rg hp r) rfl
/-! ### numbers by their figures, signs counted -/
def ten (n : Nat) : List Nat := 49 :: List.replicate n 48
theorem dv_zeros (n a : Nat) : (List.replicate n 48).foldl (fun acc c => acc * 10 + (c - 48)) a = a * 10 ^ n := by
  induction n generalizing a with
  | zero => simp
  | succ n ih =>
    rw [List.replicate_succ, List.foldl_cons, ih]
    show (a * 10 + 0) * 10 ^ n = a * 10 ^ (n + 1)
    rw [Nat.pow_succ, Nat.add_zero, Nat.mul_assoc, Nat.mul_comm 10]
theorem ten_val (n : Nat) (h : n ≤ 600) : PySem.intText? (mk (ten n)) = some ((10 ^ n : Nat) : Int) := by
  have all : NumText.AllDigits (mk (ten n)).cps.toList := fun c hc => by
    have hc : c ∈ (49 :: List.replicate n 48) := hc
    rcases List.mem_cons.mp hc with rfl | hc
    · decide
    · rw [(List.mem_replicate.mp hc).2]
      decide
  rw [intText_digits all (by simp [mk, ten]) (by rw [mk_len]; simp [ten]; omega)]
  congr 2
  show (49 :: List.replicate n 48).foldl (fun acc c => acc * 10 + (c - 48)) 0 = _
  rw [List.foldl_cons, dv_zeros]
  simp
theorem c_intS {s : List Nat} {i : Int} (h : PySem.intText? (mk s) = some i) (hz : s.length ≤ 640) : OpA K B (fun xs H Q => ∃ a n, xs = [.str a] ∧ PySem.intText? a = some n ∧ a.length ≤ 640 ∧ Q (.int n) H) [.str s] false (fun x => x = .int i) := fun R H vs _ r Q q => by
  cases r with
  | cons r1 r =>
    cases r
    cases r1
    exact ⟨_, i, rfl, h, by rw [mk_len]; exact hz, q _ _ H .refl (.int i) (fun z => absurd z (by simp)) rfl⟩
theorem cnt_count (c : Nat) (s : List Nat) : PyProof.Rows.cnt c s = (s.count c : Int) := by
  induction s with
  | nil => rfl
  | cons a s ih =>
    rw [cnt_cons, ih, List.count_cons]
    by_cases e : a = c
    · rw [if_pos e, if_pos (by simp [e])]
      omega
    · rw [if_neg e, if_neg (by simp [e])]
      omega
theorem count_mk (s : List Nat) (c : Nat) : Txt.count (mk s) (mk [c]) = (s.count c : Int) := (count_cnt (mk s) c).trans (cnt_count c s)
end
end Da
set_option maxHeartbeats 1000000
namespace Da
open PySem PySem.Spec L2 PyProof.Rows
variable [Tbs]
/-- a turn of one clause: what is done with an item that passes the tests is told by act -/
def turnOf (ip : Pos) (tg : Expr) (ifs : List Expr) (it : Value) (env : Env) (act : Sem Fin → Sem Fin) (more : Sem Fin) : Sem Fin := do
  standAt ip
  match ← pyNext it with
  | none => pure (.done .next)
  | some v =>
    letOwnedTupleGo tg it v
    assign tg env v
    let mut ok := true
    for c in ifs do
      if ok then ok ← isTrue c env (eval c env)
    if ok then act more else more
/-- the next clause's loop, run for its own -/
def actNext (iter : Expr) (e : Expr) (i : Nat) (acc : Value) (env : Env) (more : Sem Fin) : Sem Fin := do
  let x ← eval iter env
  standAt iter.pos
  let x ← foldedSetIterable iter env x
  let _ ← runOwn (.compStart e i (← holding [x] (pyIter x)) acc env) env
  more
def actSet (kx vx : Expr) (D : Addr) (env : Env) (more : Sem Fin) : Sem Fin := do
  (do
    let kv ← eval kx env
    let vv ← holding [kv] (eval vx env)
    standAt { kx.pos with endLine := vx.pos.endLine, endCol := vx.pos.endCol }
    holding [kv, vv] (dictSet D kv vv))
  more
section
variable {kx vx t0 i0 t1 i1 t2 i2 : Expr} {f0 f1 f2 : List Expr} {scope : Scope} {pos : Pos} {it acc : Value} {D : Addr} {env : Env}
abbrev dc3 (kx vx t0 i0 : Expr) (f0 : List Expr) (t1 i1 : Expr) (f1 : List Expr) (t2 i2 : Expr) (f2 : List Expr) (scope : Scope) (pos : Pos) : Expr := .DictComp kx vx [⟨t0, i0, f0, 0⟩, ⟨t1, i1, f1, 0⟩, ⟨t2, i2, f2, 0⟩] scope pos
theorem turn3_0 : compTurn (dc3 kx vx t0 i0 f0 t1 i1 f1 t2 i2 f2 scope pos) 0 it acc env = turnOf i0.pos t0 f0 it env (actNext i1 (dc3 kx vx t0 i0 f0 t1 i1 f1 t2 i2 f2 scope pos) 1 acc env) (again (.compLoop (dc3 kx vx t0 i0 f0 t1 i1 f1 t2 i2 f2 scope pos) 0 it acc env)) := by rfl
theorem turn3_1 : compTurn (dc3 kx vx t0 i0 f0 t1 i1 f1 t2 i2 f2 scope pos) 1 it acc env = turnOf i1.pos t1 f1 it env (actNext i2 (dc3 kx vx t0 i0 f0 t1 i1 f1 t2 i2 f2 scope pos) 2 acc env) (again (.compLoop (dc3 kx vx t0 i0 f0 t1 i1 f1 t2 i2 f2 scope pos) 1 it acc env)) := by rfl
theorem turn3_2 : compTurn (dc3 kx vx t0 i0 f0 t1 i1 f1 t2 i2 f2 scope pos) 2 it (.ref D) env = turnOf i2.pos t2 f2 it env (actSet kx vx D env) (again (.compLoop (dc3 kx vx t0 i0 f0 t1 i1 f1 t2 i2 f2 scope pos) 2 it (.ref D) env)) := by rfl
end
/-! ### what is done with an item -/
/-- act, and then more: the slots in vs are not known behind it -/
structure Act (Y : Cx) (act : Sem Fin → Sem Fin) (vs : List Nat) (t : L2.St → Hp → (Hp → Prop) → Prop) : Prop where
  run : ∀ (pins : List (Addr × Obj)) (s : Shared) (σ : L2.St) (H : Hp) (Q : Hp → Prop) (more : Sem Fin) (R : Fin → Shared → Prop) (E : Value → Shared → Prop), Inv Y pins σ H s → t σ H Q →
    (∀ (s' : Shared) (H' : Hp), Inv Y pins (wipe σ vs) H' s' → Q H' → wpAny (model Y.prog Y.w) Y.A more R E s') → wpAny (model Y.prog Y.w) Y.A (act more) R E s
/-- the loop of one clause, over what its source gives -/
def Over (J : It) (g : TG) (tt : TT) (t : L2.St → Hp → (Hp → Prop) → Prop) (σ : L2.St) (vs : List Nat) (W : Nat → Nat → Hp → Prop) (Done : Hp → Prop) : Prop :=
  ∀ i m H, W i m H → (J.stop i H ∧ Done H) ∨ (J.go i H ∧ ∃ Nx : Hp → Prop, (∀ H', Nx H' → ∃ m', m' < m ∧ W (i + 1) m' H') ∧ ∀ x H', J.yld i H x H' → g x (wipe σ vs) H' fun σ2 H2 => wipe σ2 vs = wipe σ vs ∧ tt σ2 H2 fun b H3 => if b = true then t σ2 H3 Nx else Nx H3)
/-- a clause within another one's turn -/
def tIn (wi : TI) (g : TG) (tt : TT) (t : L2.St → Hp → (Hp → Prop) → Prop) (vs : List Nat) : L2.St → Hp → (Hp → Prop) → Prop := fun σ H Q => wi σ H fun J H1 => ∃ W : Nat → Nat → Hp → Prop, (∃ m, W 0 m H1) ∧ Over J g tt t σ vs W Q
section
variable {Y : Cx} {tg : Expr} {ifs : List Expr} {g : TG} {tt : TT} {act : Sem Fin → Sem Fin} {vs0 vs : List Nat} {t : L2.St → Hp → (Hp → Prop) → Prop} {J : It} {fp : List Addr} {it : Addr} {tn : Nat → Heap → Prop} {pins : List (Addr × Obj)} {σ : L2.St} {W : Nat → Nat → Hp → Prop} {Done : Hp → Prop}
  {e : Expr} {k : Nat} {acc : Value} {ip : Pos}
theorem keeps_slots {σ4 : L2.St} (same : wipe σ4 vs = wipe σ vs) (sub : ∀ i ∈ vs0, i ∈ vs) (j : Nat) (v : V) (h : (wipe σ vs)[j]? = some (some v)) : (wipe σ4 vs0)[j]? = some (some v) := by
  rw [← same] at h
  obtain ⟨h1, h2⟩ := wipe_some h
  rw [wipe_out fun z => h2 (sub j z)]
  exact h1
theorem clause_loop (calm : Y.calm = true) (mute : Y.xe = fun _ _ => False) (pg : PG Y tg g) (pt : PTs Y ifs tt) (pa : Act Y act vs0 t) (sub : ∀ i ∈ vs0, i ∈ vs) (T : Turn Y.prog Y.w Y.K tg J fp it tn)
    (turn : compTurn e k (.ref it) acc Y.env = turnOf ip tg ifs (.ref it) Y.env act (again (.compLoop e k (.ref it) acc Y.env)))
    (den : Y.A.under (.compLoop e k (.ref it) acc Y.env) = Y.A ∧ (model Y.prog Y.w).den (.compLoop e k (.ref it) acc Y.env) = (compTurn e k (.ref it) acc Y.env).onRaise fun x => do noteFrame x Y.env; theTreesLotGoes x)
    (fpk : ∀ (H : Hp) (s : Shared), Inv Y pins (wipe σ vs) H s → (∀ b ∈ fp, H b = none) → ∀ b ∈ fp, FpOk Y pins H b)
    (step : Over J g tt t σ vs W Done) {s0 : Shared} {H0 : Hp} (I0 : Inv Y pins (wipe σ vs) H0 s0) (t0 : tn 0 s0.heap) (n0 : ∀ b ∈ fp, H0 b = none) {m0 : Nat} (w0 : W 0 m0 H0) :
    codeAny (model Y.prog Y.w) Y.A (.compLoop e k (.ref it) acc Y.env) (fun r s' => match r with
      | .ok f => f = .next ∧ ∃ H', Inv Y pins (wipe σ vs) H' s' ∧ Done H'
      | .error _ => False) s0 := by
  refine codeAny_loop rfl (fun n s' => ∃ i H', Inv Y pins (wipe σ vs) H' s' ∧ tn i s'.heap ∧ (∀ b ∈ fp, H' b = none) ∧ W i n H') (fun n s1 hI => ?_) m0 ⟨0, H0, I0, t0, n0, w0⟩
  obtain ⟨i, H1, I1, st1, n1, w1⟩ := hI
  rw [den.1, den.2]
  apply wpAny_noted
  rw [turn]
  unfold turnOf
  apply wpAny_bind
  apply wpAny_standAt
  apply wpAny_bind
  rcases step i n H1 w1 with ⟨stop, dn⟩ | ⟨go, Nx, next, body⟩
  · refine thn (T.done Y rfl rfl rfl calm i pins s1 _ H1 _ I1 (fpk H1 s1 I1 n1) st1 stop) ?_
    rintro r s2 ⟨rfl, I2⟩
    exact wpAny_pure ⟨rfl, H1, I2, dn⟩
  · refine thn (T.item Y rfl rfl rfl calm i pins s1 _ H1 _ I1 (fpk H1 s1 I1 n1) st1 go) ?_
    rintro r s2 ⟨u, rfl, h2⟩
    apply wpAny_bind
    refine thn h2 ?_
    rintro _ s3 ⟨x, H3, I3, r3, y3, st3, n3⟩
    have J3 := I3.pinned (fpk H3 s3 I3 n3) (T.obj _ _ st3)
    have asg := pg.run _ s3 _ H3 x u _ J3 r3 (body x H3 y3)
    rw [mute] at asg
    apply wpAny_bind
    refine thnF asg ?_
    rintro _ s4 ⟨σ4, H4, I4, same, q4⟩
    have tst := pt.run _ s4 σ4 H4 _ I4 q4
    rw [mute] at tst
    apply wpAny_bind
    refine thnF tst ?_
    rintro b s5 ⟨H5, I5, q5⟩
    have len : (wipe σ vs).length = σ4.length := by rw [← same, wipe_length]
    have turned : ∀ {σ' : L2.St} {s' : Shared} {H' : Hp}, Inv Y (pins ++ pinsAt fp s3.heap) σ' H' s' → σ'.length = σ4.length → (∀ (j : Nat) (v : V), (wipe σ vs)[j]? = some (some v) → σ'[j]? = some (some v)) → Nx H' →
        ∃ m, m < n ∧ ∃ i H', Inv Y pins (wipe σ vs) H' s' ∧ tn i s'.heap ∧ (∀ b ∈ fp, H' b = none) ∧ W i m H' := fun {σ' s' H'} I' l' k' nx => by
      obtain ⟨m', less, w'⟩ := next H' nx
      have still : ∀ b ∈ fp, ∀ o, s3.heap.get? b = some o → s'.heap.get? b = some o ∧ H' b = none := fun b hb o got =>
        have z := I'.pin (b, o) (List.mem_append_right _ (List.mem_append_right _ (mem_pinsAt hb got)))
        ⟨z.1, z.2.1⟩
      refine ⟨m', less, i + 1, H', I'.unpinned.weak (len.trans l'.symm) k', T.keep _ _ _ st3 fun b hb o got => (still b hb o got).1, fun b hb => ?_, w'⟩
      obtain ⟨o, got, _⟩ := T.obj _ _ st3 b hb
      exact (still b hb o got).2
    match b, q5 with
    | false, q5 =>
      exact wpAny_pure ⟨rfl, turned I5 rfl (fun j v h => by rw [← same] at h; exact (wipe_some h).1) q5⟩
    | true, q5 =>
      refine pa.run _ s5 σ4 H5 Nx _ _ _ I5 q5 fun s6 H6 I6 nx => ?_
      exact wpAny_pure ⟨rfl, turned I6 (wipe_length _ _) (keeps_slots same sub) nx⟩
/-- the next clause as an act -/
theorem act_in {iter : Expr} {wi : TI} (calm : Y.calm = true) (mute : Y.xe = fun _ _ => False) (pi : PI Y tg iter wi) (fold : ∀ x, foldedSetIterable iter Y.env x = pure x) (pg : PG Y tg g) (pt : PTs Y ifs tt) (pa : Act Y act vs0 t) (sub : ∀ i ∈ vs0, i ∈ vs)
    (turn : ∀ it, compTurn e k it acc Y.env = turnOf ip tg ifs it Y.env act (again (.compLoop e k it acc Y.env)))
    (den : ∀ it, Y.A.under (.compLoop e k it acc Y.env) = Y.A ∧ (model Y.prog Y.w).den (.compLoop e k it acc Y.env) = (compTurn e k it acc Y.env).onRaise fun x => do noteFrame x Y.env; theTreesLotGoes x)
    (start : ∀ (it : Value) (R : Result → Shared → Prop) (s : Shared), codeAny (model Y.prog Y.w) Y.A (.compLoop e k it acc Y.env) R s →
      wpAny (model Y.prog Y.w) Y.A (pyIter it) (fun it' s' => codeAny (model Y.prog Y.w) Y.A (.compLoop e k it' acc Y.env) R s') (notedBy (model Y.prog Y.w) Y.A Y.env fun x s' => R (.error x) s') s → codeAny (model Y.prog Y.w) Y.A (.compStart e k it acc Y.env) R s) :
    Act Y (actNext iter e k acc Y.env) vs (tIn wi g tt t vs) := .mk fun pins s σ H Q more R E I h cont => by
  have src := pi.run pins s σ H _ I h
  rw [mute] at src
  unfold actNext
  apply wpAny_bind
  refine thnF src fun x s1 got => ?_
  apply wpAny_bind
  apply wpAny_standAt
  apply wpAny_bind
  refine wpAny_of_eq (fold x) ?_
  apply wpAny_bind
  apply wpAny_holding
  refine thnF got ?_
  rintro _ s2 ⟨it, fp, tn, J, H2, rfl, I2, T, st2, f2, W, ⟨m0, w0⟩, over⟩
  have loop := clause_loop (W := W) (Done := Q) (σ := σ) calm mute pg pt pa sub T (turn (.ref it)) (den (.ref it)) (fun H' s' I' hn b hb => ⟨hn b hb, (f2 b hb).2⟩) over (I2.weak (wipe_length _ _) fun j v z => (wipe_some z).1) st2 (fun b hb => (f2 b hb).1) w0
  apply wpAny_bind
  refine wpAny_runOwn ?_
  rw [Around.mark_none]
  refine codeAny_mono (start (.ref it) _ s2 loop (T.self Y.A 0 _ _ _ st2 loop)) fun r s3 hr => ?_
  match r, hr with
  | .ok _, ⟨_, H3, I3, q3⟩ => exact cont s3 H3 I3 q3
end
end Da
namespace Da
open PySem PySem.Spec L2 PyProof.Rows
variable [Tbs]
/-! ### the act of a dict comprehension -/
def tPut (D : Addr) (tk tv : TE) : L2.St → Hp → (Hp → Prop) → Prop := fun σ H Q => tk σ H fun y H1 => tv σ H1 fun z H2 => ∃ kvs k, y = kV k ∧ H2 D = some (.dK kvs) ∧ kvs.length < sizeLine ∧ Q (upd H2 D (.dK (putK kvs k z)))
theorem act_put {Y : Cx} {kx vx : Expr} {D : Addr} {tk tv : TE} (mute : Y.xe = fun _ _ => False) (pk : PE Y kx tk) (pv : PE Y vx tv) : Act Y (actSet kx vx D Y.env) [] (tPut D tk tv) := .mk fun pins s σ H Q more R E I h cont => by
  have key := pk.run pins s σ H _ I h
  rw [mute] at key
  unfold actSet
  apply wpAny_bind
  apply wpAny_bind
  refine thnF key ?_
  rintro kv s1 ⟨y, H1, I1, r1, h1⟩
  have val := pv.run pins s1 σ H1 _ I1 h1
  rw [mute] at val
  apply wpAny_bind
  apply wpAny_holding
  refine thnF val ?_
  rintro vv s2 ⟨z, H2, I2, r2, kvs, k, rfl, at_, few, q⟩
  apply wpAny_bind
  apply wpAny_standAt
  apply wpAny_holding
  exact d_dictSet I2 at_ few r1 r2 fun s3 I3 => cont s3 _ I3 q
/-! ### {k: v for .. for ..}: whatever stands behind the first clause is an act -/
def tDcG (wi : TI) (g : TG) (tt : TT) (t : Addr → L2.St → Hp → (Hp → Prop) → Prop) (vs : List Nat) : TE := fun σ H Q => wi σ H fun J H1 => ∀ D, H1 D = none → ∃ W : Nat → Nat → Hp → Prop, (∃ m, W 0 m (upd H1 D (.dK []))) ∧ Over J g tt (t D) σ vs W (Q (.ref D))
section
variable {X : Cx}
theorem pe_dcG {kx vx tg iter : Expr} {ifs : List Expr} {rest : List Comprehension} {scope : Scope} {own : List (Str × Nat)} {pos : Pos} {wi : TI} {g : TG} {tt : TT} {act : Addr → Env → Sem Fin → Sem Fin} {vs0 : List Nat} {t : Addr → L2.St → Hp → (Hp → Prop) → Prop}
    (calm : X.calm = true) (nd : X.N.Nodup) (pi : PI X tg iter wi) (ok : BlkOk X.N X.env.scope scope own)
    (pg : ∀ (s : Shared) (H : Hp) (C : Addr) (cl : List (Str × Addr)) (fp : List Addr), PG (X.blk s H scope (compEnvC scope cl C X.env) fp) tg g)
    (pt : ∀ (s : Shared) (H : Hp) (C : Addr) (cl : List (Str × Addr)) (fp : List Addr), PTs (X.blk s H scope (compEnvC scope cl C X.env) fp) ifs tt)
    (pa : ∀ (D : Addr) (s : Shared) (H : Hp) (C : Addr) (cl : List (Str × Addr)) (fp : List Addr), Act (X.blk s H scope (compEnvC scope cl C X.env) fp) (act D (compEnvC scope cl C X.env)) vs0 (t D)) (sub : ∀ i ∈ vs0, i ∈ own.map (·.2))
    (turn : ∀ (D : Addr) (it : Value) (env : Env), compTurn (.DictComp kx vx (⟨tg, iter, ifs, 0⟩ :: rest) scope pos) 0 it (.ref D) env = turnOf iter.pos tg ifs it env (act D env) (again (.compLoop (.DictComp kx vx (⟨tg, iter, ifs, 0⟩ :: rest) scope pos) 0 it (.ref D) env)))
    (den : ∀ (D : Addr) (it : Value) (env : Env), X.A.under (.compLoop (.DictComp kx vx (⟨tg, iter, ifs, 0⟩ :: rest) scope pos) 0 it (.ref D) env) = X.A ∧ (model X.prog X.w).den (.compLoop (.DictComp kx vx (⟨tg, iter, ifs, 0⟩ :: rest) scope pos) 0 it (.ref D) env) = (compTurn (.DictComp kx vx (⟨tg, iter, ifs, 0⟩ :: rest) scope pos) 0 it (.ref D) env).onRaise fun x => do noteFrame x env; theTreesLotGoes x)
    (fold : ∀ x, foldedSetIterable iter X.env x = pure x := by intro _; rfl) :
    PE X (.DictComp kx vx (⟨tg, iter, ifs, 0⟩ :: rest) scope pos) (tDcG wi g tt t (own.map (·.2))) := .mk fun pins s σ H Q I h => by
  rw [arm_eval_DictComp]
  have bound : ∀ y ∈ scope.names, y.2 = .free → ∃ c, X.env.cells.lookup y.1 = some c := fun y hy f => (ok.free y hy f).elim (fun z => I.ok.has _ (.inl z)) fun z => I.ok.has _ (.inr z)
  refine wpAny_comprehension_free (use := none) rfl fold (closure_ok bound) ok.kind (fun y hy f => by rw [ok.uniq y hy, f]) (thn (pi.run pins s σ H _ I h) fun x s1 hx => thn hx ?_)
  rintro _ s2 ⟨it, fp, tn, J, H2, rfl, I2, T, st2, f2, q⟩
  refine wpAny_newObj_type (newEnv_comp ?_)
  have fresh : H2 s2.heap.objs.size = none := I2.hok.fresh (Nat.le_refl _)
  obtain ⟨W, ⟨m0, w0⟩, over⟩ := q _ fresh
  -- the dict is laid
  have I3 : Inv X pins σ (upd H2 s2.heap.objs.size (.dK [])) { s2 with heap := s2.heap.push { cls := .type "dict", data := .dict #[] } } :=
    I2.laid (t' := s2.toks) (fun _ _ got => Heap.get?_push_of_some _ got) (Nat.le_refl _) (dk_empty s2.heap I2.big)
  have below : ∀ b ∈ fp, b < s2.heap.objs.size := fun b hb => by
    obtain ⟨o, got, _⟩ := T.obj _ _ st2 b hb
    exact Heap.lt_size got
  have off : ∀ b ∈ fp, upd H2 s2.heap.objs.size (.dK []) b = none := fun b hb => by
    rw [upd_ne (Nat.ne_of_lt (below b hb))]
    exact (f2 b hb).1
  generalize hs3 : ({ s2 with heap := s2.heap.push { cls := .type "dict", data := .dict #[] } } : Shared) = s3 at I3
  have grown : ∀ b o, s2.heap.get? b = some o → s3.heap.get? b = some o := fun b o got => by
    rw [← hs3]
    exact Heap.get?_push_of_some _ got
  have size : s3.heap.objs.size = s2.heap.objs.size + 1 := by
    rw [← hs3]
    exact Heap.size_push _ _
  generalize hD : s2.heap.objs.size = D at w0 over off I3 size below ⊢
  have far : ∀ b ∈ fp, FpOk X pins (upd H2 D (.dK [])) b ∧ b < s3.heap.objs.size := fun b hb => ⟨⟨off b hb, (f2 b hb).2⟩, by rw [size]; exact Nat.lt_succ_of_lt (below b hb)⟩
  have I4 := block_start I3 ok nd far
  generalize hH : upd H2 D (.dK []) = H3 at I3 I4 off w0 far
  have st3 : tn 0 (pushCells (s3.heap.push { cls := .type "dict", data := .dict #[] }) scope.names) := T.keep _ _ _ st2 fun b _ o got => pushCells_keeps _ _ _ _ (Heap.get?_push_of_some _ (grown b o got))
  have loop := clause_loop (Y := X.blk s3 H3 scope (compEnvC scope (cellsFrom (s3.heap.objs.size + 1) scope.names (cloFrom X.env.cells scope.names [])) s3.heap.objs.size X.env) fp) (W := W) (Done := Q (.ref D)) (σ := σ) (pins := []) (acc := .ref D) (k := 0)
    calm rfl (pg s3 H3 _ _ fp) (pt s3 H3 _ _ fp) (pa D s3 H3 _ _ fp) sub T (turn D (.ref it) _) (den D (.ref it) _)
    (fun H' s' I' none_ b hb => ⟨none_ b hb, (I'.ok.exf b hb).1, I'.ok.exfs b hb, .inl hb, fun x c got => (I'.ok.exf b hb).2 x c got, fun p hp => nomatch hp⟩) over I4 st3 off w0
  have out : codeAny (model X.prog X.w) X.A (.compLoop (.DictComp kx vx (⟨tg, iter, ifs, 0⟩ :: rest) scope pos) 0 (.ref it) (.ref D) (compEnvC scope (cellsFrom (s3.heap.objs.size + 1) scope.names (cloFrom X.env.cells scope.names [])) s3.heap.objs.size X.env))
      (compPost (model X.prog X.w) X.A X.xe none (EP X pins σ Q) (.ref D) s3.heap.objs.size) { s3 with heap := pushCells (s3.heap.push { cls := .type "dict", data := .dict #[] }) scope.names } := by
    refine codeAny_mono loop fun r s' hr => ?_
    match r, hr with
    | .ok _, ⟨rfl, H5, I5, dn⟩ =>
      have back : Inv X pins σ H5 s' := I3.call' (ch := fp) I5.os I5.base I5.hok I5.bare fun b hb => ⟨(far b hb).1.2.2.2.1, (far b hb).1.2.1, (far b hb).1.2.2.2.2.1, (far b hb).1.2.2.2.2.2⟩
      have free : H5 s3.heap.objs.size = none := I5.free
      obtain ⟨m, ns, _⟩ := I5.loc
      obtain ⟨g0, g1, _, g3, g4, g5⟩ := I3.fpOk (Nat.le_refl _) free
      exact ⟨m, ns, fun h' same => ⟨.ref D, H5, back.turned (t' := s'.toks) (fun b o hb got => (same.2 b hb).trans got) g0 g1 g3 g4 g5, rfl, dn⟩⟩
  have go := codeAny_compStart_dict out (T.self X.A 0 _ _ _ st3 out)
  subst hs3
  subst hD
  exact go
end
end Da
namespace Da
open PySem PySem.Spec L2 PyProof.Rows
variable [Tbs]
section
variable {prog : Program} {w : World} {A : Around} {R : Result → Shared → Prop} {s : Shared} {kx vx t0 i0 t1 i1 t2 i2 : Expr} {f0 f1 f2 : List Expr} {scope : Scope} {pos : Pos} {it acc : Value} {env : Env}
/-- a later clause's loop begins -/
theorem start3_1 (again_ : codeAny (model prog w) A (.compLoop (dc3 kx vx t0 i0 f0 t1 i1 f1 t2 i2 f2 scope pos) 1 it acc env) R s)
    (fresh : wpAny (model prog w) A (pyIter it) (fun it' s' => codeAny (model prog w) A (.compLoop (dc3 kx vx t0 i0 f0 t1 i1 f1 t2 i2 f2 scope pos) 1 it' acc env) R s') (notedBy (model prog w) A env fun x s' => R (.error x) s') s) :
    codeAny (model prog w) A (.compStart (dc3 kx vx t0 i0 f0 t1 i1 f1 t2 i2 f2 scope pos) 1 it acc env) R s := by
  apply codeAny_of_tree
  show wpAny _ _ ((compStart (dc3 kx vx t0 i0 f0 t1 i1 f1 t2 i2 f2 scope pos) 1 it acc env).onRaise fun x => do noteFrame x env; standAt theWindowsPlace) _ _ s
  apply wpAny_notedAt
  unfold compStart
  show wpAny _ _ (ask >>= _) _ _ s
  refine wpAny_bind (wpAny_askSetting (wpAny_ite ?_))
  split
  · first
      | exact wpAny_pure (And.intro rfl again_)
      | exact wpAny_bind (wpAny_pure (wpAny_pure (And.intro rfl again_)))
  · refine wpAny_bind (wpAny_rule ?_)
    show wpAny _ _ (standAt i1.pos >>= _) _ _ s
    refine wpAny_bind (wpAny_standAt (wpAny_bind (wpAny_mono fresh (fun it' s' got => ?_) fun _ _ z => z)))
    exact wpAny_pure (And.intro rfl got)
theorem start3_2 (again_ : codeAny (model prog w) A (.compLoop (dc3 kx vx t0 i0 f0 t1 i1 f1 t2 i2 f2 scope pos) 2 it acc env) R s)
    (fresh : wpAny (model prog w) A (pyIter it) (fun it' s' => codeAny (model prog w) A (.compLoop (dc3 kx vx t0 i0 f0 t1 i1 f1 t2 i2 f2 scope pos) 2 it' acc env) R s') (notedBy (model prog w) A env fun x s' => R (.error x) s') s) :
    codeAny (model prog w) A (.compStart (dc3 kx vx t0 i0 f0 t1 i1 f1 t2 i2 f2 scope pos) 2 it acc env) R s := by
  apply codeAny_of_tree
  show wpAny _ _ ((compStart (dc3 kx vx t0 i0 f0 t1 i1 f1 t2 i2 f2 scope pos) 2 it acc env).onRaise fun x => do noteFrame x env; standAt theWindowsPlace) _ _ s
  apply wpAny_notedAt
  unfold compStart
  show wpAny _ _ (ask >>= _) _ _ s
  refine wpAny_bind (wpAny_askSetting (wpAny_ite ?_))
  split
  · first
      | exact wpAny_pure (And.intro rfl again_)
      | exact wpAny_bind (wpAny_pure (wpAny_pure (And.intro rfl again_)))
  · refine wpAny_bind (wpAny_rule ?_)
    show wpAny _ _ (standAt i2.pos >>= _) _ _ s
    refine wpAny_bind (wpAny_standAt (wpAny_bind (wpAny_mono fresh (fun it' s' got => ?_) fun _ _ z => z)))
    exact wpAny_pure (And.intro rfl got)
end
section
variable {X : Cx} {kx vx t0 i0 t1 i1 t2 i2 : Expr} {f0 f1 f2 : List Expr} {scope : Scope} {own : List (Str × Nat)} {pos : Pos}
/-- three clauses -/
theorem pe_dc3 {wi0 wi1 wi2 : TI} {g0 g1 g2 : TG} {tt0 tt1 tt2 : TT} {tk tv : TE} {vs1 vs2 : List Nat} (calm : X.calm = true) (nd : X.N.Nodup) (pi : PI X t0 i0 wi0) (ok : BlkOk X.N X.env.scope scope own)
    (sub1 : ∀ i ∈ vs1, i ∈ own.map (·.2)) (sub2 : ∀ i ∈ vs2, i ∈ vs1)
    (pg0 : ∀ (s : Shared) (H : Hp) (C : Addr) (cl : List (Str × Addr)) (fp : List Addr), PG (X.blk s H scope (compEnvC scope cl C X.env) fp) t0 g0)
    (pt0 : ∀ (s : Shared) (H : Hp) (C : Addr) (cl : List (Str × Addr)) (fp : List Addr), PTs (X.blk s H scope (compEnvC scope cl C X.env) fp) f0 tt0)
    (pi1 : ∀ (s : Shared) (H : Hp) (C : Addr) (cl : List (Str × Addr)) (fp : List Addr), PI (X.blk s H scope (compEnvC scope cl C X.env) fp) t1 i1 wi1)
    (pg1 : ∀ (s : Shared) (H : Hp) (C : Addr) (cl : List (Str × Addr)) (fp : List Addr), PG (X.blk s H scope (compEnvC scope cl C X.env) fp) t1 g1)
    (pt1 : ∀ (s : Shared) (H : Hp) (C : Addr) (cl : List (Str × Addr)) (fp : List Addr), PTs (X.blk s H scope (compEnvC scope cl C X.env) fp) f1 tt1)
    (pi2 : ∀ (s : Shared) (H : Hp) (C : Addr) (cl : List (Str × Addr)) (fp : List Addr), PI (X.blk s H scope (compEnvC scope cl C X.env) fp) t2 i2 wi2)
    (pg2 : ∀ (s : Shared) (H : Hp) (C : Addr) (cl : List (Str × Addr)) (fp : List Addr), PG (X.blk s H scope (compEnvC scope cl C X.env) fp) t2 g2)
    (pt2 : ∀ (s : Shared) (H : Hp) (C : Addr) (cl : List (Str × Addr)) (fp : List Addr), PTs (X.blk s H scope (compEnvC scope cl C X.env) fp) f2 tt2)
    (pk : ∀ (s : Shared) (H : Hp) (C : Addr) (cl : List (Str × Addr)) (fp : List Addr), PE (X.blk s H scope (compEnvC scope cl C X.env) fp) kx tk)
    (pv : ∀ (s : Shared) (H : Hp) (C : Addr) (cl : List (Str × Addr)) (fp : List Addr), PE (X.blk s H scope (compEnvC scope cl C X.env) fp) vx tv)
    (fo0 : ∀ x, foldedSetIterable i0 X.env x = pure x := by intro _; rfl) (fo1 : ∀ env x, foldedSetIterable i1 env x = pure x := by intro _ _; rfl) (fo2 : ∀ env x, foldedSetIterable i2 env x = pure x := by intro _ _; rfl) :
    PE X (.DictComp kx vx [⟨t0, i0, f0, 0⟩, ⟨t1, i1, f1, 0⟩, ⟨t2, i2, f2, 0⟩] scope pos) (tDcG wi0 g0 tt0 (fun D => tIn wi1 g1 tt1 (tIn wi2 g2 tt2 (tPut D tk tv) vs2) vs1) (own.map (·.2))) :=
  pe_dcG (act := fun D env => actNext i1 (dc3 kx vx t0 i0 f0 t1 i1 f1 t2 i2 f2 scope pos) 1 (.ref D) env) calm nd pi ok pg0 pt0
    (fun D s H C cl fp => act_in (ip := i1.pos) calm rfl (pi1 s H C cl fp) (fo1 _) (pg1 s H C cl fp) (pt1 s H C cl fp)
      (act_in (k := 2) (ip := i2.pos) calm rfl (pi2 s H C cl fp) (fo2 _) (pg2 s H C cl fp) (pt2 s H C cl fp) (act_put rfl (pk s H C cl fp) (pv s H C cl fp)) (fun i hi => nomatch hi) (fun it => turn3_2) (fun it => ⟨rfl, rfl⟩) (fun it R s a b => start3_2 a b)) sub2
      (fun it => turn3_1) (fun it => ⟨rfl, rfl⟩) (fun it R s a b => start3_1 a b))
    sub1 (fun D it env => turn3_0) (fun D it env => ⟨rfl, rfl⟩) fo0
end
end Da
namespace Da
open PySem L2 PyProof.Rows
variable [Tbs]
/-! ### a dict that is being made, told by data -/
def noH : Hp := fun _ => none
/-- without what stands at D -/
def hid (D : Addr) (H : Hp) : Hp := fun a => if a = D then none else H a
theorem hid_ne {D a : Addr} {H : Hp} (h : a ≠ D) : hid D H a = H a := if_neg h
theorem hid_at {D : Addr} {H : Hp} : hid D H D = none := if_pos rfl
theorem hid_some {D a : Addr} {H : Hp} {o : HO} (h : hid D H a = some o) : a ≠ D ∧ H a = some o := by
  by_cases e : a = D
  · rw [e, hid_at] at h
    cases h
  · rw [hid_ne e] at h
    exact ⟨e, h⟩
def putD (kvs : List (Key × D)) (k : Key) (v : D) : List (Key × D) :=
  if (kvs.any fun kv => decide (kv.1 = k)) = true then kvs.map (fun kv => if kv.1 = k then (kv.1, v) else kv) else kvs ++ [(k, v)]
theorem putD_len (kvs : List (Key × D)) (k : Key) (v : D) : (putD kvs k v).length ≤ kvs.length + 1 := by
  unfold putD
  split
  · rw [List.length_map]
    omega
  · rw [List.length_append]
    exact Nat.le_refl _
section
variable {K : PySem.W.Frag} {H : Hp}
theorem RpKv.keys : ∀ {vs : List (Key × V)} {ds : List (Key × D)}, RpKv K H vs ds → vs.map (·.1) = ds.map (·.1)
  | _, _, .nil => rfl
  | _, _, .cons _ r => by rw [List.map_cons, List.map_cons, RpKv.keys r]
theorem RpKv.length {vs : List (Key × V)} {ds : List (Key × D)} (r : RpKv K H vs ds) : vs.length = ds.length := by
  have := congrArg List.length r.keys
  rwa [List.length_map, List.length_map] at this
theorem RpKv.append : ∀ {vs ws : List (Key × V)} {ds es : List (Key × D)}, RpKv K H vs ds → RpKv K H ws es → RpKv K H (vs ++ ws) (ds ++ es)
  | _, _, _, _, .nil, q => q
  | _, _, _, _, .cons a r, q => .cons a (RpKv.append r q)
theorem RpKv.swap {k : Key} {v : V} {d : D} (rv : Rp K H v d) : ∀ {vs : List (Key × V)} {ds : List (Key × D)}, RpKv K H vs ds → RpKv K H (vs.map fun kv => if kv.1 = k then (kv.1, v) else kv) (ds.map fun kv => if kv.1 = k then (kv.1, d) else kv)
  | _, _, .nil => .nil
  | _, _, .cons (k := k') a r => by
    rw [List.map_cons, List.map_cons]
    by_cases e : k' = k
    · rw [if_pos e, if_pos e]
      exact .cons rv (RpKv.swap rv r)
    · rw [if_neg e, if_neg e]
      exact .cons a (RpKv.swap rv r)
theorem any_key (k : Key) {α : Type} : ∀ kvs : List (Key × α), (kvs.any fun kv => decide (kv.1 = k)) = ((kvs.map (·.1)).any fun x => decide (x = k))
  | [] => rfl
  | _ :: r => by rw [List.any_cons, List.map_cons, List.any_cons, any_key k r]
theorem RpKv.put {vs : List (Key × V)} {ds : List (Key × D)} {k : Key} {v : V} {d : D} (r : RpKv K H vs ds) (rv : Rp K H v d) : RpKv K H (putK vs k v) (putD ds k d) := by
  have e : (vs.any fun kv => decide (kv.1 = k)) = (ds.any fun kv => decide (kv.1 = k)) := by rw [any_key, any_key, r.keys]
  unfold putK putD
  rw [e]
  split
  · exact r.swap rv
  · exact r.append (.cons rv .nil)
theorem RpKv.mono' {H' : Hp} {vs : List (Key × V)} {ds : List (Key × D)} (r : RpKv K noH vs ds) : RpKv K H' vs ds := r.mono fun a o e t => by cases e
end
section
variable {K : PySem.W.Frag} {E B : List Addr} {Z : List (List Addr × Hp)} {ss : List Sl} {os : Os} {σ : L2.St} {H H' : Hp} {D : Addr} {o : HO}
/-- a new thing that nobody is told of -/
theorem At.lay (A : At K E B Z ss os σ H) (n : H D = none) : At K (D :: E) B Z ss os σ (upd H D o) := by
  have A' := A.go (Go.new (o := o) n)
  have sub : Sub (era H (ads os ++ E)) (era (upd H D o) (ads os ++ D :: E)) := fun a u e _ => by
    obtain ⟨na, e⟩ := era_some e
    have nD : a ≠ D := ne_of_none e n
    rw [era_in (fun z => by
      rcases List.mem_append.mp z with z | z
      · exact na (List.mem_append_left _ z)
      · rcases List.mem_cons.mp z with z | z
        · exact nD z
        · exact na (List.mem_append_right _ z)), upd_ne nD]
    exact e
  exact ⟨A'.len, A'.stp, fun b hb => let ⟨l, h1, h2⟩ := A'.bag b hb; ⟨l, List.mem_cons_of_mem _ h1, h2⟩, A'.bgo, fun b hb => List.mem_cons_of_mem _ (A'.bE b hb), A'.bW,
    fun i d e => let ⟨v, h1, h2⟩ := A.slot i d e; ⟨v, h1, h2.mono sub⟩, A'.ownS,
    fun p od h => by
      have w := A.own p od h
      cases od with
      | lst es =>
        obtain ⟨vs, e1, e2⟩ := w
        exact ⟨vs, (Go.new (B := B) n).one (fun z => A.oE p (List.mem_map.mpr ⟨_, h, rfl⟩) (A.bE p z)) e1 trivial, e2.mono sub⟩,
    A'.nd, A'.frs, fun p hp z => by
      rcases List.mem_cons.mp z with z | z
      · exact A.tracked hp (z ▸ n)
      · exact A'.oE p hp z, fun e he => by
      rcases List.mem_cons.mp he with rfl | he
      · rw [upd_same]
        simp
      · exact A'.ent e he, A'.tab⟩
end
end Da
namespace Da
open PySem L2 PyProof.Rows
variable [Tbs]
section
variable {K : PySem.W.Frag} {E B : List Addr} {Z : List (List Addr × Hp)} {ss : List Sl} {os : Os} {σ : L2.St} {H H' : Hp} {D : Addr} {o : HO}
theorem bag_off {b l : Addr} {vs : List (Key × V)} {u : HO} (g : BagL H b l) (hD : H D = some (.dK vs)) : BagL (upd H D u) b l := by
  obtain ⟨w, c, i, ns, e1, e2, q⟩ := g
  have n1 : b ≠ D := fun z => by rw [z, hD] at e1; cases e1
  have n2 : l ≠ D := fun z => by rw [z, hD] at e2; cases e2
  exact ⟨w, c, i, ns, by rw [upd_ne n1]; exact e1, by rw [upd_ne n2]; exact e2, q⟩
/-- what nobody is told of is changed -/
theorem At.write {vs vs' : List (Key × V)} (A : At K (D :: E) B Z ss os σ H) (hD : H D = some (.dK vs)) (hz : ∀ z, z ∈ Z → D ∈ z.1 ∨ z.2 D = none) : At K (D :: E) B Z ss os σ (upd H D (.dK vs')) := by
  have inE : ∀ {os : Os}, D ∈ ads os ++ D :: E := fun {os} => List.mem_append_right _ List.mem_cons_self
  have same : era (upd H D (.dK vs')) (ads os ++ D :: E) = era H (ads os ++ D :: E) := by
    funext a
    by_cases e : a ∈ ads os ++ D :: E
    · unfold era
      rw [if_pos e, if_pos e]
    · rw [era_in e, era_in e, upd_ne (fun z => e (by rw [z]; exact inE))]
  refine ⟨A.len, fun z hz' a u n e => ?_, fun b hb => ?_, fun z hz' b hb l g => bag_off (A.bgo z hz' b hb l g) hD, A.bE, A.bW, fun i d e => ?_, A.ownS, fun p od h => ?_, A.nd, A.frs, A.oE, fun e he => ?_, tabs_dk A.tab hD⟩
  · by_cases ha : a = D
    · subst ha
      rcases hz z hz' with q | q
      · exact absurd q n
      · rw [q] at e
        cases e
    · rw [upd_ne ha]
      exact A.stp z hz' a u n e
  · obtain ⟨l, h1, h2⟩ := A.bag b hb
    exact ⟨l, h1, bag_off h2 hD⟩
  · rw [same]
    exact A.slot i d e
  · have q := A.own p od h
    cases od with
    | lst es =>
      obtain ⟨ws, e1, e2⟩ := q
      have np : p ≠ D := fun z => A.oE p (List.mem_map.mpr ⟨_, h, rfl⟩) (by rw [z]; exact List.mem_cons_self)
      exact ⟨ws, by rw [upd_ne np]; exact e1, by rw [same]; exact e2⟩
  · by_cases ha : e = D
    · rw [ha, upd_same]
      simp
    · rw [upd_ne ha]
      exact A.ent e he
theorem all_hid {H : Hp} : All (hid D H) H := fun a o e => (hid_some e).2
theorem tabs_hid {T : TB0} {o : HO} (t : Tbl T H) (e : H D = some o) (nt : NT o) (nc : ∀ q, o ≠ LamX.CodeO D q) : Tbl T (hid D H) := ⟨fun x hx => by
  obtain ⟨ps, h1, h2, h3⟩ := t.1 x hx
  refine ⟨ps, by rw [hid_ne (fun z => by rw [z, e] at h1; cases h1; exact nt)]; exact h1, h2, fun pos cv hc => ?_⟩
  obtain ⟨c, e1, e2⟩ := h3 pos cv hc
  exact ⟨c, e1, by rw [hid_ne (fun z => by rw [z, e] at e2; exact nc _ (Option.some.inj e2))]; exact e2⟩, fun x hx => by rw [hid_ne (fun z => by have e2 := t.2 x hx; rw [z, e] at e2; exact nc _ (Option.some.inj e2))]; exact t.2 x hx⟩
theorem tabs_hdk {T : TB0} {vs : List (Key × V)} (t : Tbl T H) (e : H D = some (.dK vs)) : Tbl T (hid D H) := tabs_hid t e trivial fun q z => by unfold LamX.CodeO at z; cases z
theorem go_hid {H1 : Hp} (g : Go B (hid D H) H') (g' : Go B (hid D H') H1) (ht : Tbl Tbs.tabs H' → Tbl Tbs.tabs (hid D H')) : Go B (hid D H) H1 := by
  refine ⟨fun a o n e => ?_, fun b hb l h => ?_, fun t => g'.tab (ht (g.tab t))⟩
  · obtain ⟨nD, _⟩ := hid_some e
    exact stay_trans (g.stp a o n e) fun o e => g'.stp a o n (by rw [hid_ne nD]; exact e)
  · have w := g.bag b hb l h
    obtain ⟨_, _, _, _, e1, e2, _⟩ := h
    have n1 := (hid_some e1).1
    have n2 := (hid_some e2).1
    refine g'.bag b hb l ?_
    obtain ⟨w, c, i, ns, e1, e2, q⟩ := w
    exact ⟨w, c, i, ns, by rw [hid_ne n1]; exact e1, by rw [hid_ne n2]; exact e2, q⟩
theorem go_of_hid (g : Go B H H') : Go B (hid D H) H' := by
  refine ⟨fun a o n e => g.stp a o n (hid_some e).2, fun b hb l h => g.bag b hb l ?_, fun t => g.tab (all_hid.tabs t)⟩
  obtain ⟨w, c, i, ns, e1, e2, q⟩ := h
  exact ⟨w, c, i, ns, (hid_some e1).2, (hid_some e2).2, q⟩
theorem At.step {vs vs' : List (Key × V)} (A : At K (D :: E) B Z ss os σ H) (hD : H D = some (.dK vs)) (hz : ∀ z, z ∈ Z → D ∈ z.1 ∨ z.2 D = none) (g : Go B (hid D H) H') (hD' : H' D = some (.dK vs')) : At K (D :: E) B Z ss os σ H' := by
  refine (A.write (vs' := vs') hD hz).go ⟨fun a o n e => ?_, fun b hb l h => ?_, fun _ => g.tab (tabs_hdk A.tab hD)⟩
  · by_cases ha : a = D
    · subst ha
      rw [upd_same] at e
      cases e
      exact stays hD'
    · rw [upd_ne ha] at e
      exact g.stp a o n (by rw [hid_ne ha]; exact e)
  · refine g.bag b hb l ?_
    obtain ⟨w, c, i, ns, e1, e2, q⟩ := h
    have n1 : b ≠ D := fun z => by rw [z, upd_same] at e1; cases e1
    have n2 : l ≠ D := fun z => by rw [z, upd_same] at e2; cases e2
    rw [upd_ne n1] at e1
    rw [upd_ne n2] at e2
    exact ⟨w, c, i, ns, by rw [hid_ne n1]; exact e1, by rw [hid_ne n2]; exact e2, q⟩
/-- an act on the dict at D: kvs becomes f kvs, at most c more -/
def ActE (K : PySem.W.Frag) (E B : List Addr) (ss : List Sl) (o0 : Os) (t : Addr → L2.St → Hp → (Hp → Prop) → Prop) (c : Nat) (f : List (Key × Da.D) → List (Key × Da.D)) : Prop :=
  ∀ (D : Addr) (Z : List (List Addr × Hp)) (os : Os) (σ : L2.St) (H : Hp) (kvs : List (Key × Da.D)) (vs : List (Key × V)) (Q : Hp → Prop), (∀ x, x ∈ o0 → x ∈ os) → At K (D :: E) B Z ss os σ H → D ∉ B → (∀ z, z ∈ Z → D ∈ z.1 ∨ z.2 D = none) →
    H D = some (.dK vs) → RpKv K noH vs kvs → kvs.length + c ≤ 1000000 →
    (∀ H' vs', Go B (hid D H) H' → H' D = some (.dK vs') → RpKv K noH vs' (f kvs) → (f kvs).length ≤ kvs.length + c → Q H') → t D σ H Q
theorem ae_put {o0 : Os} {tk tv : TE} {ks : List Nat} {d : Da.D} (fl : d.flat = true) (hk : ∀ D, EvD K (D :: E) B true ss o0 tk (.str ks)) (hv : ∀ D, EvD K (D :: E) B true ss o0 tv d) :
    ActE K E B ss o0 (fun D => tPut D tk tv) 1 (fun kvs => putD kvs (.inr (mk ks)) d) := fun D Z os σ H kvs vs Q io A nB hz hD r few q => by
  refine hk D Z os σ H io A _ fun y dy H1 g1 r1 _ e1 => ?_
  subst e1
  cases r1
  refine hv D Z os σ H1 io (A.go g1) _ fun z dz H2 g2 r2 _ e2 => ?_
  subst e2
  have g := g1.trans g2
  have hD2 : H2 D = some (.dK vs) := g.one nB hD trivial
  refine ⟨vs, .inr (mk ks), rfl, hD2, ?_, ?_⟩
  · rw [r.length]
    exact Nat.lt_of_le_of_lt (show kvs.length ≤ 1000000 by omega) (by decide)
  · refine q _ _ ?_ upd_same (r.put (rp_flat r2 fl)) (putD_len _ _ _)
    have gh := go_of_hid (D := D) g
    refine ⟨fun a o n e => ?_, fun b hb l h => bag_off (gh.bag b hb l h) hD2, fun t => tabs_dk (gh.tab t) hD2⟩
    rw [upd_ne (hid_some e).1]
    exact gh.stp a o n e
theorem over_clause {o0 : Os} {j : Nat} {vs : List Nat} {t : Addr → L2.St → Hp → (Hp → Prop) → Prop} {c : Nat} {f : Da.D → List (Key × Da.D) → List (Key × Da.D)} {ds : List Da.D} (hj : j ∈ vs)
    (he : ∀ x, x ∈ ds → ActE K E B ((wip ss vs).set j (.dat x)) o0 t c (f x)) {D : Addr} {Z : List (List Addr × Hp)} {os : Os} {σ : L2.St} {J : It} {Hc : Hp} {kvs : List (Key × Da.D)} {ws : List (Key × V)} {Q : Hp → Prop}
    (io : ∀ x, x ∈ o0 → x ∈ os) (A : At K (D :: E) B Z ss os σ Hc) (nB : D ∉ B) (hz : ∀ z, z ∈ Z → D ∈ z.1 ∨ z.2 D = none) (hD : Hc D = some (.dK ws)) (r : RpKv K noH ws kvs) (few : kvs.length + ds.length * c ≤ 1000000)
    (it : ItD K (ads os ++ D :: E) Hc J ds)
    (q : ∀ H' vs', Go B (hid D Hc) H' → H' D = some (.dK vs') → RpKv K noH vs' (ds.foldl (fun a x => f x a) kvs) → (ds.foldl (fun a x => f x a) kvs).length ≤ kvs.length + ds.length * c → Q H') :
    ∃ W : Nat → Nat → Hp → Prop, (∃ m, W 0 m Hc) ∧ Over J (gName j) tYes (t D) σ vs W Q := by
  let st : Nat → Hp → Prop := fun i H => ∃ vs', At K (D :: E) B Z ss os σ H ∧ Go B (hid D Hc) H ∧ H D = some (.dK vs') ∧ RpKv K noH vs' ((ds.take i).foldl (fun a x => f x a) kvs) ∧ ((ds.take i).foldl (fun a x => f x a) kvs).length ≤ kvs.length + i * c
  refine ⟨fun i m H => m = ds.length - i ∧ i ≤ ds.length ∧ st i H, ⟨ds.length, by simp, Nat.zero_le _, ws, A, go_of_hid .refl, hD, r, by simp⟩, ?_⟩
  rintro i m H ⟨rfl, hi, vs', A', g', hD', r', l'⟩
  obtain ⟨i1, i2, i3⟩ := it H fun a o n e t => g'.one (fun z => n (List.mem_append_right _ (A.bE a z))) (by rw [hid_ne (fun z => n (by rw [z]; exact List.mem_append_right _ List.mem_cons_self))]; exact e) t
  by_cases hlt : i < ds.length
  · refine .inr ⟨i1 i hlt, st (i + 1), fun H2 h2 => ⟨ds.length - (i + 1), by omega, rfl, hlt, h2⟩, fun x H2 y => ?_⟩
    obtain ⟨rfl, d, hd, rx⟩ := i3 i x H2 hlt y
    refine ⟨wipe_self hj, ?_⟩
    have rx2 : Rp K (era H2 (ads os ++ D :: E)) x d := rx.mono fun a o e t => by
      obtain ⟨na, e⟩ := era_some e
      rw [era_in na]
      exact g'.one (fun z => na (List.mem_append_right _ (A.bE a z))) (by rw [hid_ne (fun z => na (by rw [z]; exact List.mem_append_right _ List.mem_cons_self))]; exact e) t
    apply yes_t
    have mem := List.mem_of_getElem? hd
    have tk : ds.take (i + 1) = ds.take i ++ [d] := by rw [List.take_succ, hd] <;> rfl
    have mul : (i + 1) * c ≤ ds.length * c := Nat.mul_le_mul_right c hlt
    have mul2 : (i + 1) * c = i * c + c := Nat.succ_mul i c
    refine he d mem D Z os _ H2 _ vs' _ io ((A'.wipe vs).set rx2) nB hz hD' r' (by omega) fun H3 vs3 g3 hD3 r3 l3 => ?_
    exact ⟨vs3, A'.step hD' hz g3 hD3, go_hid g' g3 (fun t => tabs_hdk t hD'), hD3, by rw [tk, List.foldl_append]; exact r3, by rw [tk, List.foldl_append]; exact Nat.le_trans l3 (by omega)⟩
  · have e : i = ds.length := by omega
    subst e
    rw [List.take_length] at r' l'
    exact .inl ⟨i2 _ (Nat.le_refl _), q H vs' g' hD' r' l'⟩
/-- a clause within another one's turn -/
theorem ae_in {o0 : Os} {wi : TI} {j : Nat} {vs : List Nat} {t : Addr → L2.St → Hp → (Hp → Prop) → Prop} {c : Nat} {f : Da.D → List (Key × Da.D) → List (Key × Da.D)} {ds : List Da.D} (src : ∀ D, EvID K (D :: E) B ss o0 wi ds) (hj : j ∈ vs)
    (he : ∀ x, x ∈ ds → ActE K E B ((wip ss vs).set j (.dat x)) o0 t c (f x)) : ActE K E B ss o0 (fun D => tIn wi (gName j) tYes (t D) vs) (ds.length * c) (fun kvs => ds.foldl (fun a x => f x a) kvs) := fun D Z os σ H kvs ws Q io A nB hz hD r few q => by
  refine src D Z os σ H io A _ fun J es Hc g it e => ?_
  subst e
  refine over_clause hj he io (A.go g) nB hz (g.one nB hD trivial) r few it fun H' vs' g' hD' r' l' => q H' vs' ?_ hD' r' l'
  exact go_hid (go_of_hid g) g' fun t => tabs_hdk t (g.one nB hD trivial)
/-- the whole dict -/
theorem ev_dcG {o0 : Os} {m : Bool} {wi : TI} {j : Nat} {vs : List Nat} {t : Addr → L2.St → Hp → (Hp → Prop) → Prop} {c : Nat} {f : Da.D → List (Key × Da.D) → List (Key × Da.D)} {ds : List Da.D} (src : EvID K E B ss o0 wi ds) (hj : j ∈ vs) (few : ds.length * c ≤ 1000000)
    (he : ∀ x, x ∈ ds → ActE K E B ((wip ss vs).set j (.dat x)) o0 t c (f x)) : Ev K E B m ss o0 false (tDcG wi (gName j) tYes t vs) (fun d => d = .dic (ds.foldl (fun a x => f x a) [])) := fun Z os σ H io A Q q => by
  refine src Z os σ H io A _ fun J es H1 g it e => ?_
  subst e
  intro D nD
  have A1 := A.go g
  have nB : D ∉ B := fun z => by
    obtain ⟨l, _, w⟩ := A1.bag D z
    obtain ⟨_, _, _, _, e, _⟩ := w
    rw [nD] at e
    cases e
  have hz : ∀ z, z ∈ Z → D ∈ z.1 ∨ z.2 D = none := fun z hz => by
    by_cases ha : D ∈ z.1
    · exact .inl ha
    · refine .inr ?_
      match q : z.2 D with
      | none => rfl
      | some o =>
        exact absurd nD (A1.stp z hz D o ha q).2
  have off : ∀ a, a ∈ er m os E → a ≠ D := fun a ha z => by
    subst z
    cases m with
    | true =>
      rcases List.mem_append.mp ha with h | h
      · exact A1.tracked h nD
      · exact A1.ent a h nD
    | false => exact A1.ent a ha nD
  have it2 : ItD K (ads os ++ D :: E) (upd H1 D (.dK [])) J es := fun H2 s => by
    obtain ⟨i1, i2, i3⟩ := it H2 fun a o n e t => by
      have na : a ≠ D := ne_of_none e nD
      refine s a o (fun z => ?_) (by rw [upd_ne na]; exact e) t
      rcases List.mem_append.mp z with z | z
      · exact n (List.mem_append_left _ z)
      · rcases List.mem_cons.mp z with z | z
        · exact na z
        · exact n (List.mem_append_right _ z)
    refine ⟨i1, i2, fun i x H' hi y => ?_⟩
    obtain ⟨e, d, hd, r⟩ := i3 i x H' hi y
    refine ⟨e, d, hd, r.mono fun a o e _ => ?_⟩
    obtain ⟨na, e⟩ := era_some e
    have nD' : a ≠ D := ne_of_none e nD
    rw [era_in (fun z => by
      rcases List.mem_append.mp z with z | z
      · exact na (List.mem_append_left _ z)
      · rcases List.mem_cons.mp z with z | z
        · exact nD' z
        · exact na (List.mem_append_right _ z)), upd_ne nD']
    exact e
  refine over_clause (kvs := []) (ws := []) hj he io (A1.lay nD) nB hz upd_same .nil (by simpa using few) it2 fun H' vs' g' hD' r' _ => ?_
  have gg : Go B H1 H' := by
    refine ⟨fun a o n e => ?_, fun b hb l h => g'.bag b hb l ?_, fun t => g'.tab (All.tabs (fun a o e => by have na := ne_of_none e nD; rw [hid_ne na, upd_ne na]; exact e) t)⟩
    · have na : a ≠ D := ne_of_none e nD
      exact g'.stp a o n (by rw [hid_ne na, upd_ne na]; exact e)
    · obtain ⟨w, c, i, ns, e1, e2, q⟩ := h
      have n1 : b ≠ D := ne_of_none e1 nD
      have n2 : l ≠ D := ne_of_none e2 nD
      exact ⟨w, c, i, ns, by rw [hid_ne n1, upd_ne n1]; exact e1, by rw [hid_ne n2, upd_ne n2]; exact e2, q⟩
  refine q _ _ H' (g.trans gg) (.dic (xs := vs') ?_ r'.mono') (fun z => absurd z (by simp)) rfl
  rw [era_in (fun z => off D z rfl)]
  exact hD'
end
end Da
namespace Da
open PySem L2 PyProof.Rows
variable [Tbs]
section
variable {K : PySem.W.Frag} {H : Hp}
theorem RpFs.lookup {f : Str} {d : D} : ∀ {fs : List (Str × V)} {ds : List (Str × D)}, RpFs K H fs ds → ds.lookup f = some d → ∃ v, fs.lookup f = some v ∧ Rp K H v d
  | _, _, .nil, h => by cases h
  | _, _, .cons (k := k) a r, h => by
    rw [List.lookup_cons] at h
    by_cases e : (f == k) = true
    · rw [e] at h
      cases h
      exact ⟨_, by rw [List.lookup_cons, e], a⟩
    · have e : (f == k) = false := by simpa using e
      rw [e] at h
      obtain ⟨v, h1, h2⟩ := RpFs.lookup r h
      exact ⟨v, by rw [List.lookup_cons, e]; exact h1, h2⟩
theorem RpFs.none {f : Str} : ∀ {fs : List (Str × V)} {ds : List (Str × D)}, RpFs K H fs ds → ds.lookup f = Option.none → fs.lookup f = Option.none
  | _, _, .nil, _ => rfl
  | _, _, .cons (k := k) _ r, h => by
    rw [List.lookup_cons] at h ⊢
    by_cases e : (f == k) = true
    · rw [e] at h
      cases h
    · have e : (f == k) = false := by simpa using e
      rw [e] at h ⊢
      exact RpFs.none r h
/-- a pair by its key -/
def getD? (kvs : List (Key × D)) (k : Key) : Option D := (kvs.find? fun kv => decide (kv.1 = k)).map (·.2)
theorem RpKv.find {k : Key} {d : D} : ∀ {vs : List (Key × V)} {ds : List (Key × D)}, RpKv K H vs ds → getD? ds k = some d → ∃ v, valV vs k = some v ∧ Rp K H v d
  | _, _, .nil, h => by cases h
  | _, _, .cons (k := k') (v := v') a r, h => by
    unfold getD? at h
    rw [List.find?_cons] at h
    by_cases e : k' = k
    · simp only [e, decide_true] at h
      cases h
      exact ⟨v', valV_pos e, a⟩
    · simp only [e, decide_false] at h
      obtain ⟨v, h1, h2⟩ := RpKv.find r h
      exact ⟨v, by rw [valV_neg (p := (k', v')) e]; exact h1, h2⟩
end
section
variable {K : PySem.W.Frag} {E B : List Addr} {Z : List (List Addr × Hp)} {ss : List Sl} {m F : Bool} {o0 : Os} {te ta ty : TE} {P : D → Prop} {C : Addr} {fs : List (Str × D)}
/-! ### objects of the program's own classes -/
theorem ev_fld {f : Str} {d : D} (h : EvD K E B m ss o0 te (.obj C fs)) (c : Cls K C) (n : NoAttr K C f) (l : fs.lookup f = some d) : EvD K E B m ss o0 (tFld K te f) d := fun Z os σ H i A Q q => h Z os σ H i A _ fun v x H1 g r _ e => by
  subst e
  cases r with
  | obj h1 h2 =>
    obtain ⟨u, l1, l2⟩ := h2.lookup l
    exact ⟨_, C, _, _, u, rfl, era_sub _ _ _ _ h1, c, n, l1, q u d H1 g l2 (fun z => absurd z (by simp)) rfl⟩
/-- d[k] -/
theorem ev_dget {kvs : List (Key × D)} {k : Key} {d x : D} (h : EvD K E B m ss o0 te (.dic kvs)) (hk : EvD K E B m ss o0 ty x) (hx : ∀ H v, Rp K H v x → v = kV k) (l : getD? kvs k = some d) : EvD K E B m ss o0 (tDGet te ty) d := fun Z os σ H i A Q q => h Z os σ H i A _ fun v y H1 g r _ e => by
  subst e
  refine hk Z os σ H1 i (A.go g) _ fun w z H2 g2 r2 _ e2 => ?_
  subst e2
  have r' := (A.rg m).go g |>.keep g2 r
  cases r' with
  | dic h1 h2 =>
    obtain ⟨u, l1, l2⟩ := h2.find l
    have e := hx _ _ r2
    subst e
    refine ⟨_, u, rfl, ?_, q u d H2 (g.trans g2) l2 (fun z => absurd z (by simp)) rfl⟩
    have := DGet.k (k := k) (era_sub _ _ _ _ h1)
    rw [l1] at this
    exact this
/-- the callee's promise, where no bag is handed -/
theorem sp_go {pre : List D → Prop} {post : List D → D → Prop} {os : Os} {σ : L2.St} {H H1 : Hp} {vs : List V} {ds : List D} {X : XK} {Q : VK} (A : At K E B Z ss os σ H) (g1 : Go B H H1) (r : RpAll K (era H1 (er m os E)) vs ds) (h1 : pre ds)
    (q : ∀ v d H', Go B H H' → Rp K (era H' (er m os E)) v d → (F = true → New K H H' (er m os E) v d) → post ds d → Q v H') : SpX K false pre F post vs H1 Q X := by
  have rg := (A.rg m).go g1
  refine ⟨er m os E, ds, ⟨fun b hb => (nomatch hb), fun b hb => (nomatch hb), rg.ent, rg.tab⟩, r, h1, fun v d H' g r f p => ?_⟩
  have gB : Go B H1 H' := ⟨fun a o n e => g.stp a o (fun z => nomatch z) e, fun b hb l hg => by
    obtain ⟨x, c, k, ns, e1, e2, rr⟩ := hg
    exact ⟨x, c, k, ns, g.one (fun z => nomatch z) e1 trivial, g.one (fun z => nomatch z) e2 trivial, rr⟩, g.tab⟩
  exact q v d H' (g1.trans gB) r (fun hf => (f hf).back g1 A.bag) p
theorem ev_prop {pre : List D → Prop} {post : List D → D → Prop} {X : XK} (h : EvD K E B m ss o0 te (.obj C fs)) (h1 : pre [.obj C fs]) (h3 : ∀ d, post [.obj C fs] d → P d) : Ev K E B m ss o0 F (tProp C (SpX K false pre F post) [] X te) P := fun Z os σ H i A Q q => h Z os σ H i A _ fun v x H1 g r _ e => by
  subst e
  cases id r with
  | obj k1 k2 => exact ⟨_, _, _, rfl, era_sub _ _ _ _ k1, sp_go A g (.cons r .nil) h1 fun v d H' g r f p => q v d H' g r f (h3 d p)⟩
theorem ev_meth {pre : List D → Prop} {post : List D → D → Prop} {X : XK} {mn : Str} {t : TA} {ds : List D} (h : EvD K E B m ss o0 te (.obj C fs)) (nm : fs.lookup mn = none) (ht : EaD K E B m ss o0 t ds) (h1 : pre (.obj C fs :: ds)) (h3 : ∀ d, post (.obj C fs :: ds) d → P d) :
    Ev K E B m ss o0 F (tMeth C mn (SpX K false pre F post) [] X te t) P := fun Z os σ H i A Q q => h Z os σ H i A _ fun v x H1 g r _ e => by
  subst e
  cases id r with
  | obj k1 k2 =>
    refine ⟨_, _, _, rfl, era_sub _ _ _ _ k1, k2.none nm, ?_⟩
    refine ht Z os σ H1 i (A.go g) _ fun vs es H2 g2 r2 e2 => ?_
    subst e2
    rw [List.append_nil]
    exact sp_go A (g.trans g2) (.cons (((A.rg m).go g).keep g2 r) r2) h1 fun v d H' g r f p => q v d H' g r f (h3 d p)
/-- what a class's __init__ promises: a new object at x gets its attributes -/
def SpInit (K : PySem.W.Frag) (C : Addr) (pre : List D → Prop) (post : List D → List (Str × D) → Prop) : Sp := fun vs H Q _ => ∃ (R : List Addr) (x dx : Addr) (us : List V) (ds : List D), vs = .ref x :: us ∧ H x = some (.ins C dx []) ∧ Rg [] (x :: R) H ∧ RpAll K (era H (x :: R)) us ds ∧ pre ds ∧
  ∀ H' fs es, Go [] (hid x H) H' → H' x = some (.ins C dx fs) → RpFs K (era H' (x :: R)) fs es → post ds es → Q .non H'
theorem ev_make {pre : List D → Prop} {post : List D → List (Str × D) → Prop} {X : XK} {t : TA} {ds : List D} (ht : EaD K E B m ss o0 t ds) (h1 : pre ds) (h3 : ∀ es, post ds es → P (.obj C es)) : Ev K E B m ss o0 false (tMake C (SpInit K C pre post) [] X t) P := fun Z os σ H i A Q q => ht Z os σ H i A _ fun vs es H1 g r e => by
  subst e
  intro x dx nx ndx ne
  have rg := (A.rg m).go g
  have R0 : ∀ a, a ∈ er m os E → a ≠ x ∧ a ≠ dx := fun a ha => ⟨fun z => rg.ent a ha (z ▸ nx), fun z => rg.ent a ha (z ▸ ndx)⟩
  have keep : ∀ a o, H1 a = some o → upd (upd H1 dx (.own x)) x (.ins C dx []) a = some o := fun a o e => by
    rw [upd_ne (ne_of_none e nx), upd_ne (ne_of_none e ndx)]
    exact e
  rw [List.append_nil]
  refine ⟨er m os E, x, dx, vs, _, rfl, upd_same, ⟨fun b hb => (nomatch hb), fun b hb => (nomatch hb), fun a ha => ?_, All.tabs keep rg.tab⟩, r.mono fun a o e _ => ?_, h1, fun H' fs fds gh hx rf p => ⟨rfl, ?_⟩⟩
  · rcases List.mem_cons.mp ha with rfl | ha
    · rw [upd_same]
      simp
    · match q : H1 a with
      | some o =>
        rw [keep a o q]
        simp
      | none => exact absurd q (rg.ent a ha)
  · obtain ⟨na, e⟩ := era_some e
    rw [era_in (fun z => by
      rcases List.mem_cons.mp z with z | z
      · exact ne_of_none e nx z
      · exact na z)]
    exact keep a o e
  · have all : All H1 (hid x (upd (upd H1 dx (.own x)) x (.ins C dx []))) := fun a o e => by
      rw [hid_ne (ne_of_none e nx)]
      exact keep a o e
    have gg : Go B H1 H' := (Go.of all).trans ⟨fun a o n e => gh.stp a o (fun z => nomatch z) e, fun b hb l hg => by
      obtain ⟨x, c, k, ns, e1, e2, rr⟩ := hg
      exact ⟨x, c, k, ns, gh.one (fun z => nomatch z) e1 trivial, gh.one (fun z => nomatch z) e2 trivial, rr⟩, gh.tab⟩
    refine q _ _ H' (g.trans gg) (.obj (dx := dx) (fs := fs) ?_ (rf.mono (era_less H' fun a ha => List.mem_cons_of_mem _ ha))) (fun z => absurd z (by simp)) (h3 _ p)
    rw [era_in (fun z => (R0 x z).1 rfl)]
    exact hx
end
/-- what is never reached -/
theorem ps_dead {X : Cx} {st : Stmt} : PS X st (fun _ _ _ => False) := ⟨fun _ _ _ _ _ _ h => h.elim⟩
end Da
namespace Da
open PySem L2 PyProof.Rows
variable [Tbs]
/-! ### attributes that are stored -/
def putFD (f : Str) (d : D) : List (Str × D) → List (Str × D)
  | [] => [(f, d)]
  | (k, e) :: r => if k = f then (k, d) :: r else (k, e) :: putFD f d r
section
variable {K : PySem.W.Frag} {H : Hp}
theorem RpFs.put {f : Str} {v : V} {d : D} (rv : Rp K H v d) : ∀ {fs : List (Str × V)} {es : List (Str × D)}, RpFs K H fs es → RpFs K H (putF f v fs) (putFD f d es)
  | _, _, .nil => .cons rv .nil
  | _, _, .cons (k := k) a r => by
    by_cases e : k = f
    · subst e
      simp only [putF, putFD, if_true]
      exact .cons rv r
    · simp only [putF, putFD, if_neg e]
      exact .cons a (RpFs.put rv r)
end
section
variable {K : PySem.W.Frag} {E B : List Addr} {Z : List (List Addr × Hp)} {ss : List Sl} {os : Os} {σ : L2.St} {H H' : Hp} {x C dx : Addr} {te : TE} {F : Bool} {P : D → Prop} {Dn : Ends}
theorem bag_offO {b l : Addr} {u : HO} (g : BagL H b l) (hn : ∀ xs, H x ≠ some (.lst xs)) : BagL (upd H x u) b l := by
  obtain ⟨w, c, i, ns, e1, e2, q⟩ := g
  have n1 : b ≠ x := fun z => by rw [z] at e1; exact hn _ e1
  have n2 : l ≠ x := fun z => by rw [z] at e2; exact hn _ e2
  exact ⟨w, c, i, ns, by rw [upd_ne n1]; exact e1, by rw [upd_ne n2]; exact e2, q⟩
theorem era_upd {R : List Addr} {u : HO} (h : x ∈ R) : era (upd H x u) R = era H R := by
  funext a
  by_cases e : a ∈ R
  · unfold era
    rw [if_pos e, if_pos e]
  · rw [era_in e, era_in e, upd_ne (fun z : a = x => e (by rw [z]; exact h))]
/-- a set is no code -/
theorem set_ne {φ : Heap → Prop} {c : Addr} {q : Str} (h : ∀ h, φ h → ∃ o es n t, h.get? c = some o ∧ o.data = .set es n t) : HO.ext φ ≠ LamX.CodeO c q := fun z => by
  unfold LamX.CodeO at z
  have e := HO.ext.inj z
  have g : (⟨Array.replicate (c + 1) { cls := .none, data := .fields #[.none, .str q 0] }, {}⟩ : Heap).get? c = some { cls := .none, data := .fields #[.none, .str q 0] } := by
    unfold Heap.get?
    simp
  have t := congrFun e ⟨Array.replicate (c + 1) { cls := .none, data := .fields #[.none, .str q 0] }, {}⟩
  have y : φ ⟨Array.replicate (c + 1) { cls := .none, data := .fields #[.none, .str q 0] }, {}⟩ := by
    rw [t]
    exact ⟨_, _, 0, g, rfl, rfl⟩
  obtain ⟨o, es, n, tt, e1, e2⟩ := h _ y
  rw [g] at e1
  cases e1
  cases e2
theorem At.writeO {u : HO} (A : At K (x :: E) B Z ss os σ H) (hn : ∀ xs, H x ≠ some (.lst xs)) (hz : ∀ z, z ∈ Z → x ∈ z.1 ∨ z.2 x = none) (ht : Tbl Tbs.tabs H → Tbl Tbs.tabs (upd H x u)) : At K (x :: E) B Z ss os σ (upd H x u) := by
  have same : era (upd H x u) (ads os ++ x :: E) = era H (ads os ++ x :: E) := era_upd (List.mem_append_right _ List.mem_cons_self)
  refine ⟨A.len, fun z hz' a v n e => ?_, fun b hb => ?_, fun z hz' b hb l g => bag_offO (A.bgo z hz' b hb l g) hn, A.bE, A.bW, fun i d e => ?_, A.ownS, fun p od h => ?_, A.nd, A.frs, A.oE, fun e he => ?_, ht A.tab⟩
  · by_cases ha : a = x
    · subst ha
      rcases hz z hz' with q | q
      · exact absurd q n
      · rw [q] at e
        cases e
    · rw [upd_ne ha]
      exact A.stp z hz' a v n e
  · obtain ⟨l, h1, h2⟩ := A.bag b hb
    exact ⟨l, h1, bag_offO h2 hn⟩
  · rw [same]
    exact A.slot i d e
  · have q := A.own p od h
    cases od with
    | lst es =>
      obtain ⟨ws, e1, e2⟩ := q
      have np : p ≠ x := fun z => A.oE p (List.mem_map.mpr ⟨_, h, rfl⟩) (by rw [z]; exact List.mem_cons_self)
      exact ⟨ws, by rw [upd_ne np]; exact e1, by rw [same]; exact e2⟩
  · by_cases ha : e = x
    · rw [ha, upd_same]
      simp
    · rw [upd_ne ha]
      exact A.ent e he
/-- the object at x, its attributes told by data -/
def ObAt (K : PySem.W.Frag) (E : List Addr) (C dx x : Addr) (es : List (Str × D)) (H : Hp) : Prop := ∃ fs, H x = some (.ins C dx fs) ∧ RpFs K (era H (x :: E)) fs es ∧ fs.length = es.length
theorem putF_len (f : Str) (v : V) (d : D) : ∀ (fs : List (Str × V)) (es : List (Str × D)), RpFs K H fs es → (putF f v fs).length = (putFD f d es).length
  | _, _, .nil => rfl
  | _, _, .cons (k := k) (vs := fs) (ds := es) _ r => by
    have ih := putF_len f v d fs es r
    have l : fs.length = es.length := by
      have : ∀ {fs : List (Str × V)} {es : List (Str × D)}, RpFs K H fs es → fs.length = es.length := fun {fs es} r => by
        induction fs generalizing es with
        | nil => cases r; rfl
        | cons a t ih => cases r with | cons _ r => simp [ih r]
      exact this r
    by_cases e : k = f
    · simp only [putF, putFD, if_pos e, List.length_cons, l]
    · simp only [putF, putFD, if_neg e, List.length_cons, ih]
/-- self.f = e -/
theorem s_setf {i : Nat} {f : Str} {es : List (Str × D)} (A : At K (x :: E) B Z ss [] σ H) (nB : x ∉ B) (hz : ∀ z, z ∈ Z → x ∈ z.1 ∨ z.2 x = none) (hi : ss[i]? = some (.dat (.raw (.ref x)))) (ob : ObAt K E C dx x es H) (few : es.length < 900) (c : Cls K C) (n : NoAttr K C f)
    (h : Ev K (x :: E) B true ss [] F te P) (k : ∀ d σ' H', P d → At K (x :: E) B Z ss [] σ' H' → ObAt K E C dx x (putFD f d es) H' → Dn.nx σ' H') : sFld K (tVar i) te f Dn σ H := by
  refine h Z [] σ H (fun _ z => z) A _ fun y d H1 g r _ p => ?_
  have A1 := A.go g
  obtain ⟨fs, e1, e2, e3⟩ := ob
  have e1' : H1 x = some (.ins C dx fs) := g.one nB e1 trivial
  obtain ⟨v, s1, s2⟩ := A1.slot i _ hi
  cases s2
  refine ⟨.ref x, s1, x, C, dx, fs, rfl, e1', c, n, by omega, ?_⟩
  have r1 : RpFs K (era H1 (x :: E)) fs es := e2.mono (g.sub A.bE fun _ z => z)
  have same : era (upd H1 x (.ins C dx (putF f y fs))) (x :: E) = era H1 (x :: E) := era_upd List.mem_cons_self
  refine k d σ _ p (A1.writeO (fun xs z => by rw [e1'] at z; cases z) hz fun t => tabs_upd t e1' trivial fun q z => by unfold LamX.CodeO at z; cases z) ⟨_, upd_same, ?_, putF_len f y d fs es r1⟩
  rw [same]
  exact r1.put r
end
end Da
namespace Da
open PySem L2 PyProof.Rows
variable [Tbs]
/-! ### what stands under a key behind many puts -/
theorem getD_none {kvs : List (Key × D)} {k : Key} (h : (kvs.any fun kv => decide (kv.1 = k)) = false) : getD? kvs k = none := by
  unfold getD?
  have : (kvs.find? fun kv => decide (kv.1 = k)) = none := List.find?_eq_none.mpr fun x hx z => by
    have := List.any_eq_false.mp h x hx
    exact this z
  rw [this] <;> rfl
theorem getD_app {xs ys : List (Key × D)} {k : Key} (h : (xs.any fun kv => decide (kv.1 = k)) = false) : getD? (xs ++ ys) k = getD? ys k := by
  unfold getD?
  rw [List.find?_append]
  have : (xs.find? fun kv => decide (kv.1 = k)) = none := List.find?_eq_none.mpr fun x hx z => List.any_eq_false.mp h x hx z
  rw [this] <;> rfl
theorem getD_app1 {xs ys : List (Key × D)} {k : Key} {d : D} (h : getD? xs k = some d) : getD? (xs ++ ys) k = some d := by
  unfold getD? at h ⊢
  rw [List.find?_append]
  match q : xs.find? fun kv => decide (kv.1 = k) with
  | none => rw [q] at h; cases h
  | some p =>
    rw [q] at h ⊢
    exact h
theorem getD_swap (k k' : Key) (v : D) : ∀ xs : List (Key × D), getD? (xs.map fun kv => if kv.1 = k then (kv.1, v) else kv) k' = if k' = k then (if (xs.any fun kv => decide (kv.1 = k)) = true then some v else none) else getD? xs k'
  | [] => by
    show (none : Option D) = _
    split <;> rfl
  | (a, b) :: r => by
    have ih := getD_swap k k' v r
    unfold getD? at ih ⊢
    rw [List.map_cons, List.any_cons]
    by_cases e : a = k
    · subst e
      simp only [if_true, decide_true, Bool.true_or]
      rw [List.find?_cons]
      by_cases e2 : a = k'
      · subst e2
        simp
      · have e3 : ¬ k' = a := fun z => e2 z.symm
        simp only [e2, decide_false, if_neg e3]
        rw [ih, if_neg e3, List.find?_cons]
        simp [e2]
    · simp only [if_neg e, decide_eq_false e, Bool.false_or]
      rw [List.find?_cons, List.find?_cons]
      by_cases e2 : a = k'
      · subst e2
        simp [e]
      · simp only [decide_eq_false e2]
        exact ih
theorem getD_put (xs : List (Key × D)) (k k' : Key) (v : D) : getD? (putD xs k v) k' = if k' = k then some v else getD? xs k' := by
  unfold putD
  by_cases h : (xs.any fun kv => decide (kv.1 = k)) = true
  · rw [if_pos h, getD_swap, if_pos h]
  · rw [if_neg h]
    have h := Bool.eq_false_iff.mpr h
    by_cases e : k' = k
    · subst e
      rw [getD_app h, if_pos rfl]
      simp [getD?]
    · rw [if_neg e]
      match q : getD? xs k' with
      | some d => rw [getD_app1 q]
      | none =>
        have : (xs.any fun kv => decide (kv.1 = k')) = false := by
          refine Bool.eq_false_iff.mpr fun z => ?_
          obtain ⟨p, hp, hk⟩ := List.any_eq_true.mp z
          unfold getD? at q
          have q := Option.map_eq_none_iff.mp q
          exact (List.find?_eq_none.mp q p hp) hk
        rw [getD_app this]
        unfold getD?
        rw [List.find?_cons]
        have e' : ¬ k = k' := fun z => e z.symm
        simp [e']
/-- v stands under k behind f / stays there -/
def Sets (k : Key) (v : D) (f : List (Key × D) → List (Key × D)) : Prop := ∀ a, getD? (f a) k = some v
def Keeps (k : Key) (v : D) (f : List (Key × D) → List (Key × D)) : Prop := ∀ a, getD? a k = some v → getD? (f a) k = some v
theorem keeps_put {k k' : Key} {v v' : D} (h : k' = k → v' = v) : Keeps k v fun a => putD a k' v' := fun a e => by
  rw [getD_put]
  by_cases q : k = k'
  · rw [if_pos q, h q.symm]
  · rw [if_neg q]
    exact e
theorem sets_put {k : Key} {v : D} : Sets k v fun a => putD a k v := fun a => by rw [getD_put, if_pos rfl]
theorem keeps_fold {k : Key} {v : D} {f : D → List (Key × D) → List (Key × D)} : ∀ {xs : List D}, (∀ x ∈ xs, Keeps k v (f x)) → Keeps k v fun a => xs.foldl (fun a x => f x a) a
  | [], _ => fun _ e => e
  | x :: xs, h => fun a e => keeps_fold (fun y hy => h y (List.mem_cons_of_mem _ hy)) _ (h x List.mem_cons_self a e)
theorem sets_fold {k : Key} {v : D} {f : D → List (Key × D) → List (Key × D)} {x : D} (hs : Sets k v (f x)) : ∀ {xs : List D}, x ∈ xs → (∀ y ∈ xs, Keeps k v (f y)) → Sets k v fun a => xs.foldl (fun a x => f x a) a
  | y :: xs, hx, h => fun a => by
    show getD? (xs.foldl (fun a x => f x a) (f y a)) k = some v
    rcases List.mem_cons.mp hx with rfl | hx
    · exact keeps_fold (fun z hz => h z (List.mem_cons_of_mem _ hz)) _ (hs a)
    · exact sets_fold hs hx (fun z hz => h z (List.mem_cons_of_mem _ hz)) _
end Da
namespace Da
open PySem L2 PyProof.Rows
variable [Tbs]
theorem next_i {Dn : Ends} {σ : L2.St} {H : Hp} (h : Dn.nx σ H) : tNext Dn σ H := h
theorem seq_i {t u : TS} {Dn : Ends} {σ : L2.St} {H : Hp} (h : t { Dn with nx := u Dn } σ H) : tSeq t u Dn σ H := h
section
variable {K : PySem.W.Frag} {E : List Addr} {Z : List (List Addr × Hp)} {ss : List Sl} {σ : L2.St} {H H' : Hp} {x C dx : Addr} {es : List (Str × D)}
/-- a heap to look back to, where no bag is -/
theorem At.snap (A : At K E [] Z ss [] σ H) (W : List Addr) : At K E [] ((W, H) :: Z) ss [] σ H :=
  ⟨A.len, fun z hz a o n e => (List.mem_cons.mp hz).elim (fun q => by subst q; exact stays e) fun q => A.stp z q a o n e, A.bag, fun z hz b hb => (nomatch hb), A.bE, fun z hz b hb => (nomatch hb), A.slot, A.ownS, A.own, A.nd, fun z hz p hp => (nomatch hp), A.oE, A.ent, A.tab⟩
theorem ObAt.keep {Z' : List (List Addr × Hp)} {ss' : List Sl} {σ' : L2.St} (ob : ObAt K E C dx x es H) (A : At K (x :: E) [] (([], H) :: Z') ss' [] σ' H') : ObAt K E C dx x es H' := by
  obtain ⟨fs, h1, h2, h3⟩ := ob
  have all : Sub H H' := fun a o e t => (A.stp _ List.mem_cons_self a o (fun z => nomatch z) e).1 t
  exact ⟨fs, all _ _ h1 trivial, h2.mono fun a o e t => by
    obtain ⟨na, e⟩ := era_some e
    rw [era_in na]
    exact all a o e t, h3⟩
end
end Da
namespace Da
open PySem PySem.Spec L2 PyProof.Rows
variable [Tbs]
/-! ### enumerate(text) -/
/-- the signs of a text, each in a new pair with its place -/
def IteS (x : Str) : It := ⟨fun i _ => i < x.cps.size, fun i H v H' => ∃ T c, v = .ref T ∧ H T = none ∧ H' = upd H T (.tup [.int (i : Nat), .str ⟨#[c]⟩]) ∧ x.cps[i]? = some c, fun i _ => x.cps.size ≤ i⟩
theorem draws_str {prog : Program} {w : World} {A : Around} (calm : A.handled = none) (it : Addr) (x : Str) (t : Tok) {ty : String} (hty : ty = "str_ascii_iterator" ∨ ty = "str_iterator") : Draws prog w A it [it] x.cps.size (SignAt x) (fun i h => h.IsStrIter it ty x t i) := by
  rcases hty with rfl | rfl
  · exact Draws.strAscii calm it x t
  · exact Draws.strWide calm it x t
theorem turn_enumS {P : Program} {w : World} {K : PySem.W.Frag} {elts : List Expr} {kk : Nat} {tpos : Pos} (e it : Addr) (x : Str) (t : Tok) {ty : String} (hty : ty = "str_ascii_iterator" ∨ ty = "str_iterator") :
    Turn P w K (.Tuple elts kk tpos) (IteS x) [e, it] e (fun i h => (∃ old, IsEnum h e it ((i : Nat) : Int) old) ∧ h.IsStrIter it ty x t i ∧ e ≠ it ∧ i ≤ x.cps.size) where
  mem := List.mem_cons_self
  obj := fun i h st b hb => by
    obtain ⟨⟨old, he⟩, ⟨o, got, _, dat⟩, _⟩ := st
    rcases List.mem_cons.mp hb with rfl | hb
    · exact ⟨_, he, fun v z => nomatch z⟩
    · have : b = it := by simpa using hb
      subst this
      exact ⟨o, got, fun v z => by rw [dat] at z; cases z⟩
  keep := fun i h h' st stay => by
    obtain ⟨⟨old, he⟩, ⟨o, got, r⟩, ne⟩ := st
    exact ⟨⟨old, stay e (by simp) _ he⟩, ⟨o, stay it (by simp) _ got, r⟩, ne⟩
  item := by
    intro X hP hw hK calm i pins s σ H E I far st go
    subst hP hw hK
    obtain ⟨⟨old, he⟩, str, ne, _⟩ := st
    have D := draws_str (prog := X.prog) (w := X.w) (A := X.A.in1) (I.ok.hd calm) it x t hty
    have below_e : e < s.heap.objs.size := Heap.lt_size he
    have below_i : it < s.heap.objs.size := by obtain ⟨_, got, _⟩ := str; exact Heap.lt_size got
    refine wpAny_pyNext_enum_itemD D he str go ne (by simpa using ne) fun v h1 tk sign out str1 pair size stay => ?_
    obtain ⟨c, u, at_c, rfl⟩ := sign
    refine ⟨_, rfl, wpAny_letOwnedTupleGo_enum (s := { s with heap := h1, toks := tk + 1 }) out fun h2 he2 same => ?_⟩
    have pair2 : h2.get? s.heap.objs.size = some { cls := .type "tuple", data := .seq #[.int i tk, .str ⟨#[c]⟩ u] } := (same.2 _ (Nat.ne_of_gt below_e)).trans pair
    have new : ObjOk X.prog X.w (upd H s.heap.objs.size (.tup [.int (i : Nat), .str ⟨#[c]⟩])) h2 s.heap.objs.size (.tup [.int (i : Nat), .str ⟨#[c]⟩]) :=
      ⟨by show 2 ≤ sizeLine; decide, [.int i tk, .str ⟨#[c]⟩ u], .cons ⟨_, rfl⟩ (.cons ⟨_, rfl⟩ .nil), ⟨_, pair2, rfl, _, rfl⟩⟩
    have I1 : Inv X pins σ (upd H s.heap.objs.size (.tup [.int (i : Nat), .str ⟨#[c]⟩])) { s with heap := h2, toks := tk + 1 } :=
      I.turnedNew (ch := [e, it]) (fun b o hb got => (same.2 b fun z => hb (by simp [z])).trans (stay b o (fun z => hb (by simp [z])) (fun z => hb (by simp [z])) got)) far (Nat.le_refl _) new
    refine ⟨.ref s.heap.objs.size, _, I1, rfl, ⟨_, c, rfl, I.hok.fresh (Nat.le_refl _), rfl, at_c⟩, ⟨⟨.str ⟨#[c]⟩ u, ?_⟩, ?_, ne, go⟩, fun b hb => ?_⟩
    · have q : ((i + 1 : Nat) : Int) = (i : Int) + 1 := by omega
      rw [q]
      exact he2
    · obtain ⟨o, got, r⟩ := str1
      exact ⟨o, (same.2 it (Ne.symm ne)).trans got, r⟩
    · have lt : b < s.heap.objs.size := by
        rcases List.mem_cons.mp hb with rfl | hb
        · exact below_e
        · have : b = it := by simpa using hb
          rw [this]
          exact below_i
      rw [upd_ne (Nat.ne_of_lt lt)]
      exact (far b hb).1
  done := by
    intro X hP hw hK calm i pins s σ H E I far st stop
    subst hP hw hK
    obtain ⟨⟨old, he⟩, str, ne, le⟩ := st
    have D := draws_str (prog := X.prog) (w := X.w) (A := X.A.in1) (I.ok.hd calm) it x t hty
    obtain ⟨f0, f1, f2, f3, f4, f5⟩ := far it (by simp)
    have stop : x.cps.size ≤ i := stop
    have all : i = x.cps.size := Nat.le_antisymm le stop
    refine wpAny_pyNext_enum_endD D he (by rw [← all]; exact str) fun h1 same => ⟨rfl, I.turned (t' := s.toks) (fun b o hb got => same b o hb got) f0 f1 f3 f4 f5⟩
  self := fun A i s Q E st h => by
    obtain ⟨⟨old, he⟩, _⟩ := st
    exact wpAny_pyIter_enum he h
def iEnumS (ta : TA) : TI := fun σ H R => ta σ H fun vs H1 => ∃ z : Str, vs = [.str z] ∧ R (IteS z) H1
theorem pi_enumS {X : Cx} {e : Expr} {ta : TA} {p pos tpos : Pos} {elts : List Expr} {kk : Nat} (hg : Gl X "enumerate") (hm : X.mg "enumerate" = none) (ha : PA X [e] ta) (hs : starEach [e] X.env = [(false, eval e X.env)] := by rfl) :
    PI X (.Tuple elts kk tpos) (.Call (.Name "enumerate" p) [e] [] pos) (iEnumS ta) := .mk fun pins s σ H R I h => by
  refine Call_ (ld_blt I hg hm boot_enumerate (PyProof.Rows.callWith_type1 (thn (ha.run pos pins s σ H _ I h) ?_) hs rfl))
  rintro us s1 ⟨vs, H1, I1, rel, z, rfl, q⟩
  match us, rel with
  | [u], .cons r .nil =>
    obtain ⟨t, rfl⟩ := r
    refine call_enumerate_str fun h1 he str size stay => wpAny_pyIter_enum he ?_
    have I2 : Inv X pins σ H1 { s1 with heap := h1 } := I1.kept (t' := s1.toks) stay
    have ty : strIterType z = "str_ascii_iterator" ∨ strIterType z = "str_iterator" := by
      unfold strIterType
      split
      · exact .inl rfl
      · exact .inr rfl
    refine ⟨s1.heap.objs.size + 1, [s1.heap.objs.size + 1, s1.heap.objs.size], _, IteS z, H1, rfl, I2, turn_enumS (s1.heap.objs.size + 1) s1.heap.objs.size z t ty, ⟨⟨.none, he⟩, str, Nat.succ_ne_self _, Nat.zero_le _⟩, fun b hb => ?_, q⟩
    have le : s1.heap.objs.size ≤ b := by
      rcases List.mem_cons.mp hb with z | hb
      · rw [z]
        exact Nat.le_add_right _ _
      · rw [show b = s1.heap.objs.size by simpa using hb]
        exact Nat.le_refl _
    exact I1.fpOk le (I1.hok.fresh le)
end Da
namespace Da
open PySem L2 PyProof.Rows
variable [Tbs]
section
variable {K : PySem.W.Frag} {E B : List Addr} {Z : List (List Addr × Hp)} {ss : List Sl} {os : Os} {σ : L2.St} {H : Hp} {Dn : Ends}
/-- for i, c in enumerate(text) -/
theorem s_forE {ta : TA} {i1 j1 : Nat} {tb : TS} {s : List Nat} (A : At K E B Z ss os σ H) (h : EaD K E B true ss os ta [.str s]) (J : Nat → List Sl → Os → Prop) (h0 : J 0 ss os)
    (hs : ∀ (i : Nat) (c : Nat) ss' os' σ' H', s[i]? = some c → J i ss' os' → At K E B Z ((ss'.set i1 (.dat (.int i))).set j1 (.dat (.str [c]))) os' σ' H' →
      tb { Dn with nx := fun σ H => ∃ ss os, J (i + 1) ss os ∧ At K E B Z ss os σ H, ct := fun σ H => ∃ ss os, J (i + 1) ss os ∧ At K E B Z ss os σ H, bk := Dn.nx } σ' H')
    (hd : ∀ ss' os' σ' H', J s.length ss' os' → At K E B Z ss' os' σ' H' → Dn.nx σ' H') : tFor (iEnumS ta) (gTup K 2 (gCons (gName i1) (gCons (gName j1) gNil))) tb Dn σ H :=
  h Z os σ H (fun _ z => z) A _ fun vs ds H1 g r e => by
    subst e
    cases r with
    | cons r1 r =>
      cases r
      cases r1
      refine ⟨mk s, rfl, ?_⟩
      have size : (mk s).cps.size = s.length := List.size_toArray
      refine ⟨fun i mm σ H => mm = s.length - i ∧ i ≤ s.length ∧ ∃ ss' os', J i ss' os' ∧ At K E B Z ss' os' σ H, ⟨s.length, by simp, Nat.zero_le _, ss, os, h0, A.go g⟩, ?_⟩
      rintro i mm σ' H' ⟨rfl, hi, ss', os', hj, A'⟩
      by_cases hlt : i < s.length
      · refine .inr ⟨by show i < (mk s).cps.size; rw [size]; exact hlt, fun σ H => ∃ ss os, J (i + 1) ss os ∧ At K E B Z ss os σ H, fun σ2 H2 ⟨s2, o2, j2, A2⟩ => ⟨s.length - (i + 1), by omega, rfl, hlt, s2, o2, j2, A2⟩, fun x H2 y => ?_⟩
        obtain ⟨T, c, rfl, nT, rfl, hc⟩ := y
        have hc : s[i]? = some c := by
          have q : (mk s).cps[i]? = s[i]? := by unfold mk; exact List.getElem?_toArray
          rw [← q]
          exact hc
        refine ⟨T, _, rfl, .inl (.inl upd_same), rfl, _, _, rfl, _, _, rfl, rfl, ?_⟩
        exact hs i c ss' os' _ _ hc hj (((A'.go (.new nT)).set (.int _)).set (.str [c]))
      · have e : i = s.length := by omega
        subst e
        exact .inl ⟨by show (mk s).cps.size ≤ s.length; rw [size]; exact Nat.le_refl _, hd ss' os' σ' H' hj A'⟩
end
end Da
/-! int(t, 2), str of a bit -/
namespace Da
open PySem PySem.Spec PyProof.Rows L2 PySem.NumText PySem.Calls
variable [Tbs]
def IsBit (c : Nat) : Prop := c = 48 ∨ c = 49
theorem IsBit.hex {c : Nat} (h : IsBit c) : L2.Hx.IsHex c := by
  unfold IsBit at h
  unfold L2.Hx.IsHex
  omega
/-- what bits tell -/
def bitNum (l : List Nat) : Nat := l.foldl (fun a c => a * 2 + (c - 48)) 0
theorem step_bit {ds : Array Nat} {b : Bool} {c : Nat} (h : IsBit c) : PySem.NumText.step 2 (ds, b) c = some (ds.push (c - 48), true) := by
  rcases h with rfl | rfl <;> rfl
theorem foldl_bit : ∀ (cs : List Nat) (ds : Array Nat), (∀ c ∈ cs, IsBit c) → cs.foldlM (PySem.NumText.step 2) (ds, true) = some (cs.foldl (fun acc c => acc.push (c - 48)) ds, true)
  | [], _, _ => rfl
  | c :: cs, ds, h => by
    rw [List.foldlM_cons, step_bit (h c (List.mem_cons_self ..))]
    show cs.foldlM (PySem.NumText.step 2) (ds.push (c - 48), true) = _
    exact foldl_bit cs (ds.push (c - 48)) fun d hd => h d (List.mem_cons_of_mem _ hd)
theorem digits_bit {cs : List Nat} (h : ∀ c ∈ cs, IsBit c) (hne : cs ≠ []) : digits? 2 cs = some (cs.foldl (fun acc c => acc.push (c - 48)) #[]) := by
  cases cs with
  | nil => exact absurd rfl hne
  | cons c cs =>
    unfold digits?
    rw [List.foldlM_cons, step_bit (h c (List.mem_cons_self ..))]
    show (cs.foldlM (PySem.NumText.step 2) ((#[] : Array Nat).push (c - 48), true)).bind _ = _
    rw [foldl_bit cs _ fun d hd => h d (List.mem_cons_of_mem _ hd)]
    rfl
theorem push_bit : ∀ (cs : List Nat) (ds : Array Nat), (cs.foldl (fun acc c => acc.push (c - 48)) ds).foldl (fun acc d => acc * 2 + d) 0 = cs.foldl (fun a c => a * 2 + (c - 48)) (ds.foldl (fun acc d => acc * 2 + d) 0)
  | [], _ => rfl
  | c :: cs, ds => by
    rw [List.foldl_cons, push_bit cs (ds.push (c - 48)), List.foldl_cons]
    congr 1
    simp
theorem based_bit {cs : List Nat} (h : ∀ c ∈ cs, IsBit c) : based 2 cs = (2, false, cs) := by
  match cs, h with
  | [], _ => rfl
  | [a], h => rcases h a (List.mem_cons_self ..) with rfl | rfl <;> rfl
  | a :: c :: r, h =>
    have hc := h c (List.mem_cons_of_mem _ (List.mem_cons_self ..))
    rcases h a (List.mem_cons_self ..) with rfl | rfl <;> rcases hc with rfl | rfl <;> rfl
theorem read_bit {cs : List Nat} (h : ∀ c ∈ cs, IsBit c) (hne : cs ≠ []) : (int_private% "readNumeral") 0 2 cs = (int_private% "Numeral.value") ((bitNum cs : Nat) : Int) := by
  have hr : ∀ c ∈ cs.reverse, IsBit c := fun c hc => h c (List.mem_reverse.mp hc)
  have hx : ∀ c ∈ cs, L2.Hx.IsHex c := fun c hc => (h c hc).hex
  refine (readNumeral_eq 0 2 cs).trans ?_
  rw [L2.Hx.dropB hx, L2.Hx.signH hx]
  show judge 0 false (based 2 cs).1 (based 2 cs).2.1 (digits? (based 2 cs).1 (((based 2 cs).2.2.reverse.dropWhile blank).reverse)) = _
  rw [based_bit h]
  show judge 0 false 2 false (digits? 2 ((cs.reverse.dropWhile blank).reverse)) = _
  rw [L2.Hx.dropB (fun c hc => (hr c hc).hex), List.reverse_reverse, digits_bit h hne]
  show (int_private% "Numeral.value") (((cs.foldl (fun acc c => acc.push (c - 48)) (#[] : Array Nat)).foldl (fun acc d => acc * 2 + d) 0 : Nat) : Int) = _
  have z : (#[] : Array Nat).foldl (fun acc d => acc * 2 + d) 0 = 0 := by first | rfl | simp
  rw [push_bit, z] <;> rfl
set_option maxHeartbeats 4000000 in
theorem gives_bit {x : PySem.Str} {u t : Tok} (hl : x.length ≤ 640) (h : ∀ c ∈ x.cps.toList, IsBit c) (hne : x.cps.toList ≠ []) :
    Gives (Builtin.«int.__new__» ⟨[.type "int", .str x u, .int 2 t], []⟩) (.int ((bitNum x.cps.toList : Nat) : Int)) :=
  .of_wp fun M A E s Q hQ => by
    obtain ⟨hp, g, d, tk, os⟩ := s
    have f1 := F.conv_sub_int
    have f2 := F.madeHere_int
    have f6 : typeOf (.str x u) = pure (.type "str") := rfl
    obtain ⟨e1, e2⟩ := L2.Hx.seen_hex (x := x) (fun c hc => (h c hc).hex)
    have hs : (numSeenOf x).length ≤ 640 := by
      rw [e2, Array.length_toList]
      exact hl
    have hr : (int_private% "readNumeral") 0 2 (numSeenOf x) = (int_private% "Numeral.value") ((bitNum x.cps.toList : Nat) : Int) := by
      rw [e2]
      exact read_bit h hne
    have ha : ((numSeenOf x).length == (numTextOf x).length) = true := by
      rw [e1, e2]
      exact beq_self_eq_true _
    have hk := L2.Hx.Hid.mk (And.intro hs (And.intro hr ha))
    clear hs hr ha e1 e2 hl hne h
    repeat (any_goals (first
      | assumption
      | ((with_reducible show wpAny _ _ ((int_private% "intFromText") _ _ _) _ _ _); refine L2.Hx.wp_textB hk.out.1 hk.out.2.1 hk.out.2.2 ?_)
      | wp_step))
    all_goals first | exact ⟨_, rfl, hQ⟩ | skip
theorem call_bit {prog : Program} {w : World} {A : Around} {E : Value → Shared → Prop} {s : Shared} {Q : Value → Shared → Prop} {x : PySem.Str} {u t : Tok} (hl : x.length ≤ 640) (h : ∀ c ∈ x.cps.toList, IsBit c) (hne : x.cps.toList ≠ [])
    (hQ : Q (.int ((bitNum x.cps.toList : Nat) : Int) s.toks) { s with toks := s.toks + 1 }) : wpAny (model prog w) A (call (.type "int") [.str x u, .int 2 t]) Q E s :=
  callType_new F.called_int F.newNe_int (L2.Hx.typeCall_int_2 _ _) (L2.Hx.newCall_int_2 _ _) (fun obj => F.initArgs_range_2 obj _ _) F.entry_int_new (gives_bit hl h hne).meets (show (Made.int ((bitNum x.cps.toList : Nat) : Int)).post _ s from ⟨rfl, hQ⟩)
/-- int(t, 2) -/
def rIntBit : List V → Hp → VK → Prop := fun xs H Q => ∃ l : List Nat, xs = [.str (mk l), .int 2] ∧ l ≠ [] ∧ l.length ≤ 640 ∧ (∀ c ∈ l, IsBit c) ∧ Q (.int ((bitNum l : Nat) : Int)) H
theorem call_int_bit {X : Cx} : CallR X (.type "int") rIntBit := by
  intro pins s σ H xs us Q I r h
  obtain ⟨l, rfl, hne, hl, hx, q⟩ := h
  obtain ⟨u, w', rfl, r1, r2⟩ := vals2 r
  obtain ⟨t1, rfl⟩ := r1
  obtain ⟨t2, rfl⟩ := r2
  exact call_bit (x := mk l) (by rw [mk_len]; exact hl) hx hne ⟨.int ((bitNum l : Nat) : Int), H, I.tok _, ⟨_, rfl⟩, q⟩
section
variable {K : PySem.W.Frag} {B : List Addr}
theorem c_intBit {l : List Nat} (h : ∀ c ∈ l, IsBit c) (hne : l ≠ []) (hz : l.length ≤ 640) : OpA K B rIntBit [.str l, .int 2] false (fun x => x = .int ((bitNum l : Nat) : Int)) := fun R H vs _ r Q q => by
  cases r with
  | cons h1 r =>
    cases r with
    | cons h2 r =>
      cases r
      cases h1
      cases h2
      exact ⟨l, rfl, hne, hz, h, q _ _ H .refl (.int _) (fun z => absurd z (by simp)) rfl⟩
/-- str of a bit -/
theorem c_strB {b : Bool} : OpA K B (fun xs H Q => ∃ i : Int, xs = [.int i] ∧ i.natAbs.log2 < 1920 ∧ Q (.str (Str.ofString (toString i))) H) [.int (if b then 1 else 0)] false (fun x => x = .str [if b then 49 else 48]) := fun R H vs _ r Q q => by
  cases r with
  | cons h t =>
    cases t
    cases h
    refine ⟨_, rfl, by cases b <;> decide, ?_⟩
    have e : Str.ofString (toString (if b then 1 else 0 : Int)) = mk [if b then 49 else 48] := by cases b <;> decide +kernel
    have := q (.str (mk [if b then 49 else 48])) _ H .refl (.str _) (fun z => absurd z (by simp)) rfl
    rw [← e] at this
    exact this
end
end Da
namespace Da
open PySem L2
variable [Tbs]
section
variable {K : PySem.W.Frag} {E B : List Addr} {Z : List (List Addr × Hp)} {ss : List Sl} {os : Os} {σ : L2.St} {H H' : Hp} {m F : Bool} {o0 : Os} {te ta tb : TE} {P P' PA PB : D → Prop} {Dn : Ends}
/-- an owned list is changed no more -/
theorem At.freeze {i : Nat} {p : Addr} {ds : List D} (A : At K E B Z ss ((p, .lst ds) :: os) σ H) (hi : ss[i]? = some (.own p)) : At K E B Z (ss.set i (.dat (.lst ds))) os σ H := by
  have nd := List.nodup_cons.mp A.nd
  have pE : p ∉ E := A.oE p List.mem_cons_self
  have hl : i < ss.length := by
    rcases Nat.lt_or_ge i ss.length with h | h
    · exact h
    · rw [List.getElem?_eq_none h] at hi
      cases hi
  have less : ∀ a, a ∈ ads os ++ E → a ∈ ads ((p, OD.lst ds) :: os) ++ E := fun a h => List.mem_cons_of_mem _ h
  refine ⟨by simpa using A.len, A.stp, A.bag, A.bgo, A.bE, A.bW, fun j d h => ?_, fun j q h => ?_, fun q od h => ?_, nd.2, fun z hz q h => A.frs z hz q (List.mem_cons_of_mem _ h), fun q h => A.oE q (List.mem_cons_of_mem _ h), A.ent, A.tab⟩
  · by_cases hj : i = j
    · subst hj
      rw [List.getElem?_set_self hl] at h
      cases h
      obtain ⟨vs, e, r⟩ := A.own p _ List.mem_cons_self
      refine ⟨.ref p, A.ownS i p hi, .lst (xs := vs) ?_ (r.mono (era_less H less))⟩
      rw [era_in (fun z => (List.mem_append.mp z).elim (fun z => nd.1 z) (fun z => pE z))]
      exact e
    · rw [List.getElem?_set_ne hj] at h
      obtain ⟨v, h1, h2⟩ := A.slot j d h
      exact ⟨v, h1, h2.mono (era_less H less)⟩
  · by_cases hj : i = j
    · subst hj
      rw [List.getElem?_set_self hl] at h
      cases h
    · rw [List.getElem?_set_ne hj] at h
      exact A.ownS j q h
  · exact (A.own q od (List.mem_cons_of_mem _ h)).mono (fun o e _ => e) (era_less H less)
/-- text.count(sign) -/
theorem ev_cnt {s : List Nat} {c : Nat} (h : EvD K E B m ss o0 te (.str s)) (ha : EvD K E B m ss o0 ta (.str [c])) :
    EvD K E B m ss o0 (tM1 (fun x xs H Q => ∃ a b, x = .str a ∧ xs = [.str b] ∧ Q (.int (Txt.count a b)) H) te ta) (.int (s.count c : Nat)) :=
  fun Z os σ H i A Q q => h Z os σ H i A _ fun v d H1 g1 r1 _ e => by
    subst e
    cases r1
    refine ⟨⟨_, rfl⟩, ha Z os σ H1 i (A.go g1) _ fun w d2 H2 g2 r2 _ e2 => ?_⟩
    subst e2
    cases r2
    refine ⟨_, _, rfl, rfl, ?_⟩
    rw [count_mk]
    exact q _ _ H2 (g1.trans g2) (.int _) (fun z => absurd z (by simp)) rfl
theorem ev_cntB {s : List Nat} {c : Nat} {x : Str} (h : EvD K E B m ss o0 te (.str s)) (e : x = mk [c] := by rfl) :
    EvD K E B m ss o0 (tBM K "str" (fun x xs H Q => ∃ a b, x = .str a ∧ xs = [.str b] ∧ Q (.int (Txt.count a b)) H) te (tCons (tC (.str x)) tNil)) (.int (s.count c : Nat)) := fun Z os σ H i A Q q => h Z os σ H i A _ fun v d H1 g r _ e1 => by
  subst e1
  cases r
  refine ⟨rfl, mk s, x, rfl, rfl, ?_⟩
  rw [e, count_mk]
  exact q _ _ H1 g (.int _) (fun z => absurd z (by simp)) rfl
/-- and, or of truths that are not known -/
theorem ev_andR (h1 : Ev K E B m ss o0 false ta (fun d => ∃ b, d = .bl b)) (h2 : Ev K E B m ss o0 false tb (fun d => ∃ b, d = .bl b)) : Ev K E B m ss o0 false (tAndV ta tb) (fun d => ∃ b, d = .bl b) :=
  fun Z os σ H i A Q q => h1 Z os σ H i A _ fun v d H1 g1 r _ ⟨a, e⟩ => by
    subst e
    cases r
    refine ⟨a, rfl, ?_⟩
    cases a with
    | true =>
      show tb σ H1 Q
      exact h2 Z os σ H1 i (A.go g1) _ fun w d H2 g2 r2 f e2 => q w d H2 (g1.trans g2) r2 (fun z => absurd z (by simp)) e2
    | false =>
      show Q (.bl false) H1
      exact q _ _ H1 g1 (.bl false) (fun z => absurd z (by simp)) ⟨false, rfl⟩
/-- a tuple, not quite known -/
theorem ei_tupR {PI : List D → Prop} (h : Ev K E B true ss o0 F te P) (hp : ∀ d, P d → ∃ ds, d = .tup ds ∧ PI ds) : EvI K E B ss o0 (iTup K te) PI := fun Z os σ H i A R q => h Z os σ H i A _ fun v d H1 g r _ e => by
  obtain ⟨ds, rfl, p⟩ := hp d e
  cases r with
  | tup h1 h2 => exact ⟨_, rfl, ⟨_, (era_sub _ _).t h1⟩, q _ _ H1 g (itd_tup h1 h2) p⟩
theorem ei_listR {PI : List D → Prop} (h : Ev K E B true ss o0 F te P) (hp : ∀ d, P d → ∃ ds, d = .lst ds ∧ PI ds) : EvI K E B ss o0 (iList K te) PI := fun Z os σ H i A R q => h Z os σ H i A _ fun v d H1 g r _ e => by
  obtain ⟨ds, rfl, p⟩ := hp d e
  cases r with
  | lst h1 h2 => exact ⟨_, rfl, ⟨_, .inl (.inl (era_sub _ _ _ _ h1))⟩, q _ _ H1 g (itd_list (.inl (.inl h1)) h2) p⟩
theorem EvA.imp {m : Bool} {t : TA} {P P' : List D → Prop} (h : EvA K E B m ss o0 t P) (k : ∀ ds, P ds → P' ds) : EvA K E B m ss o0 t P' := fun Z os σ H i A Q q => h Z os σ H i A Q fun vs ds H' g r p => q vs ds H' g r (k ds p)
end
end Da
namespace Da
open PySem L2
variable [Tbs]
theorem At.wk' {K : PySem.W.Frag} {E B : List Addr} {Z : List (List Addr × Hp)} {ss ss' : List Sl} {os : Os} {σ : L2.St} {H : Hp} {p : Addr} {ds ds' : List D} (A : At K E B Z ss ((p, .lst ds) :: os) σ H) (e : ds = ds') (h : Wk ss' ss) : At K E B Z ss' ((p, .lst ds') :: os) σ H := e ▸ A.wk h
end Da
/-! loops and comprehensions over pairs: enumerate, lists of pairs -/
namespace Da
open PySem L2
variable [Tbs]
section
variable {K : PySem.W.Frag} {E B R : List Addr} {Z : List (List Addr × Hp)} {ss : List Sl} {os : Os} {σ : L2.St} {H H' : Hp} {m F : Bool} {o0 : Os} {te ta tb : TE} {P P' PA PB : D → Prop} {Dn : Ends}
/-- J yields ds; an item may be laid anew -/
def ItE (K : PySem.W.Frag) (R : List Addr) (H1 : Hp) (J : It) (ds : List D) : Prop := ∀ H, (∀ a o, a ∉ R → H1 a = some o → NT o → H a = some o) → (∀ a, a ∈ R → H a ≠ none) →
  (∀ i, i < ds.length → J.go i H) ∧ (∀ i, ds.length ≤ i → J.stop i H) ∧ (∀ i x H', i < ds.length → J.yld i H x H' → All H H' ∧ ∃ d, ds[i]? = some d ∧ ∀ R', (∀ a, a ∈ R → a ∈ R') → (∀ a, a ∈ R' → a ∈ R ∨ H1 a = none) → (∀ a, a ∈ R' → H a ≠ none) → Rp K (era H' R') x d)
/-- what hung on the old hangs on the new, where more is kept away from that is new -/
theorem era_grow {H1 H' : Hp} {R R' : List Addr} (st : ∀ a o, a ∉ R → H1 a = some o → NT o → H' a = some o) (h : ∀ a, a ∈ R' → a ∈ R ∨ H1 a = none) : Sub (era H1 R) (era H' R') := fun a o e t => by
  obtain ⟨n, e⟩ := era_some e
  rw [era_in (fun z => (h a z).elim n fun z => by rw [z] at e; cases e)]
  exact st a o n e t
theorem ItD.e {H1 : Hp} {J : It} {ds : List D} (h : ItD K R H1 J ds) : ItE K R H1 J ds := fun H st pr => by
  obtain ⟨f1, f2, f3⟩ := h H st
  refine ⟨f1, f2, fun i x H' hi y => ?_⟩
  obtain ⟨rfl, d, hd, r⟩ := f3 i x H' hi y
  exact ⟨fun _ _ e => e, d, hd, fun R' _ h2 _ => r.mono (era_grow st h2)⟩
def EvIE (K : PySem.W.Frag) (E B : List Addr) (ss : List Sl) (o0 : Os) (wi : TI) (P : List D → Prop) : Prop :=
  ∀ (Z : List (List Addr × Hp)) (os : Os) (σ : L2.St) (H : Hp), (∀ x, x ∈ o0 → x ∈ os) → At K E B Z ss os σ H → ∀ R : It → Hp → Prop, (∀ J ds H', Go B H H' → ItE K (ads os ++ E) H' J ds → P ds → R J H') → wi σ H R
theorem EvI.e {wi : TI} {P : List D → Prop} (h : EvI K E B ss o0 wi P) : EvIE K E B ss o0 wi P := fun Z os σ H i A R q => h Z os σ H i A R fun J ds H' g it p => q J ds H' g it.e p
def enumD (ds : List D) : List D := (List.range ds.length).map fun (i : Nat) => D.tup [.int i, ds.getD i .non]
theorem enumD_len (ds : List D) : (enumD ds).length = ds.length := by
  unfold enumD
  rw [List.length_map, List.length_range]
theorem enumD_get {ds : List D} {i : Nat} {d : D} (h : ds[i]? = some d) : (enumD ds)[i]? = some (.tup [.int i, d]) := by
  have hi : i < ds.length := by
    rcases Nat.lt_or_ge i ds.length with h' | h'
    · exact h'
    · rw [List.getElem?_eq_none h'] at h
      cases h
  unfold enumD
  rw [List.getElem?_map, List.getElem?_range hi]
  show some (D.tup [.int i, ds.getD i .non]) = _
  rw [List.getD_eq_getElem?_getD, h] <;> rfl
theorem ite_enum {a : Addr} {xs : List V} {ds : List D} (h : SqL K (era H R) a xs) (r : RpAll K (era H R) xs ds) : ItE K R H (Ite K a) (enumD ds) := fun H2 st pr => by
  have sub : Sub (era H R) H2 := fun b o e t => by
    obtain ⟨n, e⟩ := era_some e
    exact st b o n e t
  have hS : SqL K H2 a xs := sub.l h
  have len := r.length
  refine ⟨fun i hi => ?_, fun i hi => ⟨xs, hS, by rw [len]; rw [enumD_len] at hi; exact hi⟩, fun i x H3 hi y => ?_⟩
  · rw [enumD_len] at hi
    exact ⟨xs, xs[i], hS, List.getElem?_eq_getElem (by omega)⟩
  · obtain ⟨T, v, rfl, nT, rfl, hv⟩ := y
    obtain ⟨d, hd, rd⟩ := r.get' (hv xs hS)
    refine ⟨fun b o e => by rw [upd_ne (ne_of_none e nT)]; exact e, _, enumD_get hd, fun R' h1 h2 h3 => .tup (xs := [.int (i : Nat), v]) (.inl (.inl ?_)) (.cons (.int _) (.cons (rd.mono (era_grow (fun b o n e t => ?_) h2)) .nil))⟩
    · rw [era_in (fun z => h3 T z nT)]
      exact upd_same
    · have e2 := st b o n e t
      rw [upd_ne (ne_of_none e2 nT)]
      exact e2
theorem ei_enum {t : TA} {ds : List D} (h : EaD K E B true ss o0 t [.lst ds]) : EvIE K E B ss o0 (iEnum K t) (fun x => x = enumD ds) := fun Z os σ H i A R q => h Z os σ H i A _ fun vs es H1 g r e => by
  subst e
  cases r with
  | cons r1 r =>
    cases r
    cases r1 with
    | lst h1 h2 => exact ⟨_, _, rfl, .inl (.inl (era_sub _ _ _ _ h1)), q _ _ H1 g (ite_enum (.inl (.inl h1)) h2) rfl⟩
/-- two names at once -/
theorem two_names {i j : Nat} {v : V} {a b : D} {Q : L2.St → Hp → Prop} (A : At K E B Z ss os σ H) (r : Rp K (era H (ads os ++ E)) v (.tup [a, b])) (k : ∀ x y, At K E B Z ((ss.set i (.dat a)).set j (.dat b)) os ((σ.set i (some x)).set j (some y)) H → Q ((σ.set i (some x)).set j (some y)) H) : gTup K 2 (gCons (gName i) (gCons (gName j) gNil)) v σ H Q := by
  cases r with
  | tup h1 h2 =>
    cases h2 with
    | cons r1 h2 =>
      cases h2 with
      | cons r2 h2 =>
        cases h2
        exact ⟨_, _, rfl, (era_sub _ _).t h1, rfl, _, _, rfl, _, _, rfl, rfl, k _ _ ((A.set r1).set r2)⟩
theorem At.there (A : At K E B Z ss os σ H) : ∀ a, a ∈ ads os ++ E → H a ≠ none := fun a h => (List.mem_append.mp h).elim (fun z => A.tracked z) (fun z => A.ent a z)
/-- for a, b in pairs -/
theorem s_for2 {wi : TI} {i1 j1 : Nat} {tb : TS} {PI : List D → Prop} (A : At K E B Z ss os σ H) (h : EvIE K E B ss os wi PI) (pr : ∀ ds, PI ds → ∀ d ∈ ds, ∃ a b, d = .tup [a, b]) (J : List D → Nat → List Sl → Os → Prop) (h0 : ∀ ds, PI ds → J ds 0 ss os)
    (ho : ∀ ds i ss' os', J ds i ss' os' → ads os' = ads os)
    (hs : ∀ ds z (i : Nat) a b ss' os' σ' H', PI ds → ds[i]? = some (.tup [a, b]) → J ds i ss' os' → At K E B (z :: Z) ((ss'.set i1 (.dat a)).set j1 (.dat b)) os' σ' H' →
      tb { Dn with nx := fun σ H => ∃ ss os, J ds (i + 1) ss os ∧ At K E B (z :: Z) ss os σ H, ct := fun σ H => ∃ ss os, J ds (i + 1) ss os ∧ At K E B (z :: Z) ss os σ H, bk := Dn.nx } σ' H')
    (hd : ∀ ds ss' os' σ' H', PI ds → J ds ds.length ss' os' → At K E B Z ss' os' σ' H' → Dn.nx σ' H') : tFor wi (gTup K 2 (gCons (gName i1) (gCons (gName j1) gNil))) tb Dn σ H :=
  h Z os σ H (fun _ z => z) A _ fun I ds H1 g it p => by
    have A1 := (A.go g).mark
    have sub : ∀ {ss' : List Sl} {os' : Os} {σ' : L2.St} {H' : Hp}, At K E B ((ads os ++ E, H1) :: Z) ss' os' σ' H' → ∀ a o, a ∉ ads os ++ E → H1 a = some o → NT o → H' a = some o := fun A' a o n e t => (A'.stp _ List.mem_cons_self a o n e).1 t
    refine ⟨fun i mm σ H => mm = ds.length - i ∧ i ≤ ds.length ∧ ∃ ss' os', J ds i ss' os' ∧ At K E B ((ads os ++ E, H1) :: Z) ss' os' σ H, ⟨ds.length, by simp, Nat.zero_le _, ss, os, h0 ds p, A1⟩, ?_⟩
    rintro i mm σ' H' ⟨rfl, hi, ss', os', hj, A'⟩
    have same := ho ds i ss' os' hj
    obtain ⟨f1, f2, f3⟩ := it H' (sub A') (fun a h => A'.there a (by rw [same]; exact h))
    by_cases hlt : i < ds.length
    · refine .inr ⟨f1 i hlt, fun σ H => ∃ ss os', J ds (i + 1) ss os' ∧ At K E B ((ads os ++ E, H1) :: Z) ss os' σ H, fun σ2 H2 ⟨s2, o2, j2, A2⟩ => ⟨ds.length - (i + 1), by omega, rfl, hlt, s2, o2, j2, A2⟩, fun x H2 y => ?_⟩
      obtain ⟨sb, d, hd1, r⟩ := f3 i x H2 hlt y
      obtain ⟨a, b, rfl⟩ := pr ds p d (List.mem_of_getElem? hd1)
      refine two_names (A'.go (.of sb)) (by rw [same]; exact r _ (fun _ h => h) (fun a h => .inl h) (fun a h => A'.there a (by rw [same]; exact h))) fun u v A2 => ?_
      exact hs ds (ads os ++ E, H1) i a b ss' os' _ H2 p hd1 hj A2
    · have : i = ds.length := by omega
      subst this
      exact .inl ⟨f2 _ (Nat.le_refl _), hd ds ss' os' σ' H' p hj A'.unmark⟩
theorem wipe_set {j : Nat} {x : Option V} : ∀ {vs : List Nat} {τ : L2.St}, j ∈ vs → L2.wipe (τ.set j x) vs = L2.wipe τ vs
  | v :: vs, τ, h => by
    show (L2.wipe (τ.set j x) vs).set v none = (L2.wipe τ vs).set v none
    by_cases hv : j ∈ vs
    · rw [wipe_set hv]
    · have e : j = v := by
        rcases List.mem_cons.mp h with h | h
        · exact h
        · exact absurd h hv
      subst e
      clear h
      have com : ∀ {ws : List Nat} {τ : L2.St}, j ∉ ws → L2.wipe (τ.set j x) ws = (L2.wipe τ ws).set j x := by
        intro ws
        induction ws with
        | nil => intro τ _; rfl
        | cons w ws ih =>
          intro τ hn
          have hw : j ≠ w := fun z => hn (z ▸ List.mem_cons_self)
          show (L2.wipe (τ.set j x) ws).set w none = ((L2.wipe τ ws).set w none).set j x
          rw [ih fun z => hn (List.mem_cons_of_mem _ z), List.set_comm _ _ hw]
      rw [com hv, List.set_set]
theorem wipe_self2 {σ : L2.St} {i j : Nat} {x y : V} {vs : List Nat} (hi : i ∈ vs) (hj : j ∈ vs) : L2.wipe (((L2.wipe σ vs).set i (some x)).set j (some y)) vs = L2.wipe σ vs := by
  rw [wipe_set hj, wipe_self hi]
/-- [.. for a, b in pairs if ..] -/
theorem ev_lcP {wi : TI} {i1 j1 : Nat} {tt : TT} {vs : List Nat} {PI : List D → Prop} (h : EvIE K E B ss o0 wi PI) (pr : ∀ ds, PI ds → ∀ d ∈ ds, ∃ a b, d = .tup [a, b]) (hi1 : i1 ∈ vs) (hj1 : j1 ∈ vs) (hz : ∀ ds, PI ds → ds.length ≤ 1000000) (c : List D → Nat → Bool) (T : List D → Nat → D → Prop)
    (ht : ∀ ds (i : Nat) a b, PI ds → ds[i]? = some (.tup [a, b]) → EvT K E B (((wip ss vs).set i1 (.dat a)).set j1 (.dat b)) o0 tt (fun x => x = c ds i))
    (he : ∀ ds (i : Nat) a b, PI ds → ds[i]? = some (.tup [a, b]) → c ds i = true → Ev K E B true (((wip ss vs).set i1 (.dat a)).set j1 (.dat b)) o0 F te (T ds i)) :
    Ev K E B m ss o0 true (tLc wi (gTup K 2 (gCons (gName i1) (gCons (gName j1) gNil))) tt te vs) (fun d => ∃ ds outs, PI ds ∧ d = .lst outs ∧ Made (T ds) ((List.range ds.length).filter (c ds)) outs) :=
  fun Z os σ H io A Q q => h Z os σ H io A _ fun J ds H1 g it p => fun Dl nD => by
    have A1 := A.go g
    have Aw := (A1.wipe vs).ownNew nD (vs := []) (ds := []) .nil
    have hlen := hz ds p
    refine ⟨fun i mm H' => mm = ds.length - i ∧ i ≤ ds.length ∧ ∃ outs, At K E B Z (wip ss vs) ((Dl, .lst outs) :: os) (L2.wipe σ vs) H' ∧ Go B H1 H' ∧ Made (T ds) ((List.range i).filter (c ds)) outs,
      ⟨ds.length, by simp, Nat.zero_le _, [], Aw, Go.new nD, .nil⟩, ?_⟩
    rintro i mm H' ⟨rfl, hi, outs, A', g', mk⟩
    obtain ⟨f1, f2, f3⟩ := it H' (fun a o n e t => g'.one (fun z => n (List.mem_append_right _ (A.bE a z))) e t) (fun a h => A'.there a (by
      rcases List.mem_append.mp h with h | h
      · exact List.mem_append_left _ (List.mem_cons_of_mem _ h)
      · exact List.mem_append_right _ h))
    by_cases hlt : i < ds.length
    · refine .inr ⟨f1 i hlt, fun H' => ∃ outs, At K E B Z (wip ss vs) ((Dl, .lst outs) :: os) (L2.wipe σ vs) H' ∧ Go B H1 H' ∧ Made (T ds) ((List.range (i + 1)).filter (c ds)) outs, fun H2 h2 => ⟨ds.length - (i + 1), by omega, rfl, hlt, h2⟩, fun x H2 y => ?_⟩
      obtain ⟨sb, d, hd, r⟩ := f3 i x H2 hlt y
      obtain ⟨a, b, rfl⟩ := pr ds p d (List.mem_of_getElem? hd)
      have r2 := r (ads ((Dl, OD.lst outs) :: os) ++ E) (fun a h => List.mem_cons_of_mem _ h) (fun a h => by
        rcases List.mem_cons.mp h with h | h
        · exact .inr (h ▸ nD)
        · exact .inl h) (fun a h => A'.there a h)
      refine two_names (A'.go (.of sb)) r2 fun u v A2 => ?_
      refine ⟨wipe_self2 hi1 hj1, ?_⟩
      have g2 : Go B H' H2 := .of sb
      refine ht ds i a b p hd Z _ _ H2 (fun x hx => List.mem_cons_of_mem _ (io x hx)) A2 _ fun b' H3 g3 e => ?_
      subst e
      have ef : (List.range (i + 1)).filter (c ds) = (List.range i).filter (c ds) ++ (if c ds i = true then [i] else []) := by
        rw [List.range_succ, List.filter_append, List.filter_cons]
        split <;> rfl
      cases hc : c ds i with
      | false =>
        rw [if_neg Bool.false_ne_true]
        refine ⟨outs, A'.go (g2.trans g3), g'.trans (g2.trans g3), ?_⟩
        rw [ef, hc, if_neg Bool.false_ne_true, List.append_nil]
        exact mk
      | true =>
        rw [if_pos rfl]
        refine he ds i a b p hd hc Z _ _ H3 (fun x hx => List.mem_cons_of_mem _ (io x hx)) (A2.go g3) _ fun y e H4 g4 ry _ pe => ?_
        have A4 := A'.go (g2.trans (g3.trans g4))
        obtain ⟨ws, e4, r4⟩ := A4.own Dl _ List.mem_cons_self
        have lo : outs.length ≤ i := by
          rw [mk.length]
          have := List.length_filter_le (c ds) (List.range i)
          rw [List.length_range] at this
          exact this
        refine ⟨ws, e4, ?_, outs ++ [e], A4.put (r4.append (.cons ry .nil)), (g'.trans (g2.trans (g3.trans g4))).past nD fun t => tabs_lst t e4, ?_⟩
        · rw [r4.length]
          exact Nat.lt_of_le_of_lt lo (Nat.lt_of_lt_of_le hlt (Nat.le_trans hlen (by decide)))
        · rw [ef, hc, if_pos rfl]
          exact mk.snoc pe
    · have : i = ds.length := by omega
      subst this
      refine .inl ⟨f2 _ (Nat.le_refl _), ?_⟩
      obtain ⟨ws, e, r⟩ := A'.own Dl _ List.mem_cons_self
      have nE : Dl ∉ ads os ++ E := fun z => by
        rcases List.mem_append.mp z with z | z
        · exact A1.tracked z nD
        · exact A1.ent Dl z nD
      have sub : ∀ a, a ∈ er m os E → a ∈ Dl :: (ads os ++ E) := fun a ha => by
        cases m with
        | true => exact List.mem_cons_of_mem _ ha
        | false => exact List.mem_cons_of_mem _ (List.mem_append_right _ ha)
      refine q _ _ H' (g.trans g') (.lst (xs := ws) ?_ (r.mono (era_less H' sub))) (fun _ => ⟨Dl, ws, outs, rfl, rfl, g.free A.bag nD, e, r.mono (era_less H' fun a ha => ?_)⟩) ⟨ds, outs, p, rfl, mk⟩
      · rw [era_in]
        · exact e
        · cases m with
          | true => exact nE
          | false => exact fun z => nE (List.mem_append_right _ z)
      · rcases List.mem_cons.mp ha with rfl | ha
        · exact List.mem_cons_self
        · exact sub a ha
end
end Da
namespace Da
open PySem L2
variable [Tbs]
section
variable {K : PySem.W.Frag} {E B R : List Addr} {Z : List (List Addr × Hp)} {ss : List Sl} {os : Os} {σ : L2.St} {H H' : Hp} {m F : Bool} {o0 : Os} {te ta tb : TE} {P P' PA PB : D → Prop} {Dn : Ends}
/-- isinstance(x, (list, tuple)) -/
theorem ev_isLT {ds : List D} (h : EvD K E B m ss o0 te (.lst ds)) : EvD K E B m ss o0 (tCB (rIsiT K) (tCons te (tCons (tTup (tCons (tC (.ty "list")) (tCons (tC (.ty "tuple")) tNil))) tNil))) (.bl true) :=
  fun Z os σ H i A Q q => h Z os σ H i A _ fun v d H1 g1 r1 _ e => by
    subst e
    cases r1 with
    | lst h1 h2 =>
      refine ⟨by show (2 : Nat) ≤ sizeLine; decide, fun p hp => ?_⟩
      have e1 := era_sub _ _ _ _ h1
      have e2 : upd H1 p (HO.tup [V.ty "list", V.ty "tuple"]) _ = _ := (upd_ne (ne_of_none e1 hp)).trans e1
      refine ⟨_, p, _, .type "list", [.type "list", .type "tuple"], true, rfl, upd_same, .cons (.ty _) (.cons (.ty _) .nil), .base (.lst e2), by rfl, ?_⟩
      · exact q _ _ _ (g1.trans (.new hp)) (.bl true) (fun z => absurd z (by simp)) rfl
/-- three names at once, by the tuple itself -/
theorem s_trpT {i j l : Nat} {F : Bool} {te : TE} {P : D → D → D → Prop} (A : At K E B Z ss os σ H) (h : Ev K E B true ss os F te (fun d => ∃ a b c, d = .tup [a, b, c] ∧ P a b c)) (k : ∀ a b c σ' H', P a b c → At K E B Z (((ss.set i (.dat a)).set j (.dat b)).set l (.dat c)) os σ' H' → Dn.nx σ' H') : tAsg te (gTup K 3 (gCons (gName i) (gCons (gName j) (gCons (gName l) gNil)))) Dn σ H :=
  h Z os σ H (fun _ z => z) A _ fun v d H1 g r _ ⟨a, b, c, e, p⟩ => by
    subst e
    cases r with
    | tup h1 h2 =>
      cases h2 with
      | cons r1 h2 =>
        cases h2 with
        | cons r2 h2 =>
          cases h2 with
          | cons r3 h2 =>
            cases h2
            exact ⟨_, _, rfl, (era_sub _ _).t h1, rfl, _, _, rfl, _, _, rfl, _, _, rfl, rfl, k a b c _ H1 p ((((A.go g).set r1).set r2).set r3)⟩
/-- [.. for i, x in enumerate(xs)], each told by its place -/
theorem ev_lcE {t : TA} {i1 j1 : Nat} {vs : List Nat} {ds : List D} (f : Nat → D) (h : EaD K E B true ss o0 t [.lst ds]) (hi : i1 ∈ vs) (hj : j1 ∈ vs) (hz : ds.length ≤ 1000000)
    (he : ∀ (i : Nat) d, ds[i]? = some d → Ev K E B true (((wip ss vs).set i1 (.dat (.int i))).set j1 (.dat d)) o0 F te (fun x => x = f i)) :
    Ev K E B m ss o0 true (tLc (iEnum K t) (gTup K 2 (gCons (gName i1) (gCons (gName j1) gNil))) tYes te vs) (fun d => d = .lst ((List.range ds.length).map f)) := by
  have pairs : ∀ x ∈ enumD ds, ∃ a b, x = D.tup [a, b] := fun x hx => by
    unfold enumD at hx
    obtain ⟨i, _, rfl⟩ := List.mem_map.mp hx
    exact ⟨_, _, rfl⟩
  have each : ∀ {i : Nat} {a b : D}, (enumD ds)[i]? = some (.tup [a, b]) → a = .int i ∧ ds[i]? = some b := fun {i a b} h => by
    have hi : i < ds.length := by
      rcases Nat.lt_or_ge i ds.length with h' | h'
      · exact h'
      · rw [List.getElem?_eq_none (by rw [enumD_len]; exact h')] at h
        cases h
    have e := enumD_get (List.getElem?_eq_getElem hi)
    rw [e] at h
    have h := D.tup.inj (Option.some.inj h)
    simp only [List.cons.injEq, and_true] at h
    exact ⟨h.1.symm, by rw [← h.2]; exact List.getElem?_eq_getElem hi⟩
  refine Ev.impF (ev_lcP (PI := fun x => x = enumD ds) (F := F) (ei_enum h) (fun es e => e ▸ pairs) hi hj (fun es e => by rw [e, enumD_len]; exact hz) (fun _ _ => true) (fun _ i d => d = f i) (fun _ _ _ _ _ _ => et_yes) fun es i a b e hx _ => ?_) fun d ⟨es, outs, e, e2, mk⟩ => ?_
  · subst e
    obtain ⟨rfl, hb⟩ := each hx
    exact he i b hb
  · subst e
    rw [filter_true, enumD_len] at mk
    rw [e2, mk.map]
end
end Da
namespace Da
open PySem L2
variable [Tbs]
section
variable {K : PySem.W.Frag} {E B R : List Addr} {Z : List (List Addr × Hp)} {ss : List Sl} {os : Os} {σ : L2.St} {H H' : Hp} {m F : Bool} {o0 : Os} {te ta tb t1 t2 : TE} {P P' PA PB P1 P2 : D → Prop} {Dn : Ends}
/-- a new list that no name holds is taken as the def's own -/
theorem At.own1 {p : Addr} {vs : List V} {ds : List D} (A : At K E B Z ss os σ H) (n : H p = none) (e : H' p = some (.lst vs)) (g : Go B H H') (r : RpAll K (era H' (p :: (ads os ++ E))) vs ds) : At K E B Z ss ((p, .lst ds) :: os) σ H' := by
  have h := A.setO (i := ss.length) n e g r
  rw [List.set_eq_of_length_le (Nat.le_refl _), List.set_eq_of_length_le (by rw [A.len]; exact Nat.le_refl _)] at h
  exact h
theorem At.perm {os' : Os} (A : At K E B Z ss os σ H) (h : os'.Perm os) : At K E B Z ss os' σ H := by
  have ha : (ads os').Perm (ads os) := h.map _
  have sub : Sub (era H (ads os ++ E)) (era H (ads os' ++ E)) := era_less H fun a z => by
    rcases List.mem_append.mp z with z | z
    · exact List.mem_append_left _ (ha.mem_iff.mp z)
    · exact List.mem_append_right _ z
  exact ⟨A.len, A.stp, A.bag, A.bgo, A.bE, A.bW, fun i d h => let ⟨v, h1, h2⟩ := A.slot i d h; ⟨v, h1, h2.mono sub⟩, A.ownS, fun p od m => (A.own p od (h.mem_iff.mp m)).mono (fun _ e _ => e) sub, ha.nodup_iff.mpr A.nd, fun z hz p m => A.frs z hz p (ha.mem_iff.mp m), fun p m => A.oE p (ha.mem_iff.mp m), A.ent, A.tab⟩
/-- x = [a new list, another new list]: all three are the def's own -/
theorem s_asgN2 {i : Nat} (A : At K E B Z ss os σ H) (h1 : Ev K E B true ss os true t1 P1) (h2 : Ev K E B true ss os true t2 P2)
    (k : ∀ p p0 p1 ds0 ds1 σ' H', P1 (.lst ds0) → P2 (.lst ds1) → At K E B Z (ss.set i (.own p)) ((p0, .lst ds0) :: (p1, .lst ds1) :: (p, .lst [.raw (.ref p0), .raw (.ref p1)]) :: os) σ' H' → Dn.nx σ' H') : tAsg (tLst (tCons t1 (tCons t2 tNil))) (gName i) Dn σ H :=
  h1 Z os σ H (fun _ z => z) A _ fun v0 d0 H1 g1 r1 f1 q1 => by
    obtain ⟨p0, vs0, ds0, rfl, rfl, e1, e2, e3⟩ := f1 rfl
    have A1 := A.own1 e1 e2 g1 e3
    refine h2 Z _ σ H1 (fun _ z => List.mem_cons_of_mem _ z) A1 _ fun v1 d1 H2 g2 r2 f2 q2 => ?_
    obtain ⟨p1, vs1, ds1, rfl, rfl, e4, e5, e6⟩ := f2 rfl
    have A2 := A1.own1 e4 e5 g2 e6
    refine ⟨by show (2 : Nat) ≤ sizeLine; decide, fun p np => ?_⟩
    have pm : ∀ (x y z : Addr × OD), (z :: y :: x :: os).Perm (x :: y :: z :: os) := fun x y z => (List.Perm.swap y z (x :: os)).trans (((List.Perm.swap x z os).cons y).trans (List.Perm.swap x y (z :: os)))
    exact k p p0 p1 ds0 ds1 _ _ q1 q2 ((A2.setO (i := i) (vs := [.ref p0, .ref p1]) np upd_same (.new np) (.cons (.raw _) (.cons (.raw _) .nil))).perm (pm _ _ _))
/-- .. read as data -/
theorem ev_own2 {i : Nat} {p p0 p1 : Addr} {ds0 ds1 : List D} (h : ss[i]? = some (Sl.own p)) (ho : (p, OD.lst [.raw (.ref p0), .raw (.ref p1)]) ∈ o0) (h0 : (p0, OD.lst ds0) ∈ o0) (h1 : (p1, OD.lst ds1) ∈ o0) : EvD K E B false ss o0 (tVar i) (.lst [.lst ds0, .lst ds1]) :=
  fun Z os σ H hi A Q q => by
    have one : ∀ {a : Addr} {ds : List D}, (a, OD.lst ds) ∈ o0 → Rp K (era H E) (.ref a) (.lst ds) := fun {a ds} hm => by
      have hm := hi _ hm
      obtain ⟨vs, e, r⟩ := A.own a _ hm
      have pE : a ∉ E := A.oE a (List.mem_map.mpr ⟨_, hm, rfl⟩)
      refine .lst (xs := vs) ?_ (r.mono (era_mono (fun _ _ _ e _ => e) fun _ h => List.mem_append_right _ h))
      rw [era_in pE]
      exact e
    have hm := hi _ ho
    obtain ⟨vs, e, r⟩ := A.own p _ hm
    have pE : p ∉ E := A.oE p (List.mem_map.mpr ⟨_, hm, rfl⟩)
    refine ⟨.ref p, A.ownS i p h, q _ _ H .refl ?_ (fun z => absurd z (by simp)) rfl⟩
    cases r with
    | cons r0 r =>
      cases r with
      | cons r1 r =>
        cases r
        cases r0
        cases r1
        refine .lst (xs := [.ref p0, .ref p1]) ?_ (.cons (one h0) (.cons (one h1) .nil))
        show era H E p = _
        rw [era_in pE]
        exact e
/-- x[j].append(e), x[j] owned at the head -/
theorem s_appAt {i : Nat} {j : Int} {p q : Addr} {ds items : List D} (A : At K E B Z ss ((q, .lst ds) :: os) σ H) (hi : ss[i]? = some (.own p)) (hp : (p, OD.lst items) ∈ os) (hj : atI items j = some (.raw (.ref q))) (hz : ds.length ≤ 1000000) (h : Ev K E B true ss ((q, .lst ds) :: os) F te P)
    (k : ∀ d σ' H', P d → At K E B Z ss ((q, .lst (ds ++ [d])) :: os) σ' H' → Dn.nx σ' H') : tDrop (tBM K "list" rAppend (tOp (rIxL K) (tVar i) (tC (.int j))) (tCons te tNil)) Dn σ H := by
  obtain ⟨vs, e, r⟩ := A.own q _ List.mem_cons_self
  obtain ⟨ws, e2, r2⟩ := A.own p _ (List.mem_cons_of_mem _ hp)
  obtain ⟨v, h1, h2⟩ := r2.atI hj
  cases h2
  refine ⟨.ref p, A.ownS i p hi, ?_⟩
  refine ⟨_, _, _, _, rfl, rfl, .inl (.inl e2), h1, ?_⟩
  refine ⟨.inl ⟨rfl, vs, .inl (.inl e)⟩, ?_⟩
  refine h Z _ σ H (fun _ z => z) A _ fun v d H' g rv _ pd => ?_
  have A' := A.go g
  obtain ⟨vs', e', r'⟩ := A'.own q _ List.mem_cons_self
  refine ⟨q, vs', v, rfl, rfl, e', ?_, k d σ _ pd (A'.put (r'.append (.cons rv .nil)))⟩
  rw [r'.length]
  exact Nat.lt_of_le_of_lt hz (by decide)
end
end Da
namespace Da
open PySem L2 PyProof.Rows
variable [Tbs]
/-! ### three names at once -/
section
variable {X : Cx} {pos : Pos}
def tTrp (i j l : Nat) (ta : TA) : TS := fun Dn σ H => ta σ H fun vs H1 => ∃ v w u, vs = [v, w, u] ∧ Dn.nx (((σ.set i (some v)).set j (some w)).set l (some u)) H1
theorem ps_trip {i j l : Nat} {x y z : Str} {a b c : Expr} {ta : TA} {p1 p2 p3 p5 : Pos} {k1 k2 p4} (calm : X.calm = true) (nd : X.N.Nodup) (gi : X.N[i]? = some x) (gj : X.N[j]? = some y) (gl : X.N[l]? = some z) (nij : i ≠ j) (nil : i ≠ l) (njl : j ≠ l)
    (lx : Loc X.env.scope x) (ly : Loc X.env.scope y) (lz : Loc X.env.scope z) (fn : ∀ z, X.fn z = true) (args : PA X [a, b, c] ta)
    (sw : swappedStores [.Tuple [.Name x p1, .Name y p2, .Name z p5] k1 p3] (.Tuple [a, b, c] k2 p4) X.env = pure (some [x, y, z]))
    (so : swapsWithSole [.Tuple [.Name x p1, .Name y p2, .Name z p5] k1 p3] (.Tuple [a, b, c] k2 p4) pos.line X.env = pure false := by rfl) :
    PS X (.Assign [.Tuple [.Name x p1, .Name y p2, .Name z p5] k1 p3] (.Tuple [a, b, c] k2 p4) pos) (tTrp i j l ta) := .mk fun pins s0 st Hp0 Dn inv goal => by
  rw [exec_Assign_arm]
  apply wpAny_bind
  apply wpAny_standAt
  rw [so]
  apply wpAny_bind
  apply wpAny_pure
  rw [if_neg Bool.false_ne_true]
  apply wpAny_bind
  apply Tuple_
  refine thn (args.run _ pins s0 st Hp0 _ inv goal) ?_
  rintro us sh ⟨vs, Hq, J, rel, v, w, u, rfl, nxt⟩
  match us, rel with
  | [u1, u2, u3], .cons r1 (.cons r2 (.cons r3 .nil)) =>
    refine wpAny_newObj_type ?_ (by show 3 ≤ sizeLine; decide)
    rw [sw]
    apply wpAny_bind
    apply wpAny_pure
    have J2 : Inv X pins st Hq { sh with heap := sh.heap.push { cls := .type "tuple", data := .seq #[u1, u2, u3] } } := J.kept (t' := sh.toks) fun _ _ got => Heap.get?_push_of_some _ got
    show wpAny (model X.prog X.w) X.A (rule "assign.swapped-stores" >>= fun _ => unpackItems (.ref sh.heap.objs.size) 3 none >>= fun got => assignInOrder [fun u => bindName X.env z u, fun u => bindName X.env y u, fun u => bindName X.env x u] got.reverse >>= fun _ => pure Flow.next) _ _ _
    apply wpAny_bind
    apply wpAny_rule
    apply wpAny_bind
    refine unpackItems_tuple (items := #[u1, u2, u3]) (J.ok.hd calm) (IsTup.new sh.heap _) fun hp keeps => ?_
    have J3 := J2.kept (h' := hp) (t' := sh.toks) fun c o got => keeps c o (Nat.ne_of_lt (Heap.lt_size got)) got
    apply wpAny_bind
    refine assignInOrder_cons (wpAny_bindName (store_ok J3 nd gl lz r3 (fun t4 J4 => ?_) (.inl (fn z))))
    refine assignInOrder_cons (wpAny_bindName (store_ok J4 nd gj ly r2 (fun t5 J5 => ?_) (.inl (fn y))))
    refine assignInOrder_cons (wpAny_bindName (store_ok J5 nd gi lx r1 (fun t6 J6 => assignInOrder_nil (wpAny_pure ?_)) (.inl (fn x))))
    have e : ((st.set l (some u)).set j (some w)).set i (some v) = ((st.set i (some v)).set j (some w)).set l (some u) := by
      rw [List.set_comm _ _ (Ne.symm nij), List.set_comm _ _ (Ne.symm nil), List.set_comm _ _ (Ne.symm njl)]
    exact ⟨_, Hq, e ▸ J6, nxt⟩
end
section
variable {K : PySem.W.Frag} {E B : List Addr} {Z : List (List Addr × Hp)} {ss : List Sl} {os : Os} {σ : L2.St} {H : Hp} {Dn : Ends}
theorem s_trip {i j l : Nat} {ta : TA} {P : D → D → D → Prop} (A : At K E B Z ss os σ H) (h : EvA K E B true ss os ta (fun ds => ∃ a b c, ds = [a, b, c] ∧ P a b c)) (k : ∀ a b c σ' H', P a b c → At K E B Z (((ss.set i (.dat a)).set j (.dat b)).set l (.dat c)) os σ' H' → Dn.nx σ' H') : tTrp i j l ta Dn σ H :=
  h Z os σ H (fun _ z => z) A _ fun vs ds H1 g r ⟨a, b, c, e, p⟩ => by
    subst e
    cases r with
    | cons r1 r =>
      cases r with
      | cons r2 r =>
        cases r with
        | cons r3 r =>
          cases r
          exact ⟨_, _, _, rfl, k a b c _ H1 p ((((A.go g).set r1).set r2).set r3)⟩
end
end Da
namespace Da
open PySem L2
variable [Tbs]
abbrev rLenK (K : PySem.W.Frag) : List V → Hp → VK → Prop := fun xs H Q => ∃ p ys, xs = [.ref p] ∧ (SqL K H p ys ∨ SqT K H p ys) ∧ Q (.int ys.length) H
theorem call_lenK {X : Cx} {K : PySem.W.Frag} (h : X.K = K) : CallR X (.builtin "len") (rLenK K) := by
  subst h
  exact call_len_seq
end Da
namespace Da
open PySem L2
variable [Tbs]
section
variable {K : PySem.W.Frag} {E B R : List Addr} {Z : List (List Addr × Hp)} {ss : List Sl} {os : Os} {σ : L2.St} {H H' : Hp} {m F : Bool} {o0 : Os} {te ta tb t1 t2 : TE} {P P' PA PB P1 P2 : D → Prop} {Dn : Ends}
/-- x.extend(e) as a statement, x owned at the head -/
theorem s_extM {i : Nat} {p : Addr} {ds : List D} (A : At K E B Z ss ((p, .lst ds) :: os) σ H) (hi : ss[i]? = some (.own p)) (h : Ev K E B true ss ((p, .lst ds) :: os) F te P) (hp : ∀ d, P d → ∃ es, d = .lst es ∧ ds.length + es.length ≤ 1000000)
    (k : ∀ es σ' H', P (.lst es) → At K E B Z ss ((p, .lst (ds ++ es)) :: os) σ' H' → Dn.nx σ' H') : tDrop (tBM K "list" rExtend (tVar i) (tCons te tNil)) Dn σ H := by
  obtain ⟨vs, e, r⟩ := A.own p _ List.mem_cons_self
  refine ⟨.ref p, A.ownS i p hi, .inl ⟨rfl, vs, .inl (.inl e)⟩, ?_⟩
  refine h Z _ σ H (fun _ z => z) A _ fun v d H' g rv _ pd => ?_
  obtain ⟨es, rfl, hz⟩ := hp d pd
  have A' := A.go g
  obtain ⟨vs', e', r'⟩ := A'.own p _ List.mem_cons_self
  cases rv with
  | lst h1 h2 =>
    refine ⟨p, _, vs', _, rfl, rfl, e', era_sub _ _ _ _ h1, ?_, k es σ _ pd (A'.put (r'.append h2))⟩
    rw [r'.length, h2.length]
    exact Nat.le_trans hz (by decide)
/-- x += e, e not quite known -/
theorem s_augR {i : Nat} {f : Int → Int → Int} {a : Int} (A : At K E B Z ss os σ H) (hx : ss[i]? = some (.dat (.int a))) (h : Ev K E B true ss os F te P) (hp : ∀ d, P d → ∃ b : Int, d = .int b) (k : ∀ b σ' H', P (.int b) → At K E B Z (ss.set i (.dat (.int (f a b)))) os σ' H' → Dn.nx σ' H') : tAug i te (ipI f) Dn σ H := by
  obtain ⟨v, h1, h2⟩ := A.slot i _ hx
  cases h2
  refine ⟨_, h1, ?_⟩
  refine h Z os σ H (fun _ z => z) A _ fun v d H' g r _ p => ?_
  obtain ⟨b, rfl⟩ := hp d p
  cases r
  exact ⟨a, b, rfl, rfl, k b _ H' p ((A.go g).set (.int _))⟩
/-- a test that is known, and one that is not -/
theorem et_andL {t u : TT} {a : Bool} {PB : Bool → Prop} (h1 : EvT K E B ss o0 t (fun x => x = a)) (h2 : EvT K E B ss o0 u PB) : EvT K E B ss o0 (tAnd t u) (fun x => x = true → a = true) := fun Z os σ H i A Q q => h1 Z os σ H i A _ fun b H1 g1 e => by
  subst e
  cases b with
  | true =>
    show u σ H1 Q
    exact h2 Z os σ H1 i (A.go g1) _ fun b H2 g2 _ => q b H2 (g1.trans g2) fun _ => rfl
  | false =>
    show Q false H1
    exact q false H1 g1 fun z => z
theorem fnOk_weak {P : Program} {w : World} {mg : Str → Option Value} {base : Heap} {CX : CXT} {k : Nat} {f : Addr} {fd : FuncData} {ps : List Str} {sp sp' : Sp} (F : FnOk P w K mg base CX k f fd ps sp) (h : ∀ vs H Q E, sp' vs H Q E → sp vs H Q E) : FnOk P w K mg base CX k f fd ps sp' :=
  ⟨fun vs H Q E z => F.len vs H Q E (h vs H Q E z), fun A outer s H args us vs Q E a b c d z => F.run A outer s H args us vs Q E a b c d (h vs H Q E z)⟩
end
end Da
namespace Da
open PySem L2
variable [Tbs]
section
variable {K : PySem.W.Frag} {E B R : List Addr} {Z : List (List Addr × Hp)} {ss : List Sl} {os : Os} {σ : L2.St} {H H' : Hp} {m F : Bool} {o0 : Os} {te ta tb t1 t2 : TE} {P P' PA PB P1 P2 : D → Prop} {Dn : Ends}
theorem o_notN {d : D} : Op2 K B (fun x y H Q => y = .non ∧ Q (.bl (!decide (x = .non))) H) d .non false (fun x => x = .bl (match d with | .non => false | .raw v => !decide (v = .non) | _ => true)) := fun R H v w _ r1 r2 Q q => by
  cases r2
  refine ⟨rfl, q _ _ H .refl (.bl _) (fun z => absurd z (by simp)) ?_⟩
  cases r1 <;> simp
theorem o_eqB {i j : Bool} : Op2 K B rEq (.bl i) (.bl j) false (fun x => x = .bl (decide (i = j))) := fun R H v w _ r1 r2 Q q => by
  cases r1; cases r2
  refine ⟨rfl, q _ _ H .refl (.bl _) (fun z => absurd z (by simp)) ?_⟩
  congr 1
  exact decide_eq_decide.mpr ⟨fun e => V.bl.inj e, fun e => by rw [e]⟩
theorem mem_pyAll {d : D} : ∀ {ds : List D}, d ∈ ds → d.py ∈ pyAll ds
  | x :: ds, h => by
    rcases List.mem_cons.mp h with rfl | h
    · exact List.mem_cons_self
    · exact List.mem_cons_of_mem _ (mem_pyAll h)
/-- what is in a list, by what it is -/
theorem o_ninD {d : D} {ds : List D} {w n w' n' : Nat} (p : Pl w n d) (p' : Pl w' n' (.lst ds)) (hn : n ≤ 60) (hn' : n' ≤ 60) (h : d ∈ ds) : Op2 K B (rNotInD K) d (.lst ds) false (fun x => x = .bl false) := fun R H v u _ r1 r2 Q q => by
  refine ⟨d.py, pyAll ds, (r1.mono (era_sub _ _).sub).dp p, (r2.mono (era_sub _ _).sub).dp p', p.ok.shaped hn, p'.ok.shaped hn', ?_⟩
  have : ((pyAll ds).any fun z => PyData.eqv z d.py) = true := List.any_eq_true.mpr ⟨d.py, mem_pyAll h, SeqAt.eqv_refl _ p.ok.lay⟩
  rw [this]
  exact q _ _ H .refl (.bl false) (fun z => absurd z (by simp)) rfl
/-- .. over pairs, each item told by its pair -/
theorem ev_lcPF {wi : TI} {i1 j1 : Nat} {tt : TT} {vs : List Nat} {ds : List D} (c : D → Bool) (f : D → D) (h : EvIE K E B ss o0 wi (fun x => x = ds)) (pr : ∀ d ∈ ds, ∃ a b, d = .tup [a, b]) (hi1 : i1 ∈ vs) (hj1 : j1 ∈ vs) (hz : ds.length ≤ 1000000)
    (ht : ∀ a b, D.tup [a, b] ∈ ds → EvT K E B (((wip ss vs).set i1 (.dat a)).set j1 (.dat b)) o0 tt (fun x => x = c (.tup [a, b])))
    (he : ∀ a b, D.tup [a, b] ∈ ds → c (.tup [a, b]) = true → Ev K E B true (((wip ss vs).set i1 (.dat a)).set j1 (.dat b)) o0 F te (fun d => d = f (.tup [a, b]))) :
    Ev K E B m ss o0 true (tLc wi (gTup K 2 (gCons (gName i1) (gCons (gName j1) gNil))) tt te vs) (fun d => d = .lst ((ds.filter c).map f)) :=
  (ev_lcP (T := fun ds i d => ∃ x, ds[i]? = some x ∧ d = f x) (c := fun ds i => c (ds.getD i .non)) h (fun _ e => e ▸ pr) hi1 hj1 (fun _ e => e ▸ hz)
    (fun es i a b e hx => by
      subst e
      rw [List.getD_eq_getElem?_getD, hx]
      exact ht a b (List.mem_of_getElem? hx))
    (fun es i a b e hx hc => by
      subst e
      rw [List.getD_eq_getElem?_getD, hx] at hc
      exact (he a b (List.mem_of_getElem? hx) hc).impF fun d hd => ⟨_, hx, hd⟩)).impF fun d hd => by
    obtain ⟨es, outs, rfl, rfl, mk⟩ := hd
    have gen : ∀ (is : List Nat) (outs : List D), Made (fun i d => ∃ x, es[i]? = some x ∧ d = f x) is outs → outs = is.map fun i => f (es.getD i .non) := fun is outs mk => by
      induction mk with
      | nil => rfl
      | cons h _ ih =>
        obtain ⟨x, e1, e2⟩ := h
        rw [List.map_cons, ← ih, e2, List.getD_eq_getElem?_getD, e1] <;> rfl
    rw [gen _ _ mk]
    congr 1
    have e : es.filter c = ((List.range es.length).filter (fun i => c (es.getD i .non))).map (fun i => es.getD i .non) := by
      have : (es.filter c) = ((List.range es.length).map (fun i => es.getD i .non)).filter c := by rw [range_getD]
      rw [this, List.filter_map] <;> rfl
    rw [e, List.map_map] <;> rfl
theorem op_neK {X : Cx} (e : X.K = K) (hu : X.A.units + 64 < cLine) : OpR X (compareOp .NotEq) (rNeD K) := e ▸ op_neD hu
end
end Da
/-! a set of texts that a name holds -/
namespace Da
open PySem L2
variable [Tbs]
section
variable {P : Program} {w : World} {K : PySem.W.Frag} {E B R : List Addr} {Z : List (List Addr × Hp)} {ss : List Sl} {os : Os} {σ : L2.St} {H H' H0 : Hp} {m F : Bool} {o0 : Os} {te ta tb : TE} {Pd : D → Prop} {Dn : Ends} {D x : Addr} {S : Key → Bool} {n : Nat}
/-- seen = set() -/
theorem s_set0 {i : Nat} (A : At K E B Z ss os σ H) (k : ∀ D σ' H', D ∉ ads os → H D = none → At K (D :: E) B Z (ss.set i (.dat (.raw (.ref D)))) os σ' H' → H' D = some (SetK P w D (fun _ => false) 0) → Dn.nx σ' H') : tAsg (tCB (rSet0K P w) tNil) (gName i) Dn σ H :=
  ⟨rfl, fun D nD => k D _ _ (fun z => A.tracked z nD) nD ((A.lay nD).set (.raw _)) upd_same⟩
/-- text not in seen -/
theorem t_ninK {i j : Nat} {s : List Nat} {Q : Bool → Hp → Prop} (A : At K E B Z ss os σ H) (hi : ss[i]? = some (.dat (.str s))) (hj : ss[j]? = some (.dat (.raw (.ref D)))) (hS : H D = some (SetK P w D S n)) (q : Q (!S (.inr (mk s))) H) : tTest (tOp (rSInK P w true) (tVar i) (tVar j)) σ H Q := by
  obtain ⟨v, e1, r1⟩ := A.slot i _ hi
  obtain ⟨u, e2, r2⟩ := A.slot j _ hj
  cases r1; cases r2
  exact ⟨_, e1, _, e2, .inr (mk s), D, S, n, rfl, rfl, hS, _, rfl, q⟩
/-- seen.add(text) -/
theorem s_saddK {i j : Nat} {s : List Nat} (A : At K (D :: E) B Z ss os σ H) (hz : ∀ z, z ∈ Z → D ∈ z.1 ∨ z.2 D = none) (hi : ss[i]? = some (.dat (.str s))) (hj : ss[j]? = some (.dat (.raw (.ref D)))) (hS : H D = some (SetK P w D S n)) (room : n + 1 < PySem.scanBound)
    (k : ∀ H', At K (D :: E) B Z ss os σ H' → H' D = some (SetK P w D (fun j => S j || decide (j = .inr (mk s))) (if S (.inr (mk s)) = true then n else n + 1)) → Dn.nx σ H') : tDrop (tSAddK P w (tVar j) (tCons (tVar i) tNil)) Dn σ H := by
  obtain ⟨v, e1, r1⟩ := A.slot i _ hi
  obtain ⟨u, e2, r2⟩ := A.slot j _ hj
  cases r1; cases r2
  exact ⟨_, e2, ⟨D, S, n, rfl, hS⟩, _, e1, D, .inr (mk s), S, n, rfl, rfl, hS, room, k _ (A.writeO (fun xs z => by rw [hS] at z; cases z) hz fun t => tabs_upd t hS trivial fun q => set_ne fun h ⟨o, es, ep, t, h1, _, h2, _⟩ => ⟨o, es, ep, t, h1, h2⟩) upd_same⟩
/-- .. and what is at x stays -/
theorem s_appK {i : Nat} {p : Addr} {ds : List Da.D} {o : HO} (nt : NT o := by trivial) (A : At K E B Z ss ((p, .lst ds) :: os) σ H) (hi : ss[i]? = some (.own p)) (hz : ds.length ≤ 1000000) (h : Ev K E B true ss ((p, .lst ds) :: os) F te Pd) (nB : x ∉ B) (np : x ≠ p) (e : H x = some o)
    (k : ∀ d σ' H', Pd d → At K E B Z ss ((p, .lst (ds ++ [d])) :: os) σ' H' → H' x = some o → Dn.nx σ' H') : tDrop (tBM K "list" rAppend (tVar i) (tCons te tNil)) Dn σ H := by
  obtain ⟨vs, e1, r⟩ := A.own p _ List.mem_cons_self
  refine ⟨.ref p, A.ownS i p hi, .inl ⟨rfl, vs, .inl (.inl e1)⟩, ?_⟩
  refine h Z _ σ H (fun _ z => z) A _ fun v d H' g rv _ pd => ?_
  have A' := A.go g
  obtain ⟨vs', e', r'⟩ := A'.own p _ List.mem_cons_self
  refine ⟨p, vs', v, rfl, rfl, e', ?_, k d σ _ pd (A'.put (r'.append (.cons rv .nil))) (by rw [upd_ne np]; exact g.one nB e nt)⟩
  rw [r'.length]
  exact Nat.lt_of_le_of_lt hz (by decide)
theorem s_asgK {i : Nat} {o : HO} (nt : NT o := by trivial) (A : At K E B Z ss os σ H) (h : Ev K E B true ss os F te Pd) (nB : x ∉ B) (e : H x = some o) (k : ∀ d σ' H', Pd d → At K E B Z (ss.set i (.dat d)) os σ' H' → H' x = some o → Dn.nx σ' H') : tAsg te (gName i) Dn σ H :=
  h Z os σ H (fun _ z => z) A _ fun v d H' g r _ p => k d _ H' p ((A.go g).set r) (g.one nB e nt)
/-- what is told with more kept away is told with less -/
theorem Tells.less {Q : VK} (k : Tells K E B H0 F Pd Q) : Tells K (D :: E) B H0 F Pd Q := fun v d H' g r f p => k v d H' g (r.mono (era_less H' fun a h => List.mem_cons_of_mem _ h)) (fun hf => by
  obtain ⟨q, vs, ds, e1, e2, e3, e4, r⟩ := f hf
  exact ⟨q, vs, ds, e1, e2, e3, e4, r.mono (era_less H' fun a h => by
    rcases List.mem_cons.mp h with h | h
    · rw [h]; exact List.mem_cons_self
    · exact List.mem_cons_of_mem _ (List.mem_cons_of_mem _ h))⟩) p
end
end Da
namespace Da
open PySem L2
variable [Tbs]
section
variable {K : PySem.W.Frag} {E B : List Addr} {m : Bool} {ss : List Sl} {o0 : Os} {tb : TE}
/-- an item of an owned list -/
theorem ev_ownIx {i : Nat} {p : Addr} {ds : List D} {j : Int} {d : D} (h : ss[i]? = some (Sl.own p)) (ho : (p, OD.lst ds) ∈ o0) (hb : EvD K E B m ss o0 tb (.int j)) (hj : atI ds j = some d) : EvD K E B m ss o0 (tOp (rIxL K) (tVar i) tb) d :=
  fun Z os σ H hi A Q q => by
    have hm := hi _ ho
    refine ⟨.ref p, A.ownS i p h, hb Z os σ H hi A _ fun v x H1 g r _ e => ?_⟩
    subst e
    cases r
    have A1 := A.go g
    obtain ⟨vs, e, r⟩ := A1.own p _ hm
    obtain ⟨v, e2, r2⟩ := r.atI hj
    refine ⟨p, vs, j, v, rfl, rfl, .inl (.inl e), e2, q _ _ H1 g (r2.mono ?_) (fun z => absurd z (by simp)) rfl⟩
    cases m with
    | true => exact fun a o e _ => e
    | false => exact era_less H1 fun _ h => List.mem_append_right _ h
theorem in_str {H : Hp} {x : List Nat} : ∀ {l : List (List Nat)} {xs : List V}, RpAll K H xs (l.map D.str) → xs.all flatV = true ∧ inV (.str (mk x)) xs = decide (x ∈ l)
  | [], _, r => by
    cases r
    exact ⟨rfl, by simp [inV]⟩
  | a :: l, _, r => by
    cases r with
    | cons r1 r2 =>
      cases r1
      obtain ⟨h1, h2⟩ := in_str (x := x) r2
      refine ⟨by simpa [flatV] using h1, ?_⟩
      unfold inV at h2 ⊢
      rw [List.any_cons, h2]
      show ((mk a == mk x) || decide (x ∈ l)) = _
      by_cases e : a = x
      · subst e
        simp
      · have n : (mk a == mk x) = false := beq_eq_false_iff_ne.mpr fun z => e (mk_inj z)
        have n2 : ¬ x = a := fun z => e z.symm
        rw [n, Bool.false_or]
        simp [n2]
/-- a text in a list of texts -/
theorem o_inStr {x : List Nat} {l : List (List Nat)} : Op2 K B (rIn K false) (.str x) (.lst (l.map D.str)) false (fun d => d = .bl (decide (x ∈ l))) := fun R H v w _ r1 r2 Q q => by
  cases r1
  cases r2 with
  | @lst a xs ds h1 h2 =>
    obtain ⟨f1, f2⟩ := in_str (x := x) h2
    refine ⟨_, xs, rfl, .inl (.inl (.inl (era_sub H R _ _ h1))), rfl, f1, ?_⟩
    show Q (.bl (inV (.str (mk x)) xs)) H
    rw [f2]
    exact q _ _ H .refl (.bl _) (fun z => absurd z (by simp)) rfl
end
section
variable {K : PySem.W.Frag} {E B : List Addr} {Z : List (List Addr × Hp)} {ss : List Sl} {os : Os} {σ : L2.St} {H : Hp} {Dn : Ends}
/-- for, with a break: what holds behind it -/
theorem s_forB {wi : TI} {j : Nat} {tb : TS} {PI : List D → Prop} (A : At K E B Z ss os σ H) (h : EvI K E B ss os wi PI) (J : List D → Nat → List Sl → Os → Prop) (Jb : List Sl → Os → Prop) (h0 : ∀ ds, PI ds → J ds 0 ss os)
    (ho : ∀ ds i ss' os', J ds i ss' os' → ads os' = ads os)
    (hs : (∀ ss' os' σ' H', Jb ss' os' → At K E B Z ss' os' σ' H' → Dn.nx σ' H') → ∀ ds z (i : Nat) x ss' os' σ' H', PI ds → ds[i]? = some x → J ds i ss' os' → At K E B (z :: Z) (ss'.set j (.dat x)) os' σ' H' →
      tb { Dn with nx := fun σ H => ∃ ss os, J ds (i + 1) ss os ∧ At K E B (z :: Z) ss os σ H, ct := fun σ H => ∃ ss os, J ds (i + 1) ss os ∧ At K E B (z :: Z) ss os σ H, bk := Dn.nx } σ' H')
    (hd : ∀ ds ss' os', PI ds → J ds ds.length ss' os' → Jb ss' os')
    (k : ∀ ss' os' σ' H', Jb ss' os' → At K E B Z ss' os' σ' H' → Dn.nx σ' H') : tFor wi (gName j) tb Dn σ H :=
  s_for A h J h0 ho (hs k) fun ds ss' os' σ' H' p hj A => k ss' os' σ' H' (hd ds ss' os' p hj) A
end
section
variable {X : Cx} {K : PySem.W.Frag}
theorem ix_tupK (e : X.K = K) : IxR X (rIxT K) := e ▸ ix_tup
theorem ix_listK (e : X.K = K) : IxR X (rIxL K) := e ▸ ix_list
end
end Da
namespace Da
open PySem L2
variable [Tbs]
section
variable {K : PySem.W.Frag} {E B : List Addr} {m : Bool} {ss : List Sl} {o0 : Os} {to ta : TE}
theorem strs_is {H : Hp} : ∀ {l : List (List Nat)} {xs : List V}, RpAll K H xs (l.map D.str) → xs = l.map fun s => V.str (mk s)
  | [], _, r => by
    cases r
    rfl
  | a :: l, _, r => by
    cases r with
    | cons r1 r2 =>
      cases r1
      rw [strs_is r2] <;> rfl
/-- texts.index(text) -/
theorem ev_idxS {l : List (List Nat)} {x : List Nat} {j : Nat} (h : EvD K E B m ss o0 to (.lst (l.map D.str))) (ha : EvD K E B m ss o0 ta (.str x)) (hj : l[j]? = some x) (no : ∀ i z, i < j → l[i]? = some z → z ≠ x) : EvD K E B m ss o0 (tBM K "list" (rIndex K) to (tCons ta tNil)) (.int (j : Nat)) :=
  fun Z os σ H i A Q q => h Z os σ H i A _ fun v d H1 g1 r1 _ e => by
    subst e
    cases id r1 with
    | @lst a xs ds h1 h2 =>
      refine ⟨.inl ⟨rfl, xs, .inl (.inl (era_sub _ _ _ _ h1))⟩, ?_⟩
      refine ha Z os σ H1 i (A.go g1) _ fun w d2 H2 g2 r2 _ e2 => ?_
      subst e2
      cases r2
      have r3 := ((A.rg m).go g1).keep g2 r1
      cases r3 with
      | @lst _ ys _ k1 k2 =>
        have e := strs_is k2
        subst e
        refine ⟨a, _, .str (mk x), j, .str (mk x), rfl, rfl, .inl (.inl (era_sub _ _ _ _ k1)), rfl, ?_, by rw [List.getElem?_map, hj] <;> rfl, by show (mk x == mk x) = true; exact beq_self_eq_true _, fun i z hi hz => ?_, q _ _ H2 (g1.trans g2) (.int _) (fun z => absurd z (by simp)) rfl⟩
        · rw [List.all_eq_true]
          intro z hz
          obtain ⟨s, _, rfl⟩ := List.mem_map.mp hz
          rfl
        · rw [List.getElem?_map] at hz
          cases hl : l[i]? with
          | none => rw [hl] at hz; cases hz
          | some t =>
            rw [hl] at hz
            cases hz
            show (mk t == mk x) = false
            exact beq_eq_false_iff_ne.mpr fun e => no i t hi hl (mk_inj e)
end
end Da
set_option maxHeartbeats 2000000
/-! Sets of ints and texts that may be walked: which keys stand in them, in no order. -/
namespace Ks
open PySem PySem.Spec PyProof.Rows L2
/-- the key that a value is -/
def kof : Value → Key
  | .int i _ => .inl i
  | .str x _ => .inr x
  | _ => .inl 0
section
variable {P : Program} {w : World}
theorem kof_is {k : Key} {v : Value} (h : (mixKind P w).is k v = true) : kof v = k ∧ v.scannable = true := by
  rcases keyIs_shape h with ⟨i, t, e1, e2⟩ | ⟨x, t, e1, e2⟩ <;> (subst e1; subst e2; exact ⟨rfl, rfl⟩)
theorem kof_rel {k : Key} {v : Value} (h : (mixKind P w).is k v = true) : RelV (kV k) v := by
  rcases keyIs_shape h with ⟨i, t, e1, e2⟩ | ⟨x, t, e1, e2⟩ <;> (subst e1; subst e2; exact ⟨t, rfl⟩)
/-- the keys of what a table holds -/
abbrev keysOf (l : List (Int × Value)) : List Key := l.map fun e => kof e.2
theorem mem_keysOf {l : List (Int × Value)} (g : ElemsOf (mixKind P w) l) (k : Key) : k ∈ keysOf l ↔ ∃ e ∈ l, (mixKind P w).is k e.2 = true := by
  constructor
  · intro h
    obtain ⟨e, m, q⟩ := List.mem_map.mp h
    obtain ⟨⟨k', i, _⟩, _⟩ := g e m
    have : k' = k := (kof_is i).1.symm.trans q
    exact ⟨e, m, this ▸ i⟩
  · rintro ⟨e, m, i⟩
    exact List.mem_map.mpr ⟨e, m, (kof_is i).1⟩
open Classical in
/-- L with k, each once -/
noncomputable def ins (k : Key) (L : List Key) : List Key := if k ∈ L then L else L ++ [k]
theorem ins_mem {k j : Key} {L : List Key} : j ∈ ins k L ↔ j ∈ L ∨ j = k := by
  unfold ins
  split
  · next h => exact ⟨.inl, fun q => q.elim id fun e => e ▸ h⟩
  · simp
theorem ins_nodup {k : Key} {L : List Key} (n : L.Nodup) : (ins k L).Nodup := by
  unfold ins
  split
  · exact n
  · next h => exact List.nodup_append.mpr ⟨n, by simp, fun a m b mb e => by
      have : b = k := by simpa using mb
      exact h (this ▸ e ▸ m)⟩
theorem ins_len {k : Key} {L : List Key} : (ins k L).length ≤ L.length + 1 := by
  unfold ins
  split
  · omega
  · simp
/-- the set at a has the keys L, each once; its table can be walked -/
structure Tab (w : World) (es : Array (Int × Value)) (t : SetTable) : Prop where
  fit : t.fits es.size = true
  ris : Ris t.place.toList
  led : w.params.followText "set-order" = true ∨ t.led = true
structure Own (P : Program) (w : World) (es : Array (Int × Value)) (L : List Key) : Prop where
  el : ElemsOf (mixKind P w) es.toList
  pm : (keysOf es.toList).Perm L
  nd : L.Nodup
  few : L.length < scanBound
theorem Own.size {es : Array (Int × Value)} {L : List Key} (z : Own P w es L) : es.size = L.length := by
  have := z.pm.length_eq
  rw [List.length_map, Array.length_toList] at this
  exact this
def Lot (P : Program) (w : World) (h : Heap) (a : Addr) (L : List Key) : Prop :=
  ∃ (o : Obj) (es : Array (Int × Value)) (n : Nat) (t : SetTable), h.get? a = some o ∧ o.ExactSet ∧ o.data = .set es n t ∧ Own P w es L ∧ Tab w es t
theorem Lot.at {h h' : Heap} {a : Addr} {L : List Key} (z : Lot P w h a L) (k : ∀ o, h.get? a = some o → h'.get? a = some o) : Lot P w h' a L := by
  obtain ⟨o, es, n, t, q, r⟩ := z
  exact ⟨o, es, n, t, k o q, r⟩
open Classical in
theorem Lot.of {h : Heap} {a : Addr} {L : List Key} (z : Lot P w h a L) : h.SetOf (mixKind P w) a (fun k => decide (k ∈ L)) L.length := by
  obtain ⟨o, es, n, t, q, ex, dt, ow, tb⟩ := z
  refine ⟨o, es, n, t, q, ex, dt, ow.el, fun k => ?_, by rw [ow.size]; exact ow.few, tb.fit, ow.size⟩
  rw [← mem_keysOf ow.el, ow.pm.mem_iff]
  exact decide_eq_true_iff
end
section
variable {P : Program} {w : World} {A : Around} {E : Value → Shared → Prop} {s : Shared} {a : Addr} {L : List Key}
theorem put_at {h : Heap} {o : Obj} {es fs : Array (Int × Value)} {n : Nat} {t u : SetTable} (q : h.get? a = some o) (d : o.data = .set es n t) : (h.update a (Obj.putSet fs u)).get? a = some { o with data := .set fs (n + 1) u } := by
  rw [Heap.get?_update_self (Obj.putSet fs u) q (by rw [putSet_of fs u d] <;> rfl), putSet_of fs u d]
/-- what the model does behind the search: lay the table down, make it wider where it is full -/
theorem lay_tail {note : Bool → Sem Unit} (hn : ∀ (b : Bool) (s1 : Shared) (Q1 : Unit → Shared → Prop), Q1 () s1 → wpAny (model P w) A (note b) Q1 E s1) {o : Obj} {es fs : Array (Int × Value)} {n : Nat} {t u : SetTable} {M : List Key}
    (q : s.heap.get? a = some o) (ex : o.ExactSet) (d : o.data = .set es n t) (ow : Own P w fs M) (tb : Tab w fs u) {dm : Bool} {R : Option Bool → Shared → Prop}
    (hR : ∀ g, Heap.SameBut a s.heap g → Lot P w g a M → R (some true) { s with heap := g }) :
    wpAny (model P w) A (do
      storeSet a fs u
      if (!dm && u.tooFull) = true then do
        note (relayAll u fs (SetTable.grown fs.size)).2.2
        storeSet a (relayAll u fs (SetTable.grown fs.size)).1 (relayAll u fs (SetTable.grown fs.size)).2.1
        pure (some true)
      else pure (some true)) R E s := by
  have fz : fs.size < scanBound := by rw [ow.size]; exact ow.few
  refine wpAny_bind (wpAny_storeSet_of q d ?_ (fits_of_scanBound fz))
  have q1 := put_at (fs := fs) (u := u) q d
  have b1 := Heap.SameBut.update s.heap a (Obj.putSet fs u)
  by_cases full : (!dm && u.tooFull) = true
  · rw [if_pos full]
    have r1 := relayAll_perm u fs (SetTable.grown fs.size)
    have r2 := relayAll_fits u fs (SetTable.grown fs.size)
    have r3 := relayAll_ris u fs (SetTable.grown fs.size)
    have r4 := relayAll_led u fs (SetTable.grown fs.size)
    rcases hz : relayAll u fs (SetTable.grown fs.size) with ⟨gs, v, gave⟩
    rw [hz] at r1 r2 r3 r4
    have ow2 : Own P w gs M := ⟨fun e m => ow.el e (r1.mem_iff.mp m), (r1.map _).trans ow.pm, ow.nd, ow.few⟩
    have gz : gs.size < scanBound := by rw [ow2.size]; exact ow.few
    refine wpAny_bind (hn _ _ _ (wpAny_bind (wpAny_storeSet_of q1 rfl ?_ (fits_of_scanBound gz))))
    have q2 := put_at (fs := gs) (u := v) q1 rfl
    exact wpAny_pure (hR _ (b1.trans (Heap.SameBut.update _ a _)) ⟨_, gs, _, v, q2, ex, rfl, ow2, r2, r3, tb.led.imp id fun z => r4.trans z⟩)
  · rw [if_neg full]
    exact wpAny_pure (hR _ b1 ⟨_, fs, _, u, q1, ex, rfl, ow, tb⟩)
theorem lot_hashed {k : Key} {x : Value} {Q : Bool → Shared → Prop} (hx : (mixKind P w).is k x = true) (z : Lot P w s.heap a L) (room : L.length + 1 < scanBound)
    (hQ : ∀ b g, Heap.SameBut a s.heap g → Lot P w g a (ins k L) → Q b { s with heap := g }) : wpAny (model P w) A (setAddHashed a x ((mixKind P w).hash k)) Q E s := by
  obtain ⟨o, es, n, t, q, ex, d, ow, tb⟩ := z
  have sc := (kof_is hx).2
  have fz : es.size < scanBound := by rw [ow.size]; exact ow.few
  unfold setAddHashed setAddHashedIn
  refine wpAny_holding (wpAny_bind (wpAny_setState_of q d tb.fit ?_))
  dsimp only
  rw [byScan_of sc fz ow.el, if_pos rfl]
  unfold setAddByScan
  refine wpAny_bind (wpAny_bind (wpAny_rule (wpAny_bind (wpAny_setScan_of hx q d tb.fit ow.el ?_))))
  cases fi : List.findIdx? (fun e => (mixKind P w).is k e.2) es.toList with
  | some j =>
    obtain ⟨jl, jk, _⟩ := List.findIdx?_eq_some_iff_getElem.mp fi
    have inL : k ∈ L := ow.pm.mem_iff.mp ((mem_keysOf ow.el k).mpr ⟨_, List.getElem_mem jl, jk⟩)
    refine wpAny_pure (wpAny_pure (hQ _ s.heap (Heap.SameBut.refl a s.heap) ?_))
    unfold ins
    rw [if_pos inL]
    exact ⟨o, es, n, t, q, ex, d, ow, tb⟩
  | none =>
    have outL : k ∉ L := fun m => by
      obtain ⟨e, me, ie⟩ := (mem_keysOf ow.el k).mp (ow.pm.mem_iff.mpr m)
      have c := List.findIdx?_eq_none_iff.mp fi e me
      rw [ie] at c
      cases c
    have note : ∀ (b : Bool) (s1 : Shared) (Q1 : Unit → Shared → Prop), Q1 () s1 → wpAny (model P w) A (match b with | true => rule "set.scan.the-table-gave-way" | false => pure ()) Q1 E s1 := fun b s1 Q1 h => by
      cases b with
      | true => exact wpAny_rule h
      | false => exact wpAny_pure h
    dsimp only
    have l1 := layNew_perm t es ((mixKind P w).hash k) x
    have l2 := layNew_fits t es ((mixKind P w).hash k) x
    have l3 := layNew_ris t es ((mixKind P w).hash k) x tb.ris
    have l4 := layNew_led t es ((mixKind P w).hash k) x
    rcases hz : layNew t es ((mixKind P w).hash k) x with ⟨fs, u, dm, gave⟩
    rw [hz] at l1 l2 l3 l4
    dsimp only at l1 l2 l3 l4 ⊢
    rw [Array.toList_push] at l1
    have kk : (keysOf fs.toList).Perm (ins k L) := by
      unfold ins
      rw [if_neg outL]
      refine (l1.map fun e => kof e.2).trans ?_
      rw [List.map_append]
      show List.Perm (keysOf es.toList ++ [kof x]) (L ++ [k])
      rw [(kof_is hx).1]
      exact ow.pm.append_right _
    have ow1 : Own P w fs (ins k L) := ⟨fun e m => by
      rcases List.mem_append.mp (l1.mem_iff.mp m) with m | m
      · exact ow.el e m
      · rw [List.mem_singleton.mp m]
        exact ⟨⟨k, hx, rfl⟩, sc⟩, kk, ins_nodup ow.nd, Nat.lt_of_le_of_lt ins_len room⟩
    have led1 : w.params.followText "set-order" = true ∨ u.led = true := tb.led.imp id fun y => l4.trans y
    refine wpAny_bind (note gave s _ ?_)
    have off : Tab w fs u := ⟨l2, l3, led1⟩
    have offP : ∀ c : Bool, Tab w fs (if c = true then u else { u with plain := false }) := fun c => by
      cases c with
      | true => exact off
      | false => exact ⟨SetTable.fits_plain_off l2, l3, led1⟩
    by_cases pl : u.plain = true
    · rw [if_pos pl]
      refine wpAny_bind ?_
      rw [hashByValue_scannable 8 sc]
      exact wpAny_pure (lay_tail note q ex d ow1 (offP _) fun g sb lt => wpAny_pure (hQ true g sb lt))
    · rw [if_neg pl]
      refine wpAny_bind (wpAny_pure ?_)
      exact lay_tail note q ex d ow1 off fun g sb lt => wpAny_pure (hQ true g sb lt)
/-- the call of set.add -/
theorem lot_add {k : Key} {x : Value} {Q : Value → Shared → Prop} (hx : (mixKind P w).is k x = true) (z : Lot P w s.heap a L) (room : L.length + 1 < scanBound)
    (hQ : ∀ g, Heap.SameBut a s.heap g → Lot P w g a (ins k L) → Q .none { s with heap := g, toks := s.toks + 1 }) : wpAny (model P w) A (call (.builtin "set.add") [.ref a, x]) Q E s := by
  refine wpAny_call_entry F.slot_set_add z.of.typeIs F.entry_set_add ?_ (F.args_set_add_2 _ _)
  unfold Builtin.«set.add» Builtin.Frozenset.oneOther
  simp only [List.isEmpty_nil, bind_assoc]
  unfold Builtin.Frozenset.addrOf setAdd
  refine wpAny_bind (wpAny_pure (wpAny_bind (wpAny_pure (wpAny_bind (wpAny_holding (wpAny_bind ((mixKind P w).pyHash hx ?_)))))))
  exact lot_hashed (s := { s with toks := s.toks + 1 }) hx z room fun b g sb lt => wpAny_pure ⟨_, rfl, hQ g sb lt⟩
/-- an empty one, as the model lays it -/
abbrev bare (w : World) : Obj := { cls := .type "set", dict := none, data := .set #[] 0 (.fresh 0 0 (!w.params.followText "set-order")) }
theorem lot_bare {h : Heap} : Lot P w (h.push (bare w)) h.objs.size [] := by
  refine ⟨_, #[], 0, _, Heap.get?_push_size _ rfl, ⟨rfl, rfl, rfl⟩, rfl, ⟨fun e m => by simp at m, .refl _, List.nodup_nil, by decide⟩, rfl, List.Pairwise.nil, ?_⟩
  show _ ∨ (!w.params.followText "set-order") = true
  cases w.params.followText "set-order" with
  | true => exact .inl rfl
  | false => exact .inr rfl
end
end Ks
/-! sorted, of texts, any number of them: of a list, of a set, of a dict's keys -/
namespace Ks
open PySem PySem.Spec PyProof.Rows L2
/-- the codes of a text value -/
def cod : Value → List Nat
  | .str x _ => x.cps.toList
  | _ => []
def ltC (v u : Value) : Bool := decide (cod v < cod u)
theorem swo_cod : SrtO.Swo ltC := by
  refine ⟨fun x y h => decide_eq_false fun z => ?_, fun x y z h1 h2 => decide_eq_false fun q => ?_⟩
  · exact absurd (List.lt_trans (of_decide_eq_true h) z) (List.lt_irrefl _)
  · have a := of_decide_eq_false h1
    have b := of_decide_eq_false h2
    exact b (Std.lt_of_lt_of_le q (List.not_lt.mp a))
theorem cod_of {us : List Value} {xs : List Str} (h : StrsAre us xs) : us.map cod = xs.map fun x => x.cps.toList := by
  induction h with
  | nil => rfl
  | cons x t _ ih => rw [List.map_cons, List.map_cons, ih] <;> rfl
theorem strs_all {us : List Value} {xs : List Str} (h : StrsAre us xs) : ∀ v ∈ us, ∃ x t, v = Value.str x t := by
  induction h with
  | nil => intro v m; simp at m
  | cons x t _ ih =>
    intro v m
    rcases List.mem_cons.mp m with e | m
    · exact ⟨x, t, e⟩
    · exact ih v m
theorem all_strs : ∀ {us : List Value}, (∀ v ∈ us, ∃ x t, v = Value.str x t) → ∃ xs, StrsAre us xs
  | [], _ => ⟨[], .nil⟩
  | v :: us, h => by
    obtain ⟨x, t, rfl⟩ := h v List.mem_cons_self
    obtain ⟨xs, r⟩ := all_strs fun u m => h u (List.mem_cons_of_mem _ m)
    exact ⟨x :: xs, .cons x t r⟩
section
variable {P : Program} {w : World} {A : Around} {E : Value → Shared → Prop} {s : Shared}
theorem strs_sortable {a : Addr} {us : List Value} {xs : List Str} (h : StrsAre us xs) (h2 : 2 ≤ us.length) : SrtO.SortableO P w A s a us ltC := by
  intro g _
  refine ⟨oneType', fun Q E q => ?_, fun p q mp mq => ?_⟩
  · match us, h, h2 with
    | u1 :: u2 :: rest, h, _ =>
      rw [keyKind_strs h]
      exact wpAny_pure q
    | [], _, z => exact absurd z (by decide)
    | [u], _, z => exact absurd z (by simp)
  · obtain ⟨x, t, e1⟩ := strs_all h _ mp
    obtain ⟨y, u, e2⟩ := strs_all h _ mq
    show wpAny (model P w) A (keyLt' oneType' p.1 q.1) (fun r s' => s' = _ ∧ r = ltC p.1 q.1) (fun _ _ => False) _
    rw [e1, e2, keyLt'_oneType]
    exact oneLt_str ⟨rfl, rfl⟩
/-- what comes out: the same texts, none above the next -/
theorem strs_out {us out : List Value} {xs : List Str} (h : StrsAre us xs) (o : SrtO.Srtd ltC out) (b : SrtO.Stb ltC out us) : ∃ ys, StrsAre out ys ∧ (ys.map fun x => x.cps.toList).Perm (xs.map fun x => x.cps.toList) ∧ (ys.map fun x => x.cps.toList).Pairwise (fun x y => ¬ y < x) := by
  obtain ⟨ys, hy⟩ := all_strs fun v m => strs_all h v (b.perm.mem_iff.mp m)
  have pm := b.perm.map cod
  rw [cod_of hy, cod_of h] at pm
  refine ⟨ys, hy, pm, ?_⟩
  rw [← cod_of hy]
  exact List.pairwise_map.mpr (o.imp fun {x y} z => of_decide_eq_false (p := cod y < cod x) z)
/-- a new list is laid and sorted in place -/
theorem new_sorted {us : List Value} {xs : List Str} {Q : Value → Shared → Prop} (h : StrsAre us xs) (z : us.length ≤ sizeLine)
    (q : ∀ (g : Heap) (out : List Value) (n : Nat) (ys : List Str), (∀ b o, s.heap.get? b = some o → g.get? b = some o) → g.get? s.heap.objs.size = some (seqObj "list" out.toArray n) → StrsAre out ys → (ys.map fun x => x.cps.toList).Perm (xs.map fun x => x.cps.toList) →
      (ys.map fun x => x.cps.toList).Pairwise (fun x y => ¬ y < x) → Q (.ref s.heap.objs.size) { s with heap := g }) :
    wpAny (model P w) A (call (.builtin "list.sort") [.ref s.heap.objs.size]) (fun _ s1 => Q (.ref s.heap.objs.size) s1) E { s with heap := s.heap.push (seqObj "list" us.toArray 0) } := by
  have ho : (s.heap.push (seqObj "list" us.toArray 0)).get? s.heap.objs.size = some (seqObj "list" us.toArray 0) := Heap.get?_push_size _ rfl
  refine wpAny_call_entry slot_list_sort ⟨_, ho, rfl⟩ entry_list_sort (SrtO.list_sort_ord swo_cod ho z (fun h2 => strs_sortable h h2) fun out o b => ⟨_, rfl, ?_⟩) (args_list_sort _)
  obtain ⟨ys, r1, r2, r3⟩ := strs_out h o b
  obtain ⟨n, hn⟩ := sortedHeap_at (vs := us) (out := out.toArray) ho
  refine q _ out n ys (fun b o e => ?_) hn r1 r2 r3
  have hb := Heap.lt_size e
  rw [sortedHeap_old (Nat.ne_of_lt hb) (by rw [size_push'] <;> exact Nat.lt_succ_of_lt hb)]
  exact Heap.get?_push_of_some _ e
end
/-- a text by its codes -/
abbrev tx (s : List Nat) : V := .str ⟨s.toArray⟩
theorem tx_cps (xs : List Str) : xs.map V.str = (xs.map fun x => x.cps.toList).map tx := by
  rw [List.map_map]
  exact List.map_congr_left fun x _ => by cases x <;> rfl
theorem cps_tx (xs : List (List Nat)) : xs.map tx = (xs.map fun x => (⟨x.toArray⟩ : Str)).map V.str := by
  rw [List.map_map] <;> rfl
theorem back_map {α β : Type} {f : α → β} {g : β → α} (h : ∀ x, g (f x) = x) : ∀ xs : List α, (xs.map f).map g = xs
  | [] => rfl
  | x :: xs => by rw [List.map_cons, List.map_cons, h, back_map h xs]
def Srted (ys xs : List (List Nat)) : Prop := ys.Perm xs ∧ ys.Pairwise fun x y => ¬ y < x
/-- sorted(a list) -/
def rSrtL (K : PySem.W.Frag) : List V → Hp → VK → Prop := fun vs H Q => ∃ (a : Addr) (xs : List (List Nat)), vs = [V.ref a] ∧ SqL K H a (xs.map tx) ∧ ∀ ys p, Srted ys xs → H p = none → Q (.ref p) (upd H p (.lst (ys.map tx)))
/-- a set that can be walked -/
def LotO (P : Program) (w : World) (a : Addr) (L : List Key) : HO := .ext fun h => Lot P w h a L
theorem lotO_ok {P : Program} {w : World} {H : Hp} {h : Heap} {a : Addr} {L : List Key} (z : Lot P w h a L) : ObjOk P w H h a (LotO P w a L) := by
  have ⟨o, _, _, _, q, _⟩ := z
  exact ⟨z, ⟨o, q⟩, fun h1 h2 p k => Lot.at p k⟩
section
variable {X : Cx}
theorem cr_srtL : CallR X (.builtin "sorted") (rSrtL X.K) := by
  intro pins s σ H vs us Q I r h
  obtain ⟨a, xs, rfl, hs, q⟩ := h
  obtain ⟨its, rv, hl, hz⟩ := I.list hs
  rw [Vals.ref1 r]
  rw [cps_tx] at rv
  have st := rv.strs
  refine SrtO.sorted_ord swo_cod hl.isList (by rw [← rv.length]; rw [List.length_map, List.length_map]; rw [List.length_map] at hz; exact hz) (fun h2 _ _ _ _ => strs_sortable st h2) fun out o b => ?_
  obtain ⟨ys, r1, r2, r3⟩ := strs_out st o b
  obtain ⟨n, hn⟩ := sortedAll_at s.heap its out.toArray
  rw [show (xs.map fun x => (⟨x.toArray⟩ : Str)).map (fun x => x.cps.toList) = xs from back_map (fun _ => rfl) xs] at r2
  have vo := vals_of_strs r1
  rw [tx_cps] at vo
  have few : ((ys.map fun x => x.cps.toList).map tx).length ≤ sizeLine := by
    rw [List.length_map, r2.length_eq]
    rw [List.length_map] at hz
    exact hz
  exact ⟨.ref _, upd H (s.heap.objs.size + 1) (.lst ((ys.map fun x => x.cps.toList).map tx)), I.laid (t' := s.toks) (fun _ _ => sortedAll_old) (Nat.le_succ _) ⟨few, out, n, vo, hn⟩, rfl, q _ _ ⟨r2, r3⟩ (I.hok.fresh (Nat.le_succ _))⟩
/-- sorted(a set of texts) -/
def rSrtS (P : Program) (w : World) : List V → Hp → VK → Prop := fun vs H Q => ∃ (a : Addr) (L : List Key) (xs : List (List Nat)), vs = [V.ref a] ∧ H a = some (LotO P w a L) ∧ L = xs.map (fun x => .inr ⟨x.toArray⟩) ∧
  ∀ ys p, Srted ys xs → H p = none → Q (.ref p) (upd H p (.lst (ys.map tx)))
theorem cr_srtS (calm : X.calm = true) : CallR X (.builtin "sorted") (rSrtS X.prog X.w) := by
  intro pins s σ H vs us Q I r h
  obtain ⟨a, L, xs, rfl, ha, rfl, q⟩ := h
  obtain ⟨o, es, n, t, ho, ex, dt, ow, tb⟩ := (I.hok a _ ha).1
  rw [Vals.ref1 r]
  have sz : es.size < scanBound := by rw [ow.size]; exact ow.few
  refine Calls.call_function_entry kind_sorted plain_sorted entry_sorted (args_sorted1 _) ?_
  unfold Builtin.«sorted»
  refine wpAny_bind (m := checkCount "sorted" 1 1 _) (wpAny_pure (wpAny_bind (collect_set (A := X.A.in1) (I.ok.hd calm) ⟨o, ho, ex.1, dt⟩ tb.fit sz tb.ris tb.led fun s1 us k1 z1 g1 o1 pm => ?_)))
  have pk : (us.map kof).Perm (xs.map fun x => (.inr ⟨x.toArray⟩ : Key)) := by
    have z := pm.map kof
    rw [List.map_map] at z
    exact z.trans ow.pm
  have us_str : ∀ v ∈ us, ∃ x t, v = Value.str x t := fun v m => by
    obtain ⟨e, me, rfl⟩ := List.mem_map.mp (pm.mem_iff.mp m)
    obtain ⟨⟨k, ik, _⟩, _⟩ := ow.el e me
    have kk := (kof_is ik).1
    have := ow.pm.mem_iff.mp (List.mem_map.mpr ⟨e, me, kk⟩)
    obtain ⟨x, _, ex⟩ := List.mem_map.mp this
    subst ex
    obtain ⟨t, et⟩ := kof_rel ik
    exact ⟨_, t, et⟩
  obtain ⟨zs, hz⟩ := all_strs us_str
  have lz : us.length ≤ sizeLine := by
    rw [pm.length_eq, List.length_map, Array.length_toList]
    exact fits_of_scanBound sz
  have cz : (zs.map fun x => x.cps.toList).Perm xs := by
    rw [← cod_of hz]
    have e1 : us.map cod = (us.map kof).map (fun k => match k with | .inr x => x.cps.toList | .inl _ => []) := by
      rw [List.map_map]
      refine List.map_congr_left fun v m => ?_
      obtain ⟨x, t, rfl⟩ := us_str v m
      rfl
    rw [e1]
    have := pk.map (fun k : Key => match k with | .inr x => x.cps.toList | .inl _ => ([] : List Nat))
    rw [show (xs.map fun x => (.inr ⟨x.toArray⟩ : Key)).map (fun k : Key => match k with | .inr x => x.cps.toList | .inl _ => ([] : List Nat)) = xs from back_map (fun _ => rfl) xs] at this
    exact this
  refine wpAny_bind (wpAny_newList ?_ lz)
  refine wpAny_bind (wpAny_holding (wpAny_mono (new_sorted (s := s1) (Q := fun v s2 => ∃ x H', Inv X pins σ H' s2 ∧ RelV x v ∧ Q x H') hz lz fun g out n ys k2 hg hy yp ys_s => ?_) (fun _ _ z => wpAny_pure ⟨_, rfl, z⟩) fun _ _ z => z))
  have few : ((ys.map fun x => x.cps.toList).map tx).length ≤ sizeLine := by
    have := yp.length_eq
    rw [List.length_map, List.length_map] at this
    rw [List.length_map, List.length_map, this, ← StrsAre.length hz]
    exact lz
  have vo := vals_of_strs hy
  rw [tx_cps] at vo
  have kk : ∀ b o, s.heap.get? b = some o → g.get? b = some o := fun b o e => k2 b o (k1 b o e)
  have hn : H s1.heap.objs.size = none := I.hok.fresh z1
  have J : Inv X pins σ (upd H s1.heap.objs.size (.lst ((ys.map fun x => x.cps.toList).map tx))) { s with heap := g, gens := s1.gens, drawn := s1.drawn, toks := s1.toks } :=
    I.call (ch := []) (Un.laid kk z1 hn) (I.hok.laid kk z1 ⟨few, out, n, vo, hg⟩) (by rw [g1]; exact I.bare) (fun _ z => nomatch z)
  have e : ({ s1 with heap := g } : Shared) = { s with heap := g, gens := s1.gens, drawn := s1.drawn, toks := s1.toks } := by
    cases s1
    cases s
    cases o1
    rfl
  rw [e]
  exact ⟨.ref _, _, J, rfl, q _ _ ⟨yp.trans cz, ys_s⟩ hn⟩
end
end Ks
/-! set comprehensions of ints and texts, of one clause -/
namespace Da
open PySem PySem.Spec L2 PyProof.Rows Ks
def actAdd (ex : Expr) (D : Addr) (env : Env) (more : Sem Fin) : Sem Fin := do
  (do
    let v ← eval ex env
    standAt ex.pos
    let _ ← call (.builtin "set.add") [.ref D, v])
  more
def tAddL (P : Program) (w : World) (D : Addr) (te : TE) : L2.St → Hp → (Hp → Prop) → Prop := fun σ H Q => te σ H fun y H1 => ∃ L k, y = kV k ∧ H1 D = some (LotO P w D L) ∧ L.length + 1 < scanBound ∧ Q (upd H1 D (LotO P w D (ins k L)))
theorem lot_addI {X : Cx} {pins : List (Addr × Obj)} {σ : L2.St} {H : Hp} {s : Shared} {E : Value → Shared → Prop} {D : Addr} {L : List Key} {k : Key} {v : Value} {Q : Value → Shared → Prop} (I : Inv X pins σ H s) (rv : RelV (kV k) v) (at_ : H D = some (LotO X.prog X.w D L)) (few : L.length + 1 < scanBound)
    (q : ∀ s', Inv X pins σ (upd H D (LotO X.prog X.w D (ins k L))) s' → Q .none s') : wpAny (model X.prog X.w) X.A (call (.builtin "set.add") [.ref D, v]) Q E s := by
  have z : Lot X.prog X.w s.heap D L := (I.hok D _ at_).1
  refine lot_add (kV_is rv) z few fun g sb lt => ?_
  have there : ∃ u, g.get? D = some u := by
    have ⟨o, _, _, _, q, _⟩ := lt
    exact ⟨o, q⟩
  exact q _ (I.write (e := D) (t' := s.toks + 1) (by rw [at_]; trivial) (.inl rfl) (fun b u hb hu => (sb.2 b hb).trans hu) there (lotO_ok lt))
theorem act_add {Y : Cx} {ex : Expr} {D : Addr} {te : TE} (mute : Y.xe = fun _ _ => False) (pe : PE Y ex te) : Act Y (actAdd ex D Y.env) [] (tAddL Y.prog Y.w D te) := .mk fun pins s σ H Q more R E I h cont => by
  have val := pe.run pins s σ H _ I h
  rw [mute] at val
  unfold actAdd
  apply wpAny_bind
  apply wpAny_bind
  refine thnF val ?_
  rintro v s1 ⟨y, H1, I1, r1, L, k, rfl, at_, few, q⟩
  apply wpAny_bind
  apply wpAny_standAt
  apply wpAny_bind
  exact lot_addI I1 r1 at_ few fun s2 I2 => wpAny_pure (cont s2 _ I2 q)
/-- {e for .. in ..} -/
def tScG (P : Program) (w : World) (wi : TI) (g : TG) (tt : TT) (t : Addr → L2.St → Hp → (Hp → Prop) → Prop) (vs : List Nat) : TE := fun σ H Q => wi σ H fun J H1 => ∀ D, H1 D = none → ∃ W : Nat → Nat → Hp → Prop, (∃ m, W 0 m (upd H1 D (LotO P w D []))) ∧ Over J g tt (t D) σ vs W (Q (.ref D))
section
variable {X : Cx}
theorem pe_scG {ex tg iter : Expr} {ifs : List Expr} {scope : Scope} {own : List (Str × Nat)} {pos : Pos} {wi : TI} {g : TG} {tt : TT} {te : TE}
    (calm : X.calm = true) (nd : X.N.Nodup) (pi : PI X tg iter wi) (ok : BlkOk X.N X.env.scope scope own)
    (pg : ∀ (s : Shared) (H : Hp) (C : Addr) (cl : List (Str × Addr)) (fp : List Addr), PG (X.blk s H scope (compEnvC scope cl C X.env) fp) tg g)
    (pt : ∀ (s : Shared) (H : Hp) (C : Addr) (cl : List (Str × Addr)) (fp : List Addr), PTs (X.blk s H scope (compEnvC scope cl C X.env) fp) ifs tt)
    (pe : ∀ (s : Shared) (H : Hp) (C : Addr) (cl : List (Str × Addr)) (fp : List Addr), PE (X.blk s H scope (compEnvC scope cl C X.env) fp) ex te)
    (fold : ∀ x, foldedSetIterable iter X.env x = pure x := by intro _; rfl) :
    PE X (.SetComp ex [⟨tg, iter, ifs, 0⟩] scope pos) (tScG X.prog X.w wi g tt (fun D => tAddL X.prog X.w D te) (own.map (·.2))) := .mk fun pins s σ H Q I h => by
  rw [PpSet.eval_SetComp]
  have bound : ∀ y ∈ scope.names, y.2 = .free → ∃ c, X.env.cells.lookup y.1 = some c := fun y hy f => (ok.free y hy f).elim (fun z => I.ok.has _ (.inl z)) fun z => I.ok.has _ (.inr z)
  refine wpAny_comprehension_free (use := none) rfl fold (closure_ok bound) ok.kind (fun y hy f => by rw [ok.uniq y hy, f]) (thn (pi.run pins s σ H _ I h) fun x s1 hx => thn hx ?_)
  rintro _ s2 ⟨it, fp, tn, J, H2, rfl, I2, T, st2, f2, q⟩
  refine PpSet.newSet_ok (newEnv_comp ?_)
  have fresh : H2 s2.heap.objs.size = none := I2.hok.fresh (Nat.le_refl _)
  obtain ⟨W, ⟨m0, w0⟩, over⟩ := q _ fresh
  -- the set is laid
  have I3 : Inv X pins σ (upd H2 s2.heap.objs.size (LotO X.prog X.w s2.heap.objs.size [])) { s2 with heap := s2.heap.push (bare X.w) } :=
    I2.laid (t' := s2.toks) (fun _ _ got => Heap.get?_push_of_some _ got) (Nat.le_refl _) (lotO_ok lot_bare)
  have below : ∀ b ∈ fp, b < s2.heap.objs.size := fun b hb => by
    obtain ⟨o, got, _⟩ := T.obj _ _ st2 b hb
    exact Heap.lt_size got
  have off : ∀ b ∈ fp, upd H2 s2.heap.objs.size (LotO X.prog X.w s2.heap.objs.size []) b = none := fun b hb => by
    rw [upd_ne (Nat.ne_of_lt (below b hb))]
    exact (f2 b hb).1
  generalize hs3 : ({ s2 with heap := s2.heap.push (bare X.w) } : Shared) = s3 at I3
  have grown : ∀ b o, s2.heap.get? b = some o → s3.heap.get? b = some o := fun b o got => by
    rw [← hs3]
    exact Heap.get?_push_of_some _ got
  have size : s3.heap.objs.size = s2.heap.objs.size + 1 := by
    rw [← hs3]
    exact Heap.size_push _ _
  generalize hD : s2.heap.objs.size = D at w0 over off I3 size below ⊢
  have far : ∀ b ∈ fp, FpOk X pins (upd H2 D (LotO X.prog X.w D [])) b ∧ b < s3.heap.objs.size := fun b hb => ⟨⟨off b hb, (f2 b hb).2⟩, by rw [size]; exact Nat.lt_succ_of_lt (below b hb)⟩
  have I4 := block_start I3 ok nd far
  generalize hH : upd H2 D (LotO X.prog X.w D []) = H3 at I3 I4 off w0 far
  have st3 : tn 0 (pushCells (s3.heap.push { cls := .type "dict", data := .dict #[] }) scope.names) := T.keep _ _ _ st2 fun b _ o got => pushCells_keeps _ _ _ _ (Heap.get?_push_of_some _ (grown b o got))
  letI : Da.Tbs := ⟨([], [])⟩
  have loop := clause_loop (Y := X.blk s3 H3 scope (compEnvC scope (cellsFrom (s3.heap.objs.size + 1) scope.names (cloFrom X.env.cells scope.names [])) s3.heap.objs.size X.env) fp) (W := W) (Done := Q (.ref D)) (σ := σ) (pins := []) (acc := .ref D) (k := 0) (e := .SetComp ex [⟨tg, iter, ifs, 0⟩] scope pos) (ip := iter.pos)
    calm rfl (pg s3 H3 _ _ fp) (pt s3 H3 _ _ fp) (act_add (D := D) rfl (pe s3 H3 _ _ fp)) (fun i hi => nomatch hi) T (by rfl) ⟨rfl, rfl⟩
    (fun H' s' I' none_ b hb => ⟨none_ b hb, (I'.ok.exf b hb).1, I'.ok.exfs b hb, .inl hb, fun x c got => (I'.ok.exf b hb).2 x c got, fun p hp => nomatch hp⟩) over I4 st3 off w0
  have out : codeAny (model X.prog X.w) X.A (.compLoop (.SetComp ex [⟨tg, iter, ifs, 0⟩] scope pos) 0 (.ref it) (.ref D) (compEnvC scope (cellsFrom (s3.heap.objs.size + 1) scope.names (cloFrom X.env.cells scope.names [])) s3.heap.objs.size X.env))
      (compPost (model X.prog X.w) X.A X.xe none (EP X pins σ Q) (.ref D) s3.heap.objs.size) { s3 with heap := pushCells (s3.heap.push { cls := .type "dict", data := .dict #[] }) scope.names } := by
    refine codeAny_mono loop fun r s' hr => ?_
    match r, hr with
    | .ok _, ⟨rfl, H5, I5, dn⟩ =>
      have back : Inv X pins σ H5 s' := I3.call' (ch := fp) I5.os I5.base I5.hok I5.bare fun b hb => ⟨(far b hb).1.2.2.2.1, (far b hb).1.2.1, (far b hb).1.2.2.2.2.1, (far b hb).1.2.2.2.2.2⟩
      have free : H5 s3.heap.objs.size = none := I5.free
      obtain ⟨m, ns, _⟩ := I5.loc
      obtain ⟨g0, g1, _, g3, g4, g5⟩ := I3.fpOk (Nat.le_refl _) free
      exact ⟨m, ns, fun h' same => ⟨.ref D, H5, back.turned (t' := s'.toks) (fun b o hb got => (same.2 b hb).trans got) g0 g1 g3 g4 g5, rfl, dn⟩⟩
  have go := PpSet.codeAny_compStart_set out (T.self X.A 0 _ _ _ st3 out)
  subst hs3
  subst hD
  exact go
end
end Da
/-! sorted({..}), told by data -/
namespace Da
open PySem L2 PyProof.Rows Ks
variable [Tbs]
/-! ### ascending lists of texts, each text once -/
def insA (x : List Nat) : List (List Nat) → List (List Nat)
  | [] => [x]
  | y :: l => if x < y then x :: y :: l else if x = y then y :: l else y :: insA x l
def asc (l : List (List Nat)) : List (List Nat) := l.foldr insA []
theorem lot_ne {P : Program} {w : World} {a : Addr} {L : List Key} : ∀ q, LotO P w a L ≠ LamX.CodeO a q := fun q => set_ne fun h ⟨o, es, n, t, h1, _, h2, _⟩ => ⟨o, es, n, t, h1, h2⟩
theorem insA_mem {x z : List Nat} : ∀ {l : List (List Nat)}, z ∈ insA x l ↔ z = x ∨ z ∈ l
  | [] => by simp [insA]
  | y :: l => by
    unfold insA
    split
    · simp
    · split
      · next e => rw [e]; simp
      · rw [List.mem_cons, insA_mem, List.mem_cons]
        constructor
        · rintro (h | h | h)
          · exact .inr (.inl h)
          · exact .inl h
          · exact .inr (.inr h)
        · rintro (h | h | h)
          · exact .inr (.inl h)
          · exact .inl h
          · exact .inr (.inr h)
theorem asc_mem {z : List Nat} : ∀ {l : List (List Nat)}, z ∈ asc l ↔ z ∈ l
  | [] => Iff.rfl
  | x :: l => by
    show z ∈ insA x (asc l) ↔ _
    rw [insA_mem, asc_mem, List.mem_cons]
theorem lt_cases (x y : List Nat) : x < y ∨ x = y ∨ y < x := by
  by_cases h : x < y
  · exact .inl h
  · by_cases h2 : y < x
    · exact .inr (.inr h2)
    · exact .inr (.inl (List.le_antisymm (List.not_lt.mp h2) (List.not_lt.mp h)))
theorem insA_up {x : List Nat} : ∀ {l : List (List Nat)}, l.Pairwise (· < ·) → (insA x l).Pairwise (· < ·)
  | [], _ => List.pairwise_singleton _ _
  | y :: l, h => by
    obtain ⟨h1, h2⟩ := List.pairwise_cons.mp h
    unfold insA
    split
    · next lt => exact List.pairwise_cons.mpr ⟨fun z hz => (List.mem_cons.mp hz).elim (fun e => e ▸ lt) fun m => List.lt_trans lt (h1 z m), h⟩
    · next nl =>
      split
      · exact h
      · next ne =>
        refine List.pairwise_cons.mpr ⟨fun z hz => ?_, insA_up h2⟩
        rcases insA_mem.mp hz with e | m
        · rcases lt_cases x y with q | q | q
          · exact absurd q nl
          · exact absurd q ne
          · exact e ▸ q
        · exact h1 z m
theorem asc_up : ∀ l : List (List Nat), (asc l).Pairwise (· < ·)
  | [] => .nil
  | _ :: l => insA_up (asc_up l)
/-- two ascending lists of the same texts are one -/
theorem up_one : ∀ {l m : List (List Nat)}, l.Pairwise (· < ·) → m.Pairwise (· < ·) → (∀ z, z ∈ l ↔ z ∈ m) → l = m
  | [], [], _, _, _ => rfl
  | [], y :: m, _, _, h => absurd ((h y).mpr List.mem_cons_self) (by simp)
  | x :: l, [], _, _, h => absurd ((h x).mp List.mem_cons_self) (by simp)
  | x :: l, y :: m, a, b, h => by
    obtain ⟨a1, a2⟩ := List.pairwise_cons.mp a
    obtain ⟨b1, b2⟩ := List.pairwise_cons.mp b
    have e : x = y := by
      rcases List.mem_cons.mp ((h x).mp List.mem_cons_self) with e | p
      · exact e
      · rcases List.mem_cons.mp ((h y).mpr List.mem_cons_self) with e | q
        · exact e.symm
        · exact absurd (List.lt_trans (a1 y q) (b1 x p)) (List.lt_irrefl _)
    subst e
    have irr : ∀ z, x < z → z ≠ x := fun z lt e => List.lt_irrefl _ (e ▸ lt : x < x)
    rw [up_one a2 b2 fun z => ⟨fun q => (List.mem_cons.mp ((h z).mp (List.mem_cons_of_mem _ q))).resolve_left (irr z (a1 z q)), fun q => (List.mem_cons.mp ((h z).mpr (List.mem_cons_of_mem _ q))).resolve_left (irr z (b1 z q))⟩]
theorem srted_asc {ys xs l : List (List Nat)} (s : Srted ys xs) (nd : xs.Nodup) (h : ∀ z, z ∈ xs ↔ z ∈ l) : ys = asc l := by
  obtain ⟨pm, up⟩ := s
  have ny := pm.nodup_iff.mpr nd
  refine up_one ?_ (asc_up l) fun z => by rw [pm.mem_iff, h, asc_mem]
  have both : ys.Pairwise fun x y => ¬ y < x ∧ x ≠ y := List.pairwise_and_iff.mpr ⟨up, ny⟩
  exact both.imp fun {x y} ⟨q1, q2⟩ => ((lt_cases x y).resolve_right fun z => z.elim q2 q1)
abbrev kx (s : List Nat) : Key := .inr ⟨s.toArray⟩
theorem kx_inj {s t : List Nat} (h : kx s = kx t) : s = t := mk_inj (Sum.inr.inj h)
open Classical in
noncomputable def insX (s : List Nat) (xs : List (List Nat)) : List (List Nat) := if s ∈ xs then xs else xs ++ [s]
theorem ins_kx {s : List Nat} {xs : List (List Nat)} : ins (kx s) (xs.map kx) = (insX s xs).map kx := by
  unfold ins insX
  by_cases h : s ∈ xs
  · rw [if_pos h, if_pos (List.mem_map.mpr ⟨s, h, rfl⟩)]
  · rw [if_neg h, if_neg (fun z => by
      obtain ⟨t, m, e⟩ := List.mem_map.mp z
      exact h (kx_inj e ▸ m)), List.map_append] <;> rfl
theorem insX_mem {s t : List Nat} {xs : List (List Nat)} : t ∈ insX s xs ↔ t ∈ xs ∨ t = s := by
  unfold insX
  split
  · next h => exact ⟨.inl, fun q => q.elim id fun e => e ▸ h⟩
  · simp
theorem insX_nd {s : List Nat} {xs : List (List Nat)} (n : xs.Nodup) : (insX s xs).Nodup := by
  unfold insX
  split
  · exact n
  · next h => exact List.nodup_append.mpr ⟨n, by simp, fun a m b mb e => h (by rw [List.mem_singleton.mp mb] at e; exact e ▸ m)⟩
theorem insX_len {s : List Nat} {xs : List (List Nat)} : (insX s xs).length ≤ xs.length + 1 := by
  unfold insX
  split
  · omega
  · simp
section
variable {P : Program} {w : World} {K : PySem.W.Frag} {E B : List Addr} {ss : List Sl} {o0 : Os} {m F : Bool} {te : TE}
/-- sorted({e for x in ..}): the texts f x, ascending, each once -/
theorem ev_srtSc {wi : TI} {j : Nat} {vs : List Nat} {ds : List D} (f : D → List Nat) (src : EvID K E B ss o0 wi ds) (hj : j ∈ vs) (few : ds.length ≤ 4000)
    (he : ∀ D x, x ∈ ds → Ev K (D :: E) B true ((wip ss vs).set j (.dat x)) o0 F te (fun d => d = .str (f x))) :
    Ev K E B m ss o0 true (tCB (rSrtS P w) (tCons (tScG P w wi (gName j) tYes (fun D => tAddL P w D te) vs) tNil)) (fun d => d = .lst ((asc (ds.map f)).map .str)) := fun Z os σ H io A Q q => by
  refine src Z os σ H io A _ fun J es H1 g it e => ?_
  subst e
  intro D nD
  have A1 := A.go g
  have nB : D ∉ B := fun z => by
    obtain ⟨l, _, w⟩ := A1.bag D z
    obtain ⟨_, _, _, _, e, _⟩ := w
    rw [nD] at e
    cases e
  have hz : ∀ z, z ∈ Z → D ∈ z.1 ∨ z.2 D = none := fun z hz => by
    by_cases ha : D ∈ z.1
    · exact .inl ha
    · refine .inr ?_
      match q : z.2 D with
      | none => rfl
      | some o =>
        exact absurd nD (A1.stp z hz D o ha q).2
  have off : ∀ a, a ∈ er m os E → a ≠ D := fun a ha z => by
    subst z
    cases m with
    | true =>
      rcases List.mem_append.mp ha with h | h
      · exact A1.tracked h nD
      · exact A1.ent a h nD
    | false => exact A1.ent a ha nD
  let st : Nat → Hp → Prop := fun i H => ∃ xs : List (List Nat), At K (D :: E) B Z ss os σ H ∧ Go B H1 H ∧ H D = some (LotO P w D (xs.map kx)) ∧ xs.Nodup ∧ xs.length ≤ i ∧ ∀ z, z ∈ xs ↔ z ∈ (es.take i).map f
  refine ⟨fun i k H => k = es.length - i ∧ i ≤ es.length ∧ st i H, ⟨es.length, by simp, Nat.zero_le _, [], A1.lay nD, Go.new nD, upd_same, List.nodup_nil, by simp, by simp⟩, ?_⟩
  rintro i k H2 ⟨rfl, hi, xs, A2, g2, hD, nd, lx, mx⟩
  obtain ⟨i1, i2, i3⟩ := it H2 fun a o n e t => g2.one (fun z => n (List.mem_append_right _ (A1.bE a z))) e t
  by_cases hlt : i < es.length
  · refine .inr ⟨i1 i hlt, st (i + 1), fun H2 h2 => ⟨es.length - (i + 1), by omega, rfl, hlt, h2⟩, fun x H3 y => ?_⟩
    obtain ⟨rfl, d, hd, rx⟩ := i3 i x H3 hlt y
    refine ⟨wipe_self hj, ?_⟩
    have rx2 : Rp K (era H3 (ads os ++ D :: E)) x d := rx.mono fun a o e t => by
      obtain ⟨na, e⟩ := era_some e
      have nDa : a ≠ D := ne_of_none e nD
      rw [era_in (fun z => by
        rcases List.mem_append.mp z with z | z
        · exact na (List.mem_append_left _ z)
        · rcases List.mem_cons.mp z with z | z
          · exact nDa z
          · exact na (List.mem_append_right _ z))]
      exact g2.one (fun z => na (List.mem_append_right _ (A1.bE a z))) e t
    apply yes_t
    have mem := List.mem_of_getElem? hd
    refine he D d mem Z os _ H3 io ((A2.wipe vs).set rx2) _ fun y e H4 g4 ry _ ey => ?_
    subst ey
    cases ry
    have hD4 : H4 D = some (LotO P w D (xs.map kx)) := g4.one nB hD trivial
    have tk : es.take (i + 1) = es.take i ++ [d] := by rw [List.take_succ, hd] <;> rfl
    refine ⟨xs.map kx, kx (f d), rfl, hD4, ?_, insX (f d) xs, ?_, (g2.trans g4).past nD (fun t => tabs_upd t hD4 trivial lot_ne), ?_, insX_nd nd, Nat.le_trans insX_len (by omega), fun z => ?_⟩
    · rw [List.length_map]
      show xs.length + 1 < 4096
      omega
    · exact (A2.go g4).writeO (fun xs z => by rw [hD4] at z; cases z) hz fun t => tabs_upd t hD4 trivial lot_ne
    · rw [upd_same, ins_kx]
    · rw [tk, List.map_append, List.mem_append, insX_mem, mx]
      simp
  · have e : i = es.length := by omega
    subst e
    rw [List.take_length] at mx
    refine .inl ⟨i2 _ (Nat.le_refl _), D, _, xs, rfl, hD, rfl, fun ys p sr np => ?_⟩
    have ey := srted_asc sr nd mx
    subst ey
    have rs : ∀ (H' : Hp) (l : List (List Nat)), RpAll K H' (l.map tx) (l.map Da.D.str) := fun H' l => by
      induction l with
      | nil => exact .nil
      | cons a l ih => exact .cons (.str a) ih
    have gg : Go B H1 (upd H2 p (.lst ((asc (es.map f)).map tx))) := g2.trans (Go.new np)
    have np1 : H1 p = none := g2.free A1.bag np
    have nR : p ∉ er m os E := fun z => by
      have := A2.go (B := B) Go.refl
      cases m with
      | true =>
        rcases List.mem_append.mp z with h | h
        · exact A1.tracked h np1
        · exact A1.ent p h np1
      | false => exact A1.ent p z np1
    refine q _ _ _ (g.trans gg) (.lst (xs := (asc (es.map f)).map tx) (by rw [era_in nR, upd_same]) (rs _ _)) (fun _ => ⟨p, _, _, rfl, rfl, g.free A.bag np1, upd_same, rs _ _⟩) rfl
end
end Da
set_option maxHeartbeats 4000000
/-! set(a list), its items ints and texts -/
namespace Ks
open PySem PySem.Spec PyProof.Rows L2
/-- the keys, each once -/
noncomputable def allK (ks : List Key) : List Key := ks.foldl (fun L k => ins k L) []
theorem allK_snoc (ks : List Key) (k : Key) : allK (ks ++ [k]) = ins k (allK ks) := by
  unfold allK
  rw [List.foldl_append] <;> rfl
theorem allK_facts : ∀ ks : List Key, (allK ks).Nodup ∧ (allK ks).length ≤ ks.length ∧ ∀ k, k ∈ allK ks ↔ k ∈ ks := fun ks => by
  have gen : ∀ (r : List Key), ∃ ks', ks' = r.reverse := fun r => ⟨_, rfl⟩
  have main : ∀ r : List Key, (allK r.reverse).Nodup ∧ (allK r.reverse).length ≤ r.length ∧ ∀ k, k ∈ allK r.reverse ↔ k ∈ r := fun r => by
    induction r with
    | nil => exact ⟨List.nodup_nil, Nat.le_refl _, fun k => Iff.rfl⟩
    | cons a r ih =>
      obtain ⟨h1, h2, h3⟩ := ih
      rw [List.reverse_cons, allK_snoc]
      refine ⟨ins_nodup h1, Nat.le_trans ins_len (by rw [List.length_cons]; omega), fun k => ?_⟩
      rw [ins_mem, h3, List.mem_cons]
      exact Or.comm
  have := main ks.reverse
  rw [List.reverse_reverse, List.length_reverse] at this
  exact ⟨this.1, this.2.1, fun k => (this.2.2 k).trans List.mem_reverse⟩
section
variable {P : Program} {w : World} {A : Around} {E : Value → Shared → Prop} {s : Shared}
/-- the loop of set.update over a walk whose items are keys -/
theorem upd_keys {I S : Addr} {fp wr : List Addr} {G : Array GenState → Array GenState → Prop} {n : Nat} {Pv : Nat → Value → Prop} {St : Nat → Shared → Prop} {R : Result → Shared → Prop} (W : WalksS P w A.in1 I fp wr G n Pv St) (off : S ∉ fp) (ks : List Key) (hn : n = ks.length)
    (room : ks.length + 1 < scanBound) (val : ∀ i v, Pv i v → ∃ k, ks[i]? = some k ∧ (mixKind P w).is k v = true) :
    ∀ (m i : Nat) (s : Shared), n - i = m → i ≤ n → St i s → Lot P w s.heap S (allK (ks.take i)) → (∀ s', Moved (S :: wr) G s s' → Lot P w s'.heap S (allK ks) → R (.ok (.ret .none)) s') → codeAny (model P w) A (.builtin "set.update.loop" ⟨[.ref S, .ref I], []⟩) R s := fun m => by
  have offw : S ∉ wr := fun h => off (W.sub _ h)
  have more : ∀ b ∈ wr, b ∈ S :: wr := fun b h => List.mem_cons_of_mem _ h
  induction m with
  | zero =>
    intro i s hm hi st z k
    obtain rfl : i = n := by omega
    apply codeAny_builtin F.entry_set_update_loop
    rw [Around.under_plainId F.plain_set_update_loop _]
    show wpAny _ A.in1 (pyNext (.ref I) >>= _) _ _ _
    apply wpAny_bind
    refine W.done s _ _ st fun s' mv => ?_
    rw [List.take_of_length_le (Nat.le_of_eq hn.symm)] at z
    exact wpAny_pure (k s' (mv.mono more) (z.at fun o e => mv.heap S o offw e))
  | succ m ih =>
    intro i s hm hi st z k
    have lt : i < n := by omega
    apply codeAny_builtin F.entry_set_update_loop
    rw [Around.under_plainId F.plain_set_update_loop _]
    show wpAny _ A.in1 (pyNext (.ref I) >>= _) _ _ _
    apply wpAny_bind
    refine W.item i s _ _ lt st fun v s' pv st' mv => ?_
    obtain ⟨x, hx, ix⟩ := val i v pv
    have z' : Lot P w s'.heap S (allK (ks.take i)) := z.at fun o e => mv.heap S o offw e
    show wpAny _ A.in1 (holding [v] (setAdd S v) >>= _) _ _ s'
    refine wpAny_bind (wpAny_holding ?_)
    unfold setAdd
    refine wpAny_holding (wpAny_bind ((mixKind P w).pyHash ix ?_))
    have lz := (allK_facts (ks.take i)).2.1
    rw [List.length_take] at lz
    refine lot_hashed (s := { s' with toks := s'.toks + 1 }) ix z' (by omega) fun b g sb lt2 => ?_
    have snoc : ks.take (i + 1) = ks.take i ++ [x] := by rw [List.take_add_one, hx] <;> rfl
    rw [← allK_snoc, ← snoc] at lt2
    refine wpAny_pure ⟨plainId_quiet F.plain_set_update_loop _, ih (i + 1) _ (by omega) lt (W.frame _ s' _ _ st' (Nat.le_succ _) fun b hb o e => ?_) lt2 fun s2 mv2 z2 => ?_⟩
    · exact (sb.2 b fun h => off (h ▸ hb)).trans e
    · refine k s2 (Moved.trans W.gtrans ((mv.mono more).then_heap (Nat.le_succ _) fun b o nb e => ?_) mv2) z2
      exact (sb.2 b fun h => nb (h ▸ List.mem_cons_self)).trans e
set_option maxHeartbeats 8000000 in
theorem call_setK {l : Addr} {items : Array Value} (ks : List Key) {Q : Value → Shared → Prop} (calm : A.handled = none) (il : s.heap.IsList l items) (len : items.size = ks.length) (is : ∀ (i : Nat) (v : Value), items[i]? = some v → ∃ k, ks[i]? = some k ∧ (mixKind P w).is k v = true) (room : ks.length + 1 < scanBound)
    (q : ∀ (g : Heap) (t : Nat), Lot P w g s.heap.objs.size (allK ks) → (∀ b o, s.heap.get? b = some o → g.get? b = some o) → Q (.ref s.heap.objs.size) { s with heap := g, toks := t }) :
    wpAny (model P w) A (call (.type "set") [.ref l]) Q E s := by
  obtain ⟨c, tl, mro⟩ := F.called_set.mro
  have f1 := F.called_set.made
  have f2 := F.called_set.sub
  refine wpAny_call (codeAny_of_tree ?_)
  show wpAny _ _ (callAny (.type "set") _) _ _ _
  refine wpAny_pure ⟨Code.quiet_builtin _ (by decide +kernel), codeAny_builtin F.entry_type_call ?_⟩
  rw [Around.under_plain (weight_type_call_type "set" [.ref l] []) rfl]
  have f3 := F.called_set.notType
  have f4 := F.called_set.canCreate
  have f5 := F.typeCall_set_1 (.ref l)
  repeat (any_goals (first | assumption | wp_step))
  generalize hB : (s.heap.push (bare w)) = hb at *
  have made : ∀ {B : Around} {Q1 : Value → Shared → Prop}, Q1 (.ref s.heap.objs.size) { s with heap := hb } → codeAny (model P w) B (.call (.builtin "set.__new__") ⟨[.type "set", .ref l], []⟩) (wants Q1 E) s := fun {B Q1} h => code_set_led1 (.ref l) (by rw [hB]; exact h)
  refine codeAny_mono (made (Q1 := fun o s1 => o = .ref s.heap.objs.size ∧ s1 = { s with heap := hb }) ⟨rfl, rfl⟩) fun r s1 hr => ?_
  match r, hr with
  | .error e, hr => exact hr
  | .ok (.ret obj), ⟨e1, e2⟩ =>
    subst e1; subst e2
    have oS : hb.get? s.heap.objs.size = some (bare w) := by rw [← hB]; exact Heap.get?_push_size _ rfl
    have tS : Shared.TypeIs { s with heap := hb } (.ref s.heap.objs.size) "set" := ⟨_, oS, rfl⟩
    have f6 := F.called_set.init.lookup
    have f7 := F.called_set.init.bind (.ref s.heap.objs.size)
    repeat (any_goals (first | assumption | wp_step))
    refine codeAny_mono (codeAny_call_builtin (R := wants (fun r s2 => r = .none ∧ ∃ g t, s2 = { s with heap := g, toks := t } ∧ Lot P w g s.heap.objs.size (allK ks) ∧ ∀ b o, s.heap.get? b = some o → g.get? b = some o) E) F.called_set.init.plain F.entry_set_init (check_set_init_1 tS ?_)) fun r2 s2 h2 => ?_
    · obtain ⟨⟨cl, di, da, sl⟩, ol, ocl, nl, oda⟩ := il
      simp only at ocl oda
      subst ocl; subst oda
      have up : ∀ {b o}, s.heap.get? b = some o → hb.get? b = some o := fun {b o} e => by rw [← hB]; exact Heap.get?_push_of_some _ e
      have ol1 := up ol
      have u1 := F.sub_list_set
      have u2 := F.sub_list_frozenset
      have u3 : (Value.type "list" == Value.type "dict") = false := by decide
      have il1 : hb.IsList l items := ⟨_, ol1, rfl, nl, rfl⟩
      unfold Builtin.«set.__init__» noKeywords Builtin.Frozenset.updateFrom
      generalize hPI : pyIter = PI
      wp_walk
      subst hPI
      refine wpAny_pyIter_list il1 (wpAny_bind (wpAny_runValue ?_))
      have lS : l < s.heap.objs.size := Heap.lt_size ol
      have sz : hb.objs.size = s.heap.objs.size + 1 := by rw [← hB]; exact Heap.size_push ..
      have c3 : A.in1.in1.in1.handled = none := by simp [calm]
      have offS : s.heap.objs.size ∉ [hb.objs.size, l] := fun m => by
        rw [sz] at m
        simp only [List.mem_cons, List.not_mem_nil, or_false] at m
        exact m.elim (fun e => absurd e (Nat.ne_of_lt (Nat.lt_succ_self _))) fun e => absurd e (Nat.ne_of_gt lS)
      refine upd_keys ((Walks.list c3 _ l (by rw [sz]; exact Nat.ne_of_lt (Nat.lt_succ_of_lt lS)) items).toS) offS ks len room is (items.size - 0) 0 _ (by omega) (Nat.zero_le _) ⟨⟨_, Heap.get?_push_size _ rfl, rfl, rfl⟩, il1.push _⟩ ?z0 fun s' mv z' => ?zR
      case z0 =>
        have e0 : allK (ks.take 0) = [] := rfl
        rw [e0]
        have := lot_bare (P := P) (w := w) (h := s.heap)
        rw [hB] at this
        exact this.at fun o e => Heap.get?_push_of_some _ e
      case zR =>
        obtain ⟨g, gs, dr, tk, os⟩ := s'
        obtain rfl : gs = s.gens := mv.gens
        obtain rfl : dr = s.drawn := mv.drawn
        obtain rfl : os = s.os := mv.os
        show wpAny _ _ _ _ _ _
        refine wpAny_pure ?_
        show wpAny _ _ (ret Value.none) _ _ _
        refine wpAny_pure ⟨rfl, g, tk, rfl, z', fun b o e => ?_⟩
        have hb0 := Heap.lt_size e
        refine mv.heap b o (fun m => ?_) (Heap.get?_push_of_some _ (up e))
        simp only [List.mem_cons, List.not_mem_nil, or_false] at m
        rcases m with m | m
        · exact absurd m (Nat.ne_of_lt hb0)
        · rw [sz] at m
          exact absurd m (Nat.ne_of_lt (Nat.lt_succ_of_lt hb0))
    · match r2, h2 with
      | .error e, h2 => exact h2
      | .ok (.ret r), ⟨e1, g, t, e2, z, kp⟩ =>
        subst e1; subst e2
        repeat (any_goals (first | assumption | wp_step))
        exact q g t z kp
end
section
variable {X : Cx}
/-- set(a list of texts) -/
def rSetL (K : PySem.W.Frag) (P : Program) (w : World) : List V → Hp → VK → Prop := fun vs H Q => ∃ (l : Addr) (xs : List (List Nat)), vs = [V.ref l] ∧ SqL K H l (xs.map tx) ∧ xs.length + 1 < scanBound ∧
  ∀ D, H D = none → Q (.ref D) (upd H D (LotO P w D (allK (xs.map fun x => .inr ⟨x.toArray⟩))))
theorem cr_setL (calm : X.calm = true) : CallR X (.type "set") (rSetL X.K X.prog X.w) := by
  intro pins s σ H vs us Q I r h
  obtain ⟨l, xs, rfl, hs, room, q⟩ := h
  obtain ⟨its, rv, hl, hz⟩ := I.list hs
  rw [Vals.ref1 r]
  rw [cps_tx] at rv
  have st := rv.strs
  have len : its.toArray.size = (xs.map fun x => (.inr ⟨x.toArray⟩ : Key)).length := by
    have := StrsAre.length st
    rw [List.length_map] at this
    rw [List.length_map, ← this, List.size_toArray]
  refine call_setK (P := X.prog) (w := X.w) (xs.map fun x => .inr ⟨x.toArray⟩) (I.ok.hd calm) hl.isList len (fun i v hv => ?_) (by rw [List.length_map]; exact room) fun g t z kp => ?_
  · rw [List.getElem?_toArray] at hv
    obtain ⟨x, t, e1, e2⟩ := StrsAre.item st i v hv
    refine ⟨.inr x, ?_, by rw [e1]; exact mixKind_str _ _ _ _⟩
    rw [List.getElem?_map] at e2 ⊢
    cases q1 : xs[i]? with
    | none => rw [q1] at e2; cases e2
    | some y => rw [q1] at e2; cases e2; rfl
  · have hn : H s.heap.objs.size = none := I.hok.fresh (Nat.le_refl _)
    exact ⟨.ref _, upd H s.heap.objs.size (LotO X.prog X.w s.heap.objs.size _), I.laid (t' := t) kp (Nat.le_refl _) (lotO_ok z), rfl, q _ hn⟩
end
end Ks
/-! sorted(..), set(..), len(set(..)) of lists of texts, told by data; dicts of constants -/
namespace Ks
open PySem PySem.Spec PyProof.Rows L2
/-- len(a set) -/
def rLenLot (P : Program) (w : World) : List V → Hp → VK → Prop := fun vs H Q => ∃ (a : Addr) (L : List Key), vs = [V.ref a] ∧ H a = some (LotO P w a L) ∧ Q (.int L.length) H
theorem cr_lenLot {X : Cx} : CallR X (.builtin "len") (rLenLot X.prog X.w) := by
  intro pins s σ H vs us Q I r h
  obtain ⟨a, L, rfl, ha, q⟩ := h
  obtain ⟨o, es, n, t, ho, ex, dt, ow, tb⟩ := (I.hok a _ ha).1
  rw [Vals.ref1 r]
  have sz : es.size < scanBound := by rw [ow.size]; exact ow.few
  have big : (es.size : Int) < 2 ^ 63 := by
    have : scanBound ≤ 2 ^ 62 := by decide
    omega
  refine call_len_set ho ex dt tb.fit big ⟨.int L.length, H, I.tok (s.toks + 1 + 1), ?_, q⟩
  rw [ow.size]
  exact ⟨s.toks + 1, rfl⟩
end Ks
namespace Da
open PySem L2 PyProof.Rows Ks
variable [Tbs]
section
variable {P : Program} {w : World} {K : PySem.W.Frag} {E B : List Addr} {ss : List Sl} {o0 : Os} {m F : Bool} {te : TE}
theorem rps_tx (H : Hp) : ∀ l : List (List Nat), RpAll K H (l.map tx) (l.map Da.D.str)
  | [] => .nil
  | a :: l => .cons (.str a) (rps_tx H l)
theorem rps_is {H : Hp} : ∀ {l : List (List Nat)} {xs : List V}, RpAll K H xs (l.map Da.D.str) → xs = l.map tx
  | [], _, .nil => rfl
  | _ :: _, _, .cons (.str _) r => by rw [List.map_cons, rps_is r] <;> rfl
/-- what a set of a list has -/
theorem allK_is (l : List (List Nat)) : ∃ xs : List (List Nat), allK (l.map kx) = xs.map kx ∧ xs.Nodup ∧ xs.length ≤ l.length ∧ ∀ z, z ∈ xs ↔ z ∈ l := by
  have gen : ∀ r : List (List Nat), ∃ xs : List (List Nat), allK (r.reverse.map kx) = xs.map kx ∧ xs.Nodup ∧ xs.length ≤ r.length ∧ ∀ z, z ∈ xs ↔ z ∈ r := fun r => by
    induction r with
    | nil => exact ⟨[], rfl, List.nodup_nil, Nat.le_refl _, fun z => Iff.rfl⟩
    | cons a r ih =>
      obtain ⟨xs, h1, h2, h3, h4⟩ := ih
      refine ⟨insX a xs, ?_, insX_nd h2, Nat.le_trans insX_len (by rw [List.length_cons]; omega), fun z => ?_⟩
      · rw [List.reverse_cons, List.map_append]
        show allK (r.reverse.map kx ++ [kx a]) = _
        rw [allK_snoc, h1, ins_kx]
      · rw [insX_mem, h4, List.mem_cons]
        exact Or.comm
  obtain ⟨xs, h1, h2, h3, h4⟩ := gen l.reverse
  rw [List.reverse_reverse] at h1
  rw [List.length_reverse] at h3
  exact ⟨xs, h1, h2, h3, fun z => (h4 z).trans List.mem_reverse⟩
/-- sorted(xs), what comes out as it was -/
theorem c_srtL {l : List (List Nat)} (up : l.Pairwise (· < ·)) : OpA K B (rSrtL K) [.lst (l.map .str)] true (fun d => d = .lst (l.map .str)) := fun R H vs A r Q q => by
  cases r with
  | cons r1 r =>
    cases r
    cases r1 with
    | lst h1 h2 =>
      have e := rps_is h2
      subst e
      refine ⟨_, l, rfl, .inl (.inl ((era_sub _ _) _ _ h1)), fun ys p sr np => ?_⟩
      have nd : l.Nodup := List.Pairwise.imp (S := (· ≠ ·)) (fun {a b} (h : a < b) (e : a = b) => List.lt_irrefl b (by rw [e] at h; exact h)) up
      have ey := srted_asc (l := l) sr nd fun z => Iff.rfl
      have el : asc l = l := up_one (asc_up l) up fun z => asc_mem
      rw [el] at ey
      subst ey
      exact q _ _ _ (Go.new np) (.lst (A.new np) (rps_tx _ _)) (fun _ => New.laid A np (rps_tx _ _)) rfl
/-- sorted(set(xs)) -/
theorem ev_srtSet {PL : D → Prop} {l : List (List Nat)} (h : EvD K E B m ss o0 te (.lst (l.map .str))) (few : l.length ≤ 4000) :
    Ev K E B m ss o0 true (tCB (rSrtS P w) (tCons (tCB (rSetL K P w) (tCons te tNil)) tNil)) (fun d => d = .lst ((asc l).map .str)) := fun Z os σ H io A Q q => by
  refine h Z os σ H io A _ fun v d H1 g r _ e => ?_
  subst e
  cases r with
  | lst h1 h2 =>
    have e := rps_is h2
    subst e
    refine ⟨_, l, rfl, .inl (.inl ((era_sub _ _) _ _ h1)), by show l.length + 1 < 4096; omega, fun D nD => ?_⟩
    obtain ⟨xs, e1, e2, e3, e4⟩ := allK_is l
    refine ⟨D, _, xs, rfl, upd_same, e1, fun ys p sr np => ?_⟩
    have ey := srted_asc sr e2 e4
    subst ey
    have A1 := (A.rg m).go g
    have A2 := A1.go (B := B) (Go.new (o := LotO P w D (allK (l.map kx))) nD)
    exact q _ _ _ ((g.trans (Go.new nD)).trans (Go.new np)) (.lst (A2.new np) (rps_tx _ _)) (fun _ => ((New.laid A2 np (rps_tx _ _)).back (g.trans (Go.new nD)) A.bag)) rfl
/-- len(set(xs)), xs without repeats -/
theorem ev_lenSet {l : List (List Nat)} (h : EvD K E B m ss o0 te (.lst (l.map .str))) (few : l.length ≤ 4000) (nd : l.Nodup) :
    EvD K E B m ss o0 (tCB (rLenLot P w) (tCons (tCB (rSetL K P w) (tCons te tNil)) tNil)) (.int l.length) := fun Z os σ H io A Q q => by
  refine h Z os σ H io A _ fun v d H1 g r _ e => ?_
  subst e
  cases r with
  | lst h1 h2 =>
    have e := rps_is h2
    subst e
    refine ⟨_, l, rfl, .inl (.inl ((era_sub _ _) _ _ h1)), by show l.length + 1 < 4096; omega, fun D nD => ?_⟩
    obtain ⟨xs, e1, e2, e3, e4⟩ := allK_is l
    have len : (allK (l.map kx)).length = l.length := by
      have pm : xs.Perm l := (List.perm_ext_iff_of_nodup e2 nd).mpr e4
      rw [e1, List.length_map, pm.length_eq]
    refine ⟨D, _, rfl, upd_same, ?_⟩
    exact q _ (.int _) _ (g.trans (Go.new nD)) (.int _) (fun z => absurd z (by simp)) (by rw [len])
/-- a dict of constants -/
theorem ev_dicC {trs : List (TE × TE)} (l : List (Key × V × D)) (e : trs = l.map fun x => (tC (kV x.1), tC x.2.1)) (r : ∀ x ∈ l, ∀ H, Rp K H x.2.1 x.2.2) (few : l.length ≤ 15) (mg : mergeK [] (l.map fun x => (x.1, x.2.1)) = l.map fun x => (x.1, x.2.1)) :
    Ev K E B m ss o0 false (tDisp trs) (fun d => d = .dic (l.map fun x => (x.1, x.2.2))) := fun Z os σ H i A Q q p hp => by
  subst e
  have gen : ∀ (l : List (Key × V × D)) (H : Hp) (C : List (V × V) → Hp → Prop), C (l.map fun x => (kV x.1, x.2.1)) H → tPairs (l.map fun x => (tC (kV x.1), tC x.2.1)) σ H C := fun l => by
    induction l with
    | nil => exact fun H C h => h
    | cons a l ih => exact fun H C h => ih H _ h
  refine gen l _ _ ⟨upd_same, l.map fun x => (x.1, x.2.1), by rw [List.map_map] <;> rfl, by rw [List.length_map]; exact few, ?_⟩
  rw [upd_upd, mg]
  have rp : ∀ (H : Hp) (l : List (Key × V × D)), (∀ x ∈ l, ∀ H, Rp K H x.2.1 x.2.2) → RpKv K H (l.map fun x => (x.1, x.2.1)) (l.map fun x => (x.1, x.2.2)) := fun H l => by
    induction l with
    | nil => exact fun _ => .nil
    | cons a l ih => exact fun h => .cons (h a List.mem_cons_self H) (ih fun x hx => h x (List.mem_cons_of_mem _ hx))
  exact q _ _ _ (.new hp) (.dic ((A.rg m).new hp) (rp _ l r)) (fun z => absurd z (by simp)) rfl
end
end Da
namespace Da
open PySem L2 PyProof.Rows Ks
variable [Tbs]
section
variable {K : PySem.W.Frag} {E B : List Addr} {ss : List Sl} {o0 : Os}
/-- an owned list, looked at as data by a test -/
theorem et_frz {i : Nat} {p : Addr} {ds : List Da.D} {t : TT} {P : Bool → Prop} (hi : ss[i]? = some (Sl.own p)) (ho : (p, OD.lst ds) ∈ o0) (h : EvT K E B (ss.set i (.dat (.lst ds))) [] t P) : EvT K E B ss o0 t P := fun Z os σ H io A Q q => by
  obtain ⟨l1, l2, e⟩ := List.append_of_mem (io _ ho)
  have A2 := (A.perm (os' := (p, OD.lst ds) :: (l1 ++ l2)) (by rw [e]; exact List.perm_middle.symm)).freeze hi
  exact h Z _ σ H (fun _ z => nomatch z) A2 Q q
end
end Da
/-! sum(a list of lists, []); sorted(a dict of texts) -/
namespace Ks
open PySem PySem.Spec PyProof.Rows L2
theorem args_sum2 (a b : Value) : argsOk "sum" ⟨[a, b], []⟩ := by unfold argsOk; kernel_rfl
abbrev lsO (xs : List Value) (k : Nat) : Obj := { cls := .type "list", data := .seq xs.toArray k }
section
variable {prog : Program} {w : World} {A : Around} {E : Value → Shared → Prop} {s : Shared}
/-- the turns of sum over a walk of lists: the total is laid anew at each -/
theorem sum_go {R : Result → Shared → Prop} {I S : Addr} {fp wr : List Addr} {n : Nat} {Pv : Nat → Value → Prop} {St : Nat → Heap → Prop} {h0 : Heap} (W : Walks prog w A.in1 I fp wr n Pv St) (its : List (Addr × List Value)) (hn : n = its.length)
    (val : ∀ i v, Pv i v → ∃ p, its[i]? = some p ∧ v = .ref p.1) (below : ∀ b ∈ fp, b < S) (old : h0.objs.size ≤ S) (hw : ∀ b ∈ wr, h0.get? b = none) (lay : ∀ p ∈ its, ∃ k, h0.get? p.1 = some (lsO p.2 k)) (small : (its.flatMap (·.2)).length ≤ sizeLine) :
    ∀ (m i : Nat) (s : Shared) (a : Addr) (c : Nat), n - i = m → i ≤ n → St i s.heap → s.heap.get? S = some (lsO [.ref a] c) → (∀ b o, h0.get? b = some o → s.heap.get? b = some o) → (∃ k, s.heap.get? a = some (lsO ((its.take i).flatMap (·.2)) k)) → (0 < i → S < a) → (i = 0 → a < S ∧ a ∉ wr) →
      (∀ (g : Heap) (tk : Nat) (b : Addr), (∀ b o, h0.get? b = some o → g.get? b = some o) → (∃ k, g.get? b = some (lsO (its.flatMap (·.2)) k)) → (0 < n → S < b) → R (.ok (.ret (.ref b))) { s with heap := g, toks := tk }) →
      codeAny (model prog w) A (.builtin "sum.loop" ⟨[.ref I, .ref S, rawInt 2, rawInt 0], []⟩) R s := fun m => by
  have offw : S ∉ wr := fun h => Nat.lt_irrefl _ (below _ (W.sub _ h))
  have oldw : ∀ b o, h0.get? b = some o → b ∉ wr := fun b o e h => by rw [hw b h] at e; cases e
  induction m with
  | zero =>
    intro i s a c hm hi st hS kp ⟨k, ha⟩ up lo q
    obtain rfl : i = n := by omega
    apply codeAny_builtin F.entry_sum_loop
    rw [Around.under_plainId F.plain_sum_loop _]
    show wpAny _ A.in1 (seqItems? (.ref S) >>= _) _ _ s
    refine wpAny_bind (wpAny_seqItems hS rfl ?_)
    show wpAny _ A.in1 (tryCatch (pyNext (.ref I)) _ >>= _) _ _ s
    refine wpAny_bind (wpAny_tryCatch (W.done s _ _ st fun g tk kg => ?_))
    have all : its.take i = its := List.take_of_length_le (by omega)
    rw [all] at ha
    have na : a ∉ wr := by
      rcases Nat.eq_zero_or_pos i with z | z
      · exact (lo z).2
      · exact fun h => absurd (below _ (W.sub _ h)) (Nat.not_lt_of_gt (up z))
    exact wpAny_pure (q g tk a (fun b o e => kg b o (oldw b o e) (kp b o e)) ⟨k, kg a _ na ha⟩ up)
  | succ m ih =>
    intro i s a c hm hi st hS kp ⟨k, ha⟩ up lo q
    have lt : i < n := by omega
    apply codeAny_builtin F.entry_sum_loop
    rw [Around.under_plainId F.plain_sum_loop _]
    show wpAny _ A.in1 (seqItems? (.ref S) >>= _) _ _ s
    refine wpAny_bind (wpAny_seqItems hS rfl ?_)
    show wpAny _ A.in1 (tryCatch (pyNext (.ref I)) _ >>= _) _ _ s
    refine wpAny_bind (wpAny_tryCatch (W.item i s _ _ lt st fun v g tk pv st' kg => ?_))
    obtain ⟨p, hp, rfl⟩ := val i v pv
    have na : a ∉ wr := by
      rcases Nat.eq_zero_or_pos i with z | z
      · exact (lo z).2
      · exact fun h => absurd (below _ (W.sub _ h)) (Nat.not_lt_of_gt (up z))
    have ha2 := kg a _ na ha
    obtain ⟨k2, hp1⟩ := lay p (List.mem_of_getElem? hp)
    have hp2 := kg p.1 _ (oldw _ _ hp1) (kp _ _ hp1)
    have snoc : its.take (i + 1) = its.take i ++ [p] := by rw [List.take_add_one, hp] <;> rfl
    have joined : (its.take (i + 1)).flatMap (·.2) = (its.take i).flatMap (·.2) ++ p.2 := by rw [snoc, List.flatMap_append] <;> simp
    have len : ((its.take (i + 1)).flatMap (·.2)).length ≤ sizeLine := by
      have e : its.flatMap (·.2) = (its.take (i + 1)).flatMap (·.2) ++ (its.drop (i + 1)).flatMap (·.2) := by rw [← List.flatMap_append, List.take_append_drop]
      rw [e, List.length_append] at small
      omega
    show wpAny _ A.in1 ((holding [Value.ref p.1] (binaryOp .Add (.ref a) (.ref p.1))).attempt >>= _) _ _ _
    refine wpAny_bind (wpAny_attempt (wpAny_holding (PySem.P.add_list (s := { s with heap := g, toks := tk }) ha2 hp2 ?_ (by rw [List.size_toArray, List.size_toArray, ← List.length_append, ← joined]; exact len))))
    have eS := kg S _ offw hS
    have big : S < g.objs.size := Heap.lt_size eS
    have ca : ((its.take i).flatMap (·.2)).toArray ++ p.2.toArray = ((its.take (i + 1)).flatMap (·.2)).toArray := by rw [joined]; simp
    rw [ca]
    generalize hg2 : g.push { cls := .type "list", data := .seq ((its.take (i + 1)).flatMap (·.2)).toArray } = g2
    have up2 : ∀ b o, g.get? b = some o → g2.get? b = some o := fun b o e => by rw [← hg2]; exact Heap.get?_push_of_some _ e
    have at2 : g2.get? g.objs.size = some (lsO ((its.take (i + 1)).flatMap (·.2)) 0) := by rw [← hg2]; exact Heap.get?_push_size _ rfl
    have eS2 := up2 _ _ eS
    show wpAny _ A.in1 (updateSeq S (fun _ => #[Value.ref g.objs.size]) >>= _) _ _ _
    refine wpAny_bind (wpAny_updateSeq eS2 rfl ?_)
    have eS3 := Heap.get?_update_self (Obj.mapSeq fun _ => #[Value.ref g.objs.size]) eS2 rfl
    refine wpAny_bind (wpAny_letGo (wpAny_bind (wpAny_updateSeq eS3 rfl ?_)))
    have ne : ∀ {b}, b ≠ S → ∀ o, g2.get? b = some o → ((g2.update S (Obj.mapSeq fun _ => #[Value.ref g.objs.size])).update S (Obj.mapSeq fun _ => #[Value.ref g.objs.size])).get? b = some o := fun {b} h o e => (Heap.get?_update_other _ _ (Ne.symm h)).trans ((Heap.get?_update_other _ _ (Ne.symm h)).trans e)
    refine wpAny_pure ⟨plainId_quiet F.plain_sum_loop _, ih (i + 1) _ g.objs.size _ (by omega) lt (W.frame _ _ _ st' fun b hb o e => ne (fun z => Nat.lt_irrefl _ (z ▸ below b hb)) o (up2 b o e)) (Heap.get?_update_self _ eS3 rfl) (fun b o e => ?_) ⟨0, ne (Nat.ne_of_gt big) _ at2⟩ (fun _ => big) (fun z => absurd z (Nat.succ_ne_zero i)) fun g' tk' b' h1 h2 h3 => q g' tk' b' h1 h2 h3⟩
    have hb := Heap.lt_size e
    exact ne (Nat.ne_of_lt (Nat.lt_of_lt_of_le hb old)) o (up2 b o (kg b o (oldw b o e) (kp b o e)))
/-- sum(a list of lists, an empty list) -/
theorem call_sumL {l e : Addr} {its : List (Addr × List Value)} {ke : Nat} {Q : Value → Shared → Prop} (calm : A.handled = none) (hl : s.heap.IsList l (its.map fun p => Value.ref p.1).toArray) (he : s.heap.get? e = some (lsO [] ke)) (lay : ∀ p ∈ its, ∃ k, s.heap.get? p.1 = some (lsO p.2 k))
    (small : (its.flatMap (·.2)).length ≤ sizeLine) (some_ : its ≠ [])
    (q : ∀ (g : Heap) (tk : Nat) (b : Addr), (∀ b o, s.heap.get? b = some o → g.get? b = some o) → (∃ k, g.get? b = some (lsO (its.flatMap (·.2)) k)) → s.heap.objs.size ≤ b → Q (.ref b) { s with heap := g, toks := tk }) :
    wpAny (model prog w) A (call (.builtin "sum") [.ref l, .ref e]) Q E s := by
  refine call_function_tree F.kind_sum F.plain_sum F.entry_sum (args_sum2 _ _) ?_
  unfold Builtin.«sum»
  simp only [List.length_cons, List.length_nil]
  rw [if_neg (by decide)]
  refine wpAny_bind (wpAny_of_eq (show Builtin.Builtins.bindParams "sum" ["start"] 0 ⟨[Value.ref e], []⟩ = pure [some (Value.ref e)] from rfl) ?_)
  refine wpAny_bind (wpAny_pyIter_list hl ?_)
  have te : ∀ {h : Heap} {t : Nat}, h.get? e = some (lsO [] ke) → Shared.TypeIs { s with heap := h, toks := t } (.ref e) "list" := fun h => ⟨_, h, rfl⟩
  have e1 : (s.heap.push { cls := .type "list_iterator", data := .fields #[.ref l, .int 0 0] }).get? e = some (lsO [] ke) := Heap.get?_push_of_some _ he
  generalize hg : s.heap.push { cls := .type "list_iterator", data := .fields #[.ref l, .int 0 0] } = g at e1 ⊢
  have zg : g.objs.size = s.heap.objs.size + 1 := by rw [← hg]; exact Heap.size_push _ _
  refine wpAny_bind (wpAny_pure ?_)
  simp only [List.forIn_cons, List.forIn_nil]
  refine wpAny_bind (wpAny_bind (wpAny_bind (wpAny_isInstance (b := false) (te e1) PySem.F.sub_list_str ?_)))
  simp only [Bool.false_eq_true, if_false]
  refine wpAny_pure (wpAny_bind (wpAny_bind (wpAny_isInstance (b := false) (te e1) PySem.F.sub_list_bytes ?_)))
  simp only [Bool.false_eq_true, if_false]
  refine wpAny_pure (wpAny_bind (wpAny_bind (wpAny_isInstance (b := false) (te e1) PySem.F.sub_list_bytearray ?_)))
  simp only [Bool.false_eq_true, if_false]
  refine wpAny_pure (wpAny_pure (wpAny_bind (wpAny_newObj_type ?_)))
  have pos : 0 < its.length := List.length_pos_iff.mpr some_
  have ll : l < s.heap.objs.size := by
    obtain ⟨o, ho, _⟩ := hl
    exact Heap.lt_size ho
  have kp : ∀ b o, s.heap.get? b = some o → g.get? b = some o := fun b o z => by rw [← hg]; exact Heap.get?_push_of_some _ z
  have W := Walks.list (prog := prog) (w := w) (A := A.in1) calm s.heap.objs.size l (Nat.ne_of_lt ll) (its.map fun p => Value.ref p.1).toArray
  have st0 : g.get? s.heap.objs.size = some { cls := .type "list_iterator", data := .fields #[.ref l, .int 0 0] } := by rw [← hg]; exact Heap.get?_push_size _ rfl
  have el : e < s.heap.objs.size := Heap.lt_size he
  have big : s.heap.objs.size < g.objs.size := by rw [zg]; exact Nat.lt_succ_self _
  refine wpAny_pure ⟨plainId_quiet F.plain_sum_loop _, sum_go (S := g.objs.size) (h0 := s.heap) W its (by simp) (fun i v hv => ?_) (fun b hb => ?_) (Nat.le_of_lt big) (fun b hb => ?_) lay small _ 0 _ e _ rfl (Nat.zero_le _)
    (W.frame 0 g _ ⟨⟨_, st0, rfl, rfl⟩, ?_⟩ fun b _ o z => Heap.get?_push_of_some _ z) (Heap.get?_push_size _ rfl) (fun b o z => Heap.get?_push_of_some _ (kp b o z)) ⟨ke, Heap.get?_push_of_some _ e1⟩ (fun z => absurd z (Nat.lt_irrefl _)) (fun _ => ⟨Nat.lt_trans el big, fun m => ?_⟩) fun h' tk b h1 h2 h3 => ?_⟩
  · have hv : (its.map fun p => Value.ref p.1).toArray[i]? = some v := hv
    rw [List.getElem?_toArray, List.getElem?_map] at hv
    cases z : its[i]? with
    | none => rw [z] at hv; cases hv
    | some p => rw [z] at hv; exact ⟨p, rfl, (Option.some.inj hv).symm⟩
  · simp only [List.mem_cons, List.not_mem_nil, or_false] at hb
    rcases hb with hb | hb
    · rw [hb]; exact big
    · rw [hb]; exact Nat.lt_trans ll big
  · rw [List.mem_singleton.mp hb]
    cases z : s.heap.get? s.heap.objs.size with
    | none => rfl
    | some o => exact absurd (Heap.lt_size z) (Nat.lt_irrefl _)
  · obtain ⟨o, ho, r⟩ := hl
    exact ⟨o, kp _ _ ho, r⟩
  · rw [List.mem_singleton.mp m] at el
    exact Nat.lt_irrefl _ el
  · exact q h' tk b h1 h2 (Nat.le_of_lt (Nat.lt_trans big (h3 (by simpa using pos))))
end
section
variable {X : Cx}
/-- sum(a list of lists, []) -/
def rSumL (K : PySem.W.Frag) : List V → Hp → VK → Prop := fun vs H Q => ∃ (l e : Addr) (xss : List (Addr × List V)), vs = [V.ref l, V.ref e] ∧ SqL K H l (xss.map fun p => V.ref p.1) ∧ H e = some (.lst []) ∧ (∀ p ∈ xss, H p.1 = some (.lst p.2)) ∧ xss ≠ [] ∧ (xss.flatMap (·.2)).length ≤ sizeLine ∧
  ∀ p, H p = none → Q (.ref p) (upd H p (.lst (xss.flatMap (·.2))))
theorem lists_at {pins : List (Addr × Obj)} {s : Shared} {σ : L2.St} {H : Hp} (I : Inv X pins σ H s) : ∀ (xss : List (Addr × List V)), (∀ p ∈ xss, H p.1 = some (.lst p.2)) → ∃ its : List (Addr × List Value), its.map (·.1) = xss.map (·.1) ∧ (∀ p ∈ its, ∃ k, s.heap.get? p.1 = some (lsO p.2 k)) ∧ Vals (xss.flatMap (·.2)) (its.flatMap (·.2))
  | [], _ => ⟨[], rfl, fun p h => by simp at h, .nil⟩
  | x :: xss, h => by
    obtain ⟨its, e1, e2, e3⟩ := lists_at I xss fun p hp => h p (List.mem_cons_of_mem _ hp)
    obtain ⟨_, vs, n, r, _, e⟩ := I.lstM (h x List.mem_cons_self)
    refine ⟨(x.1, vs) :: its, by rw [List.map_cons, List.map_cons, e1], fun p hp => ?_, ?_⟩
    · rcases List.mem_cons.mp hp with hp | hp
      · rw [hp]; exact ⟨n, e⟩
      · exact e2 p hp
    · rw [List.flatMap_cons, List.flatMap_cons]
      exact r.append e3
theorem cr_sumL (calm : X.calm = true) : CallR X (.builtin "sum") (rSumL X.K) := by
  intro pins s σ H vs us Q I r h
  obtain ⟨l, e, xss, rfl, hl, he, hx, ne, small, q⟩ := h
  cases r with
  | cons r1 r =>
    cases r with
    | cons r2 r =>
      cases r; cases r1; cases r2
      obtain ⟨vl, rv, pl, _⟩ := I.list hl
      obtain ⟨_, ve, ke, re, _, ee⟩ := I.lstM he
      cases re
      obtain ⟨its, e1, e2, e3⟩ := lists_at I xss hx
      have evl : vl = its.map fun p => Value.ref p.1 := by
        have z : vl = (xss.map (·.1)).map Value.ref := by
          have := L2.refs_of_vals (ks := xss.map fun p => (p.1, ([] : List Int))) (by rw [List.map_map]; exact rv)
          rw [this, List.map_map, List.map_map] <;> rfl
        rw [z, ← e1, List.map_map] <;> rfl
      subst evl
      refine call_sumL (I.ok.hd calm) pl.isList ee e2 (by rw [← e3.length]; exact small) (fun z => ne ?_) fun g tk b kp ⟨k, hb⟩ lb => ?_
      · rw [z] at e1
        exact List.map_eq_nil_iff.mp e1.symm
      · have hn := I.hok.fresh lb
        exact ⟨.ref b, upd H b (.lst (xss.flatMap (·.2))), I.laid (t' := tk) kp lb ⟨small, its.flatMap (·.2), k, e3, hb⟩, rfl, q b hn⟩
end
end Ks
/-! ''.join(reversed(list(text))); text.find(text, 1) -/
namespace Da
open PySem PySem.Spec PyProof.Rows L2 PySem.Calls Builtin.Str RT
variable [Tbs]
theorem strs_of : ∀ (L : List Value) (ys : List Str), L.length = ys.length → (∀ (i : Nat) (v : Value), L[i]? = some v → ∃ (y : Str) (t : Tok), ys[i]? = some y ∧ v = Value.str y t) → StrsAre L ys
  | [], [], _, _ => StrsAre.nil
  | [], _ :: _, z, _ => by simp at z
  | _ :: _, [], z, _ => by simp at z
  | v :: L, y :: ys, z, h => by
    obtain ⟨y', t, e, rfl⟩ := h 0 v rfl
    cases Option.some.inj e
    exact StrsAre.cons y t (strs_of L ys (by simpa using z) fun i v' hv => h (i + 1) v' (by simpa using hv))
theorem signs_rev {x : Str} {items acc : Array Value} (h : ItemsOf (SignAt x) items x.cps.size) (g : ItemsOf (fun i v => items[items.size - 1 - i]? = some v) acc items.size) : StrsAre acc.toList (x.cps.toList.reverse.map fun c => (mk [c] : Str)) := by
  refine strs_of _ _ (by rw [Array.length_toList, g.1, h.1, List.length_map, List.length_reverse, Array.length_toList]) fun i v hv => ?_
  have hi : i < x.cps.size := by
    have := (List.getElem?_eq_some_iff.mp hv).1
    rwa [Array.length_toList, g.1, h.1] at this
  obtain ⟨c, u, hc, rfl⟩ := h.2 _ _ (g.2 i v (by rw [← Array.getElem?_toList]; exact hv))
  refine ⟨mk [c], u, ?_, rfl⟩
  rw [List.getElem?_map, List.getElem?_reverse (by rw [Array.length_toList]; exact hi), Array.length_toList, Array.getElem?_toList, ← h.1, hc] <;> rfl
section
variable {prog : Program} {w : World} {A : Around} {E : Value → Shared → Prop} {s : Shared}
/-- sep.join(reversed(a list of texts)) -/
theorem join_rev {x : Str} {t : Tok} {it l : Addr} {items : Array Value} {ys : List Str} {Q : Value → Shared → Prop} (hh : A.handled = none) (hit : s.heap.IsRevIter it l ((items.size : Int) - 1)) (hl : s.heap.IsList l items) (hne : l ≠ it) (hn : items.size ≤ sizeLine)
    (hP : ∀ acc : Array Value, ItemsOf (fun i v => items[items.size - 1 - i]? = some v) acc items.size → StrsAre acc.toList ys) (few : (ys.map (·.length)).sum + ys.length * x.length ≤ 16777216)
    (hq : ∀ h' tk t', (∀ b o, b ≠ it → s.heap.get? b = some o → h'.get? b = some o) → Q (.str (Txt.join x ys) t') { s with heap := h', toks := tk }) :
    wpAny (model prog w) A (call (.builtin "str.join") [.str x t, .ref it]) Q E s := by
  refine wpAny_call (codeAny_call_builtin F.slot_str_join.plain F.entry_str_join (F.slot_str_join.check _ _ _ _ _ _ _ _ (typeIs_str _ _ _) (F.args_str_join_2 _ _) ?_))
  rw [join_tree_other]
  refine wpAny_bind (wpAny_typeOf hit.typeIs ?_)
  show wpAny _ A.in1 ((pyIter (.ref it)).tryCatch _ >>= fun i => collect i >>= fun vs => joinTail x vs) _ _ s
  refine wpAny_bind (wpAny_tryCatch (wpAny_pyIter_revIter hit ?_))
  refine wpAny_bind (collect_rev (A := A.in1) hh hit hl hne hn fun h' tk acc hk hacc => ?_)
  obtain ⟨ps, e, rfl⟩ := strsAre_values (hP acc hacc)
  rw [e]
  have small := joinOk_of few
  unfold JoinOk at small
  rw [Bool.not_eq_true'] at small
  have g : Gives (joinTail x (strValues ps)) (joinMade x ps) := by
    have g0 := gives_joinTail x ps small
    rcases ps with _ | ⟨p, _ | ⟨q, r⟩⟩ <;> exact g0
  exact g prog w A (wants Q E) _ (post_join ps ⟨joinFit_length small, fun t' k => hq _ k t' hk⟩)
end
/-- ''.join(reversed(list(e))) -/
def tJRev (te : TE) : TE := fun σ H Q => te σ H fun v H1 => ∃ l : List Nat, v = .str (mk l) ∧ l.length ≤ 1000000 ∧ Q (.str (mk l.reverse)) H1
theorem join_ones {l : List Nat} : Txt.join (mk []) (l.map fun c => (mk [c] : Str)) = mk l := by
  rw [show (l.map fun c => (mk [c] : Str)) = (l.map fun c => [c]).map mk by rw [List.map_map] <;> rfl, join_mk, joinC_nil, flat_one]
section
variable {X : Cx}
theorem pe_joinRev {o e : Expr} {te : TE} {apos p1 pos1 p2 pos2 pos : Pos} (hc : X.calm = true) (ho : PE X o (tC (.str (mk [])))) (hg : Gl X "reversed") (hm : X.mg "reversed" = none) (hg2 : Gl X "list") (hm2 : X.mg "list" = none) (he : PE X e te)
    (hs : starEach [e] X.env = (false, eval e X.env) :: starEach [] X.env := by rfl)
    (hs2 : starEach [.Call (.Name "list" p2) [e] [] pos2] X.env = (false, eval (.Call (.Name "list" p2) [e] [] pos2) X.env) :: starEach [] X.env := by rfl)
    (hs3 : starEach [.Call (.Name "reversed" p1) [.Call (.Name "list" p2) [e] [] pos2] [] pos1] X.env = [(false, eval (.Call (.Name "reversed" p1) [.Call (.Name "list" p2) [e] [] pos2] [] pos1) X.env)] := by rfl)
    (hbase : attributeBase o "join" X.env (eval o X.env) = eval o X.env := by rfl) (hline : (apos.endLine == pos.line) = true := by rfl) :
    PE X (.Call (.Attribute o "join" apos) [.Call (.Name "reversed" p1) [.Call (.Name "list" p2) [e] [] pos2] [] pos1] [] pos) (tJRev te) := by
  refine ⟨fun pins s σ H Q I h => ?_⟩
  refine PySem.Call_method1 hbase hs3 hline (thn (ho.run pins s σ H (fun v H1 => v = .str (mk []) ∧ H1 = H) I ⟨rfl, rfl⟩) fun v s1 ⟨x, H1, I1, r1, ex, eH⟩ => ?_)
  subst ex eH
  obtain ⟨t, rfl⟩ := _root_.id r1
  refine ⟨"str", _, F.plainAttrs_str, F.slot_str_join, F.type_str_join, typeIs_str _ _ _, (fun _ e => nomatch e), Calls.callWith_builtin rfl (Calls.evalArgs_plain (Calls.spliced_cons ?_))⟩
  refine Call_ (ld_blt I1 hg hm PyProof.Rows.boot_reversed (PyProof.Rows.callWith_type1 (args_cons (Call_ (ld_blt I1 hg2 hm2 PyProof.Rows.boot_list (PyProof.Rows.callWith_type1 (args_cons (thn (he.run pins s1 σ H1 _ I1 h) fun u s2 ⟨y, H2, I2, r2, q2⟩ => args_nil ?_) hs) hs rfl))) hs2) hs2 rfl))
  obtain ⟨l, rfl, hz, q⟩ := q2
  obtain ⟨tu, rfl⟩ := r2
  have hl : (mk l).cps.size = l.length := mk_len l
  refine call_list_str (I2.ok.hd hc) (mk l) tu (fun h' tk acc c hk hS hacc => args_nil ?_) (by rw [hl]; exact Nat.le_trans hz (by decide))
  have I3 : Inv X pins σ H2 { s2 with heap := h', toks := tk } := I2.kept (t' := tk) hk
  have il : h'.IsList s2.heap.objs.size acc := ⟨_, hS, rfl, c, rfl⟩
  refine call_reversed_list (s := { s2 with heap := h', toks := tk }) il (Calls.spliced_nil ?_)
  have I4 : Inv X pins σ H2 { s2 with heap := h'.push (revObj s2.heap.objs.size ((acc.size : Int) - 1)), toks := tk } := I3.kept (t' := tk) fun b o e => Heap.get?_push_of_some _ e
  obtain ⟨f0, f1, f2, f3, f4, f5⟩ := I3.fpOk (H' := H2) (b := h'.objs.size) (Nat.le_refl _) (I3.hok.fresh (Nat.le_refl _))
  refine join_rev (s := { s2 with heap := h'.push (revObj s2.heap.objs.size ((acc.size : Int) - 1)), toks := tk }) (I4.ok.hd hc) ⟨_, Heap.get?_push_size _ rfl, rfl, rfl⟩ (il.push _) (Nat.ne_of_lt (Heap.lt_size hS)) (by rw [hacc.1, hl]; exact Nat.le_trans hz (by decide)) (fun acc' ha => signs_rev hacc ha) ?_ fun h2 k t' hk2 => ?_
  · rw [List.map_map, show ((fun y : Str => y.length) ∘ fun c => mk [c]) = fun _ : Nat => 1 from rfl]
    have z : (mk ([] : List Nat)).length = 0 := rfl
    rw [z, Nat.mul_zero, Nat.add_zero]
    have : ∀ xs : List Nat, (xs.map fun _ => 1).sum = xs.length := fun xs => by induction xs with | nil => rfl | cons a r ih => simp [ih]; omega
    rw [this, List.length_reverse, Array.length_toList, hl]
    omega
  · refine ⟨.str (mk l.reverse), H2, I4.turned (t' := k) (fun b o hb e => hk2 b o hb e) f0 f1 f3 f4 f5, ?_, q⟩
    rw [← join_ones (l := l.reverse)]
    exact ⟨t', rfl⟩
end
/-! ### text.find(text, 1) -/
def rFind3 : V → List V → Hp → VK → Prop := fun x xs H Q => ∃ a b i, x = .str a ∧ xs = [.str b, .int i] ∧ Q (.int (Txt.find3 a b i)) H
theorem mt_find3 {X : Cx} : MtR X "str.find" rFind3 := by
  intro pins s σ H x xs v us Q I rx rs h
  obtain ⟨a, b, i, rfl, rfl, h⟩ := h
  obtain ⟨t, rfl⟩ := rx
  cases rs with
  | cons r1 rs =>
    cases rs with
    | cons r2 rs =>
      cases rs
      obtain ⟨u, rfl⟩ := r1
      obtain ⟨v, rfl⟩ := r2
      exact PySem.SC.find3 ⟨.int (Txt.find3 a b i), H, I.tok _, ⟨_, rfl⟩, h⟩
theorem subAt_mk {s p : List Nat} {i : Nat} : subAt (mk s) (mk p) i = true ↔ (s.drop i).take p.length = p := by
  unfold subAt
  rw [beq_iff_eq, mk_len]
  constructor
  · intro h
    have := congrArg Array.toList h
    simpa [mk] using this
  · intro h
    apply Array.toList_inj.mp
    simpa [mk] using h
theorem find3_at {s p : List Nat} {j : Nat} (h1 : 1 ≤ j) (h2 : j + p.length ≤ s.length) (h3 : (s.drop j).take p.length = p) (h4 : ∀ i, 1 ≤ i → i < j → (s.drop i).take p.length ≠ p) : Txt.find3 (mk s) (mk p) 1 = (j : Int) := by
  have at' : StrLaws.At (mk s) (mk p) (mk s).length j := ⟨by rw [mk_len, mk_len]; exact h2, subAt_mk.mpr h3⟩
  have e0 : fromIndex (mk s).length 1 = 1 := rfl
  unfold Txt.find3
  rw [e0, StrLaws.occ_eq]
  rcases StrLaws.occ_first (mk s) (mk p) (mk s).length 1 (Nat.le_refl _) (List.range' 1 ((mk s).length + 1 - 1)) 1 (fun i hi => (List.mem_range'_1.mp hi).1) with ⟨_, hn⟩ | ⟨pre, a, post, e, ha, hA, hn⟩
  · exact absurd at' (hn j (List.mem_range'_1.mpr ⟨h1, by have := at'.1; omega⟩))
  · have ej : a = j := by
      have ma : a ∈ List.range' 1 ((mk s).length + 1 - 1) := by rw [e]; simp
      have mj : j ∈ List.range' 1 ((mk s).length + 1 - 1) := List.mem_range'_1.mpr ⟨h1, by have := at'.1; omega⟩
      have ord := List.pairwise_lt_range' (s := 1) (n := (mk s).length + 1 - 1) (step := 1)
      rw [e] at ord mj
      rw [List.pairwise_append] at ord
      rcases Nat.lt_trichotomy a j with h | h | h
      · exact absurd (subAt_mk.mp hA.2) (h4 a (List.mem_range'_1.mp ma).1 h)
      · exact h
      · rcases List.mem_append.mp mj with m | m
        · exact absurd at' (hn j m)
        · rcases List.mem_cons.mp m with m | m
          · exact m.symm
          · have := (List.pairwise_cons.mp ord.2.1).1 j m
            omega
    subst ej
    generalize (forIn (List.range' 1 ((mk s).length + 1 - 1)) ((#[] : Array Nat), 1) (StrLaws.occBody (mk s) (mk p) (mk s).length 1)).run.fst = arr at ha
    have h1 : arr.toList[0]? = some a := by simpa using ha
    cases hL : arr.toList with
    | nil => rw [hL] at h1; cases h1
    | cons b t => rw [hL] at h1; cases h1; rfl
section
variable {K : PySem.W.Frag} {E B : List Addr} {ss : List Sl} {m : Bool} {o0 : Os} {te ta : TE} {t : TA}
theorem ev_find3 {s p : List Nat} {j : Nat} (h : EvD K E B m ss o0 te (.str s)) (ha : EaD K E B m ss o0 t [.str p, .int 1]) (h1 : 1 ≤ j) (h2 : j + p.length ≤ s.length) (h3 : (s.drop j).take p.length = p) (h4 : ∀ i, 1 ≤ i → i < j → (s.drop i).take p.length ≠ p) :
    EvD K E B m ss o0 (tBM K "str" rFind3 te t) (.int (j : Int)) := fun Z os σ H i A Q q => h Z os σ H i A _ fun v d H1 g1 r1 _ e => by
  subst e
  cases r1
  refine ⟨rfl, ha Z os σ H1 i (A.go g1) _ fun vs ds H2 g2 r2 e2 => ?_⟩
  subst e2
  cases r2 with
  | cons a1 r2 =>
    cases r2 with
    | cons a2 r2 =>
      cases r2; cases a1; cases a2
      refine ⟨_, _, _, rfl, rfl, ?_⟩
      rw [find3_at h1 h2 h3 h4]
      exact q _ _ H2 (g1.trans g2) (.int _) (fun z => absurd z (by simp)) rfl
theorem ev_jrev {s : List Nat} (h : EvD K E B m ss o0 te (.str s)) (hz : s.length ≤ 1000000) : EvD K E B m ss o0 (tJRev te) (.str s.reverse) := fun Z os σ H i A Q q => h Z os σ H i A _ fun v d H1 g1 r1 _ e => by
  subst e
  cases r1
  exact ⟨s, rfl, hz, q _ _ H1 g1 (.str _) (fun z => absurd z (by simp)) rfl⟩
end
end Da
/-! sorted(a dict of texts) -/
namespace Ks
open PySem PySem.Spec PyProof.Rows L2
def rSrtD : List V → Hp → VK → Prop := fun vs H Q => ∃ (a : Addr) (kvs : List (Key × V)) (xs : List (List Nat)), vs = [V.ref a] ∧ Rd H a (.dK kvs) ∧ kvs.map (·.1) = xs.map (fun x => .inr ⟨x.toArray⟩) ∧ xs.length ≤ 100000 ∧
  ∀ ys p, Srted ys xs → H p = none → Q (.ref p) (upd H p (.lst (ys.map tx)))
theorem cr_srtD {X : Cx} (calm : X.calm = true) : CallR X (.builtin "sorted") rSrtD := by
  intro pins s σ H vs us Q I r h
  obtain ⟨a, kvs, xs, rfl, hd, keys, few, q⟩ := h
  rw [Vals.ref1 r]
  obtain ⟨z, lo, ws, rel, dd⟩ := dk_rd I.hok hd
  obtain ⟨ep, hat⟩ := dd.dictAt
  have hkeys : ws.map (·.1) = xs.map (fun x => .inr ⟨x.toArray⟩) := rel.keys.symm.trans keys
  have hl : ws.length = xs.length := by
    have e := congrArg List.length hkeys
    rw [List.length_map, List.length_map] at e
    exact e
  have line : (100000 : Nat) ≤ sizeLine := by decide
  refine Calls.call_function_entry kind_sorted plain_sorted entry_sorted (args_sorted1 _) ?_
  unfold Builtin.«sorted»
  refine wpAny_bind (m := checkCount "sorted" 1 1 _) (wpAny_pure ?_)
  refine wpAny_bind (PySem.W.kdu_collect (A := X.A.in1) (PySem.W.kdl_dict (knd := mixKind X.prog X.w) (kvs := ws) (ep := ep) lo) (I.ok.hd calm) hat (by omega) fun h' tk acc hk hacc => ?_)
  have hal : acc.toList.length = xs.length := by rw [Array.length_toList, hacc.1, hl]
  letI : Da.Tbs := ⟨([], [])⟩
  have hS : StrsAre acc.toList (xs.map fun x => (⟨x.toArray⟩ : Str)) := Da.strs_of _ _ (by rw [hal, List.length_map]) fun j v e => by
    obtain ⟨k, x, e1, e2⟩ := hacc.2 j v (by rw [← Array.getElem?_toList]; exact e)
    have e3 : (ws.map (·.1))[j]? = some k := by rw [List.getElem?_map, e1]; all_goals rfl
    rw [hkeys, List.getElem?_map] at e3
    cases e4 : xs[j]? with
    | none => rw [e4] at e3; cases e3
    | some y =>
      rw [e4] at e3
      have e5 : (.inr ⟨y.toArray⟩ : Key) = k := Option.some.inj e3
      subst e5
      obtain ⟨t, ev⟩ := Value.isStrOf_shape (x := (⟨y.toArray⟩ : Str)) (v := v) e2
      exact ⟨⟨y.toArray⟩, t, by rw [List.getElem?_map, e4] <;> rfl, ev⟩
  have I1 : Inv X pins σ H { s with heap := h', toks := tk } := I.kept hk
  refine wpAny_bind (wpAny_newList ?_ (by omega))
  refine wpAny_bind (wpAny_holding (wpAny_mono (new_sorted (s := { s with heap := h', toks := tk }) (Q := fun v s2 => ∃ x H', Inv X pins σ H' s2 ∧ RelV x v ∧ Q x H') hS (by omega) fun g out n ys k2 hg hy yp ys_s => ?_) (fun _ _ z => wpAny_pure ⟨_, rfl, z⟩) fun _ _ z => z))
  rw [show (xs.map fun x => (⟨x.toArray⟩ : Str)).map (fun x => x.cps.toList) = xs from back_map (fun _ => rfl) xs] at yp
  have vo := vals_of_strs hy
  rw [tx_cps] at vo
  have few' : ((ys.map fun x => x.cps.toList).map tx).length ≤ sizeLine := by
    rw [List.length_map, yp.length_eq]
    omega
  exact ⟨.ref _, upd H _ (.lst ((ys.map fun x => x.cps.toList).map tx)), I1.laid (t' := tk) k2 (Nat.le_refl _) ⟨few', out, n, vo, hg⟩, rfl, q _ _ ⟨yp, ys_s⟩ (I1.hok.fresh (Nat.le_refl _))⟩
end Ks
namespace Da
open PySem L2 Ks
variable [Tbs]
section
variable {X : Cx}
/-- {k: v for .. in ..} -/
theorem pe_dc1 {kx vx tg iter : Expr} {ifs : List Expr} {scope : Scope} {own : List (Str × Nat)} {pos : Pos} {wi : TI} {g : TG} {tt : TT} {tk tv : TE} (calm : X.calm = true) (nd : X.N.Nodup) (pi : PI X tg iter wi) (ok : BlkOk X.N X.env.scope scope own)
    (pg : ∀ (s : Shared) (H : Hp) (C : Addr) (cl : List (Str × Addr)) (fp : List Addr), PG (X.blk s H scope (compEnvC scope cl C X.env) fp) tg g)
    (pt : ∀ (s : Shared) (H : Hp) (C : Addr) (cl : List (Str × Addr)) (fp : List Addr), PTs (X.blk s H scope (compEnvC scope cl C X.env) fp) ifs tt)
    (pk : ∀ (s : Shared) (H : Hp) (C : Addr) (cl : List (Str × Addr)) (fp : List Addr), PE (X.blk s H scope (compEnvC scope cl C X.env) fp) kx tk)
    (pv : ∀ (s : Shared) (H : Hp) (C : Addr) (cl : List (Str × Addr)) (fp : List Addr), PE (X.blk s H scope (compEnvC scope cl C X.env) fp) vx tv)
    (fold : ∀ x, foldedSetIterable iter X.env x = pure x := by intro _; rfl) :
    PE X (.DictComp kx vx [⟨tg, iter, ifs, 0⟩] scope pos) (tDcG wi g tt (fun D => tPut D tk tv) (own.map (·.2))) :=
  pe_dcG (act := fun D env => actSet kx vx D env) calm nd pi ok pg pt (fun D s H C cl fp => act_put rfl (pk s H C cl fp) (pv s H C cl fp)) (fun i hi => nomatch hi) (fun D it env => by rfl) (fun D it env => ⟨rfl, rfl⟩) fold
end
theorem rpKv_flat {K : PySem.W.Frag} {H H' : Hp} : ∀ {vs : List (Key × V)} {ds : List (Key × D)}, RpKv K H vs ds → (∀ kv ∈ ds, kv.2.flat = true) → RpKv K H' vs ds
  | _, _, .nil, _ => .nil
  | _, _, .cons h r, f => .cons (rp_flat h (f _ List.mem_cons_self)) (rpKv_flat r fun d hd => f d (List.mem_cons_of_mem _ hd))
/-- a dict is walked: it is locked while that is so -/
theorem At.lock {K : PySem.W.Frag} {E B : List Addr} {Z : List (List Addr × Hp)} {ss : List Sl} {σ : L2.St} {H : Hp} {i : Nat} {kvs : List (Key × D)} (A : At K E B Z ss [] σ H) (hi : ss[i]? = some (.dat (.dic kvs))) (fl : ∀ kv ∈ kvs, kv.2.flat = true)
    (hs : ∀ j d, j ≠ i → ss[j]? = some (.dat d) → d.flat = true) :
    ∃ (D : Addr) (vs : List (Key × V)), H D = some (.dK vs) ∧ ∀ od : Obj, ∃ Z' : List (List Addr × Hp),
      At K E B Z' (ss.set i (.dat (.rdd od kvs))) [] σ (upd H D (.frz od (.dK vs))) ∧
      ∀ ss2 σ2 H2, At K E B Z' ss2 [] σ2 H2 → (∀ j d, j ≠ i → ss2[j]? = some (.dat d) → d.flat = true) → H2 D = some (.frz od (.dK vs)) ∧ At K E B Z (ss2.set i .any) [] σ2 (upd H2 D (.dK vs)) := by
  obtain ⟨v, e0, r⟩ := A.slot i _ hi
  cases r with
  | @dic D vs kvs h1 h2 =>
    obtain ⟨nE, hD⟩ := era_some h1
    have nE : D ∉ E := fun z => nE (List.mem_append_right _ z)
    refine ⟨D, vs, hD, fun od => ⟨(E, upd H D (.frz od (.dK vs))) :: Z.map (fun z => (D :: z.1, z.2)), ?_, fun ss2 σ2 H2 A2 f2 => ?_⟩⟩
    · have era_at : ∀ {os : Os}, os = [] → era (upd H D (.frz od (.dK vs))) (ads os ++ E) D = some (.frz od (.dK vs)) := fun {os} z => by
        subst z
        rw [era_in (show D ∉ ads [] ++ E from nE), upd_same]
      refine ⟨by simpa using A.len, fun z hz a o na e => ?_, fun b hb => ?_, fun z hz b hb l g => ?_, A.bE, fun z hz b hb => ?_, fun j d e => ?_, fun j p e => ?_, fun p od h => (nomatch h), A.nd, fun z hz p hp => (nomatch hp), fun p hp => (nomatch hp), fun e he => ?_, tabs_dk A.tab hD⟩
      · rcases List.mem_cons.mp hz with rfl | hz
        · exact stays e
        · obtain ⟨z0, h0, rfl⟩ := List.mem_map.mp hz
          have n1 : a ≠ D := fun z => na (by rw [z]; exact List.mem_cons_self)
          rw [upd_ne n1]
          exact A.stp z0 h0 a o (fun z => na (List.mem_cons_of_mem _ z)) e
      · obtain ⟨l, h1, h2⟩ := A.bag b hb
        exact ⟨l, h1, bag_off h2 hD⟩
      · rcases List.mem_cons.mp hz with rfl | hz
        · exact g
        · obtain ⟨z0, h0, rfl⟩ := List.mem_map.mp hz
          exact bag_off (A.bgo z0 h0 b hb l g) hD
      · rcases List.mem_cons.mp hz with rfl | hz
        · exact A.bE b hb
        · obtain ⟨z0, h0, rfl⟩ := List.mem_map.mp hz
          exact List.mem_cons_of_mem _ (A.bW z0 h0 b hb)
      · by_cases ij : j = i
        · subst ij
          have hl : j < ss.length := (List.getElem?_eq_some_iff.mp hi).1
          rw [List.getElem?_set_self hl] at e
          cases e
          exact ⟨_, e0, .rdd (era_at rfl) (rpKv_flat h2 fl)⟩
        · rw [List.getElem?_set_ne (Ne.symm ij)] at e
          obtain ⟨u, e1, r1⟩ := A.slot j d e
          exact ⟨u, e1, rp_flat r1 (hs j d ij e)⟩
      · by_cases ij : j = i
        · subst ij
          have hl : j < ss.length := (List.getElem?_eq_some_iff.mp hi).1
          rw [List.getElem?_set_self hl] at e
          cases e
        · rw [List.getElem?_set_ne (Ne.symm ij)] at e
          exact A.ownS j p e
      · by_cases ed : e = D
        · rw [ed, upd_same]; simp
        · rw [upd_ne ed]; exact A.ent e he
    · have e2 : H2 D = some (.frz od (.dK vs)) := (A2.stp _ List.mem_cons_self D _ nE upd_same).1 trivial
      have off : ∀ {b l : Addr} {u : HO}, BagL H2 b l → BagL (upd H2 D u) b l := fun {b l u} g => by
        obtain ⟨w, c, i, ns, e3, e4, q⟩ := g
        have n1 : b ≠ D := fun z => by rw [z, e2] at e3; cases e3
        have n2 : l ≠ D := fun z => by rw [z, e2] at e4; cases e4
        exact ⟨w, c, i, ns, by rw [upd_ne n1]; exact e3, by rw [upd_ne n2]; exact e4, q⟩
      have inZ : ∀ z, z ∈ Z → (D :: z.1, z.2) ∈ (E, upd H D (.frz od (.dK vs))) :: Z.map (fun z => (D :: z.1, z.2)) := fun z hz => List.mem_cons_of_mem _ (List.mem_map.mpr ⟨z, hz, rfl⟩)
      refine ⟨e2, by simpa using A2.len, fun z hz a o na e => ?_, fun b hb => ?_, fun z hz b hb l g => off (A2.bgo _ (inZ z hz) b hb l g), A.bE, A.bW, fun j d e => ?_, fun j p e => ?_, fun p od h => (nomatch h), A.nd, fun z hz p hp => (nomatch hp), fun p hp => (nomatch hp), fun e he => ?_, tabs_upd A2.tab e2 trivial fun q z => by unfold LamX.CodeO at z; cases z⟩
      · by_cases ad : a = D
        · subst ad
          have := A.stp z hz a o na e
          rw [hD] at this
          rw [upd_same]
          exact this
        · rw [upd_ne ad]
          refine A2.stp _ (inZ z hz) a o (fun q => ?_) e
          rcases List.mem_cons.mp q with q | q
          · exact ad q
          · exact na q
      · obtain ⟨l, h1, h2⟩ := A2.bag b hb
        exact ⟨l, h1, off h2⟩
      · by_cases ij : j = i
        · subst ij
          rcases Nat.lt_or_ge j ss2.length with hl | hl
          · rw [List.getElem?_set_self hl] at e
            cases e
          · rw [List.getElem?_eq_none (by rw [List.length_set]; exact hl)] at e
            cases e
        · rw [List.getElem?_set_ne (Ne.symm ij)] at e
          obtain ⟨u, e1, r1⟩ := A2.slot j d e
          exact ⟨u, e1, rp_flat r1 (f2 j d ij e)⟩
      · by_cases ij : j = i
        · subst ij
          rcases Nat.lt_or_ge j ss2.length with hl | hl
          · rw [List.getElem?_set_self hl] at e
            cases e
          · rw [List.getElem?_eq_none (by rw [List.length_set]; exact hl)] at e
            cases e
        · rw [List.getElem?_set_ne (Ne.symm ij)] at e
          exact A2.ownS j p e
      · by_cases ed : e = D
        · rw [ed, upd_same]; simp
        · rw [upd_ne ed]; exact A2.ent e he
section
variable {P : Program} {w : World} {K : PySem.W.Frag} {E B : List Addr} {Z : List (List Addr × Hp)} {ss : List Sl} {os : Os} {σ : L2.St} {H H' H0 : Hp} {m F : Bool} {o0 : Os} {te ta tb ty : TE} {Pd : D → Prop} {Dn : Ends} {D : Addr}
/-- what may be told while a dict is locked -/
def Unl (d : Da.D) : Prop := d.flat = true ∨ ∃ ds : List Da.D, d = .tup ds ∧ ∀ x ∈ ds, x.flat = true
theorem rp_unl {v : V} {d : Da.D} {od : Obj} {vs : List (Key × V)} (r : Rp K (era H E) v d) (e : H D = some (.frz od (.dK vs))) (u : Unl d) : Rp K (era (upd H D (.dK vs)) E) v d := by
  rcases u with u | ⟨ds, rfl, u⟩
  · exact rp_flat r u
  · cases r with
    | tup h1 h2 =>
      refine .tup ?_ (rpAll_flat h2 u)
      have keep : ∀ {a : Addr} {o : HO}, era H E a = some o → (∀ z, o ≠ .frz od (.dK z)) → era (upd H D (.dK vs)) E a = some o := fun {a o} q n => by
        obtain ⟨na, q⟩ := era_some q
        have ad : a ≠ D := fun z => by
          rw [z, e] at q
          exact n vs (Option.some.inj q).symm
        rw [era_in na, upd_ne ad]
        exact q
      rcases h1 with (h1 | ⟨o, h1⟩) | h1
      · exact .inl (.inl (keep h1 fun z q => by cases q))
      · exact .inl (.inr ⟨o, keep h1 fun z q => by cases q⟩)
      · exact .inr h1
theorem s_retK {Q : VK} {i : Nat} {od : Obj} {vs : List (Key × V)} {Z' : List (List Addr × Hp)} (A : At K E B Z' ss [] σ H) (h : Ev K E B false ss [] F te Pd) (fl : ∀ j d, j ≠ i → ss[j]? = some (.dat d) → d.flat = true)
    (back : ∀ ss2 σ2 H2, At K E B Z' ss2 [] σ2 H2 → (∀ j d, j ≠ i → ss2[j]? = some (.dat d) → d.flat = true) → H2 D = some (.frz od (.dK vs)) ∧ At K E B Z (ss2.set i .any) [] σ2 (upd H2 D (.dK vs)))
    (hz : (B, H0) ∈ Z) (k : Tells K E B H0 false Pd Q) (un : ∀ d, Pd d → Unl d) (hq : Dn.rt = fun v H' => H' D = some (.frz od (.dK vs)) ∧ Q v (upd H' D (.dK vs))) : tRet te Dn σ H :=
  h Z' [] σ H (fun _ z => z) A _ fun v d H3 g r f p => by
    obtain ⟨e, A4⟩ := back ss σ H3 (A.go g) fl
    rw [hq]
    exact ⟨e, k v d _ (A4.toGo hz) (rp_unl r e (un d p)) (fun z => nomatch z) p⟩
def keyD : Key → Da.D
  | .inl i => .int i
  | .inr x => .str x.cps.toList
theorem keyD_rp (k : Key) : Rp K H (kV k) (keyD k) := by
  cases k with
  | inl i => exact .int i
  | inr x => exact .str x.cps.toList
/-- the keys of a locked dict, in their order -/
theorem ei_keys {i : Nat} {od : Obj} {kvs : List (Key × Da.D)} (hi : ss[i]? = some (.dat (.rdd od kvs))) : EvID K E B ss o0 (iKeys (tVar i)) (kvs.map fun kv => keyD kv.1) := fun Z os σ H io A R q => by
  obtain ⟨v, e, r⟩ := A.slot i _ hi
  cases r with
  | @rdd a xs o ds h1 h2 =>
    obtain ⟨na, ha⟩ := era_some h1
    have hl : xs.length = kvs.length := by
      have := congrArg List.length h2.keys
      rwa [List.length_map, List.length_map] at this
    refine ⟨_, e, a, od, rfl, .inl ⟨xs, ha, q _ _ H .refl (fun H' s => ⟨fun i hi => ⟨s a _ na ha trivial, ?_⟩, fun i hi => ⟨s a _ na ha trivial, ?_⟩, fun i x H2 hi ⟨e1, k, v, e2, e3⟩ => ⟨e1, keyD k, ?_, ?_⟩⟩) rfl⟩⟩
    · rw [List.length_map] at hi
      omega
    · rw [List.length_map] at hi
      omega
    · have : (xs.map (·.1))[i]? = some k := by rw [List.getElem?_map, e2] <;> rfl
      rw [h2.keys, List.getElem?_map] at this
      rw [List.getElem?_map]
      cases z : kvs[i]? with
      | none => rw [z] at this; cases this
      | some kv =>
        rw [z] at this
        cases this
        rfl
    · rw [e3]
      exact keyD_rp k
/-- d[k], d locked -/
theorem ev_dgetR {od : Obj} {kvs : List (Key × Da.D)} {k : Key} {d x : Da.D} (h : EvD K E B m ss o0 te (.rdd od kvs)) (hk : EvD K E B m ss o0 ty x) (hx : ∀ H v, Rp K H v x → v = kV k) (l : getD? kvs k = some d) : EvD K E B m ss o0 (tDGet te ty) d := fun Z os σ H i A Q q => h Z os σ H i A _ fun v y H1 g r _ e => by
  subst e
  refine hk Z os σ H1 i (A.go g) _ fun w z H2 g2 r2 _ e2 => ?_
  subst e2
  have r' := (A.rg m).go g |>.keep g2 r
  cases r' with
  | rdd h1 h2 =>
    obtain ⟨u, l1, l2⟩ := h2.find l
    have e := hx _ _ r2
    subst e
    exact ⟨_, u, rfl, .inl ⟨_, k, .inr ⟨od, era_sub _ _ _ _ h1⟩, rfl, l1.symm⟩, q u d H2 (g.trans g2) l2 (fun z => absurd z (by simp)) rfl⟩
/-! ### a dict that is built -/
/-- found = {} -/
theorem s_dic0 {i : Nat} (A : At K E B Z ss os σ H) (k : ∀ D σ' H', D ∉ ads os → D ∉ E → H D = none → At K (D :: E) B Z (ss.set i (.dat (.raw (.ref D)))) os σ' H' → H' D = some (.dK []) → Dn.nx σ' H') : tAsg tDNewK (gName i) Dn σ H :=
  fun D nD => k D _ _ (fun z => A.tracked z nD) (fun z => A.ent D z nD) nD ((A.lay nD).set (.raw _)) upd_same
/-- found[row] = later -/
theorem s_dputK {f r l : Nat} {x y : List Nat} {vs : List (Key × V)} {kvs : List (Key × Da.D)} (A : At K (D :: E) B Z ss os σ H) (hz : ∀ z, z ∈ Z → D ∈ z.1 ∨ z.2 D = none) (hf : ss[f]? = some (.dat (.raw (.ref D)))) (hr : ss[r]? = some (.dat (.str x))) (hl : ss[l]? = some (.dat (.str y)))
    (hD : H D = some (.dK vs)) (rk : RpKv K noH vs kvs) (few : kvs.length ≤ 1000000) (k : ∀ H' vs', At K (D :: E) B Z ss os σ H' → H' D = some (.dK vs') → RpKv K noH vs' (putD kvs (.inr (mk x)) (.str y)) → Dn.nx σ H') : sDPut (tVar f) (tVar r) (tVar l) Dn σ H := by
  obtain ⟨v1, e1, r1⟩ := A.slot f _ hf
  obtain ⟨v2, e2, r2⟩ := A.slot r _ hr
  obtain ⟨v3, e3, r3⟩ := A.slot l _ hl
  cases r1; cases r2; cases r3
  refine ⟨_, e3, _, e1, _, e2, D, _, rfl, DPut.k (k := .inr (mk x)) hD ?_, k _ _ (A.write hD hz) upd_same (rk.put (.str y))⟩
  rw [rk.length]
  exact Nat.lt_of_le_of_lt few (by decide)
/-- a loop that carries what is true of the heap -/
theorem s_forH {wi : TI} {j : Nat} {tb : TS} {PI : List Da.D → Prop} (Φ : List Da.D → Nat → Hp → Prop) (A : At K E B Z ss os σ H) (h : EvI K E B ss os wi PI) (J : List Da.D → Nat → List Sl → Os → Prop) (h0 : ∀ ds H', PI ds → Go B H H' → J ds 0 ss os ∧ Φ ds 0 H')
    (ho : ∀ ds i ss' os', J ds i ss' os' → ads os' = ads os)
    (hs : ∀ ds z (i : Nat) x ss' os' σ' H', (∀ e, e ∈ E → e ∈ z.1) → PI ds → ds[i]? = some x → J ds i ss' os' → Φ ds i H' → At K E B (z :: Z) (ss'.set j (.dat x)) os' σ' H' →
      tb { Dn with nx := fun σ H => ∃ ss os, J ds (i + 1) ss os ∧ Φ ds (i + 1) H ∧ At K E B (z :: Z) ss os σ H, ct := fun σ H => ∃ ss os, J ds (i + 1) ss os ∧ Φ ds (i + 1) H ∧ At K E B (z :: Z) ss os σ H, bk := Dn.nx } σ' H')
    (hd : ∀ ds ss' os' σ' H', PI ds → J ds ds.length ss' os' → Φ ds ds.length H' → At K E B Z ss' os' σ' H' → Dn.nx σ' H') : tFor wi (gName j) tb Dn σ H :=
  h Z os σ H (fun _ z => z) A _ fun I ds H1 g it p => by
    have A1 := (A.go g).mark
    obtain ⟨j0, p0⟩ := h0 ds H1 p g
    have sub : ∀ {ss' : List Sl} {os' : Os} {σ' : L2.St} {H' : Hp}, At K E B ((ads os ++ E, H1) :: Z) ss' os' σ' H' → ∀ a o, a ∉ ads os ++ E → H1 a = some o → NT o → H' a = some o := fun A' a o n e t => (A'.stp _ List.mem_cons_self a o n e).1 t
    refine ⟨fun i mm σ H => mm = ds.length - i ∧ i ≤ ds.length ∧ ∃ ss' os', J ds i ss' os' ∧ Φ ds i H ∧ At K E B ((ads os ++ E, H1) :: Z) ss' os' σ H, ⟨ds.length, by simp, Nat.zero_le _, ss, os, j0, p0, A1⟩, ?_⟩
    rintro i mm σ' H' ⟨rfl, hi, ss', os', hj, hp, A'⟩
    obtain ⟨f1, f2, f3⟩ := it H' (sub A')
    by_cases hlt : i < ds.length
    · refine .inr ⟨f1 i hlt, fun σ H => ∃ ss os', J ds (i + 1) ss os' ∧ Φ ds (i + 1) H ∧ At K E B ((ads os ++ E, H1) :: Z) ss os' σ H, fun σ2 H2 ⟨s2, o2, j2, p2, A2⟩ => ⟨ds.length - (i + 1), by omega, rfl, hlt, s2, o2, j2, p2, A2⟩, fun x H2 y => ?_⟩
      obtain ⟨rfl, d, hd1, r⟩ := f3 i x H2 hlt y
      refine hs ds (ads os ++ E, H1) i d ss' os' _ H2 (fun e he => List.mem_append_right _ he) p hd1 hj hp (A'.set ?_)
      rw [ho ds i ss' os' hj]
      exact r.mono (era_mono (sub A') fun _ h => h)
    · have : i = ds.length := by omega
      subst this
      exact .inl ⟨f2 _ (Nat.le_refl _), hd ds ss' os' σ' H' p hj hp A'.unmark⟩
/-- what lies at D is kept while only D's like are kept away -/
theorem At.markB (A : At K E B Z ss [] σ H) : At K E B ((B, H) :: Z) ss [] σ H :=
  ⟨A.len, fun y hy a o n e => (List.mem_cons.mp hy).elim (fun z => by subst z; exact stays e) fun hy => A.stp y hy a o n e, A.bag, fun y hy b hb l e => (List.mem_cons.mp hy).elim (fun z => by subst z; exact e) fun hy => A.bgo y hy b hb l e,
    A.bE, fun y hy b hb => (List.mem_cons.mp hy).elim (fun z => by subst z; exact hb) fun hy => A.bW y hy b hb, A.slot, A.ownS, A.own, A.nd, fun y hy p hp => (nomatch hp), A.oE, A.ent, A.tab⟩
/-- return found -/
theorem s_retD {Q : VK} {i : Nat} {vs : List (Key × V)} {kvs : List (Key × Da.D)} (A : At K (D :: E) B Z ss os σ H) (hz : (B, H0) ∈ Z) (nE : D ∉ E) (hi : ss[i]? = some (.dat (.raw (.ref D)))) (hD : H D = some (.dK vs)) (rk : RpKv K noH vs kvs) (k : Tells K E B H0 false (fun x => x = .dic kvs) Q) (hq : Dn.rt = Q) : tRet (tVar i) Dn σ H := by
  obtain ⟨v1, e1, r1⟩ := A.slot i _ hi
  cases r1
  refine ⟨_, e1, ?_⟩
  rw [hq]
  refine k _ _ H (A.toGo hz) (.dic ?_ rk.mono') (fun z => nomatch z) rfl
  rw [era_in nE]
  exact hD
/-! ### sum(lists of texts, []), sorted(a dict of texts) -/
theorem lists_is {H : Hp} : ∀ {xss : List (List (List Nat))} {vs : List V}, RpAll K H vs (xss.map fun l => Da.D.lst (l.map .str)) → ∃ ps : List (Addr × List V), vs = ps.map (fun p => V.ref p.1) ∧ (∀ p ∈ ps, H p.1 = some (.lst p.2)) ∧ ps.flatMap (·.2) = xss.flatten.map tx ∧ ps.length = xss.length
  | [], _, .nil => ⟨[], rfl, fun _ h => (nomatch h), rfl, rfl⟩
  | l :: xss, _, .cons h r => by
    obtain ⟨ps, rfl, h2, h3, h4⟩ := lists_is r
    cases h with
    | @lst a xs ds e1 e2 =>
      have := rps_is e2
      subst this
      refine ⟨(a, l.map tx) :: ps, rfl, fun p hp => ?_, by rw [List.flatMap_cons, h3, List.flatten_cons, List.map_append], by rw [List.length_cons, List.length_cons, h4]⟩
      rcases List.mem_cons.mp hp with rfl | hp
      · exact e1
      · exact h2 p hp
theorem c_sumS {xss : List (List (List Nat))} (ne : xss ≠ []) (few : xss.flatten.length ≤ 1000000) : OpA K B (rSumL K) [.lst (xss.map fun l => .lst (l.map .str)), .lst []] true (fun d => d = .lst (xss.flatten.map .str)) := fun R H vs A r Q q => by
  cases r with
  | cons r1 r =>
    cases r with
    | cons r2 r =>
      cases r
      cases r1 with
      | lst h1 h2 =>
        cases r2 with
        | lst h3 h4 =>
          cases h4
          obtain ⟨ps, rfl, g1, g2, g3⟩ := lists_is h2
          refine ⟨_, _, ps, rfl, .inl (.inl ((era_sub _ _) _ _ h1)), (era_sub _ _) _ _ h3, fun p hp => (era_sub _ _) _ _ (g1 p hp), fun z => ne (List.eq_nil_of_length_eq_zero (by rw [← g3, z] <;> rfl)), ?_, fun p np => ?_⟩
          · rw [g2, List.length_map]
            exact Nat.le_trans few (by decide)
          · rw [g2]
            exact q _ _ _ (Go.new np) (.lst (A.new np) (rps_tx _ _)) (fun _ => New.laid A np (rps_tx _ _)) rfl
theorem c_srtD {kvs : List (Key × Da.D)} {l : List (List Nat)} (keys : kvs.map (·.1) = l.map (fun x => .inr (mk x))) (up : l.Pairwise (· < ·)) (few : l.length ≤ 100000) : OpA K B rSrtD [.dic kvs] true (fun d => d = .lst (l.map .str)) := fun R H vs A r Q q => by
  cases r with
  | cons r1 r =>
    cases r
    cases r1 with
    | dic h1 h2 =>
      refine ⟨_, _, l, rfl, .inl ((era_sub _ _) _ _ h1), h2.keys.trans keys, few, fun ys p sr np => ?_⟩
      have nd : l.Nodup := List.Pairwise.imp (S := (· ≠ ·)) (fun {a b} (h : a < b) (e : a = b) => List.lt_irrefl b (by rw [e] at h; exact h)) up
      have ey := srted_asc (l := l) sr nd fun z => Iff.rfl
      have el : asc l = l := up_one (asc_up l) up fun z => asc_mem
      rw [el] at ey
      subst ey
      exact q _ _ _ (Go.new np) (.lst (A.new np) (rps_tx _ _)) (fun _ => New.laid A np (rps_tx _ _)) rfl
/-- text > text -/
def rGtS : R2 := fun x y H Q => ∃ i j, x = .str i ∧ y = .str j ∧ Q (.bl (decide (j.cps.toList < i.cps.toList))) H
theorem o_gtS {i j : List Nat} : Op2 K B rGtS (.str i) (.str j) false (fun x => x = .bl (decide (j < i))) := fun R H v w _ r1 r2 Q q => by
  cases r1; cases r2
  exact ⟨_, _, rfl, rfl, q _ _ H .refl (.bl _) (fun z => absurd z (by simp)) rfl⟩
end
theorem op_gtS {X : Cx} : OpR X (compareOp .Gt) rGtS := by
  intro pins s σ H x y v u Q I rx ry h
  obtain ⟨i, j, rfl, rfl, q⟩ := h
  obtain ⟨t, rfl⟩ := rx
  obtain ⟨t', rfl⟩ := ry
  exact PySem.P.gt_str ⟨.bl _, H, I, rfl, q⟩
end Da
/-! lists of ints: read backwards, looked through; truths compared -/
namespace Da
open PySem L2
variable [Tbs]
section
variable {K : PySem.W.Frag} {E B : List Addr} {m : Bool} {ss : List Sl} {o0 : Os} {te to ta : TE}
theorem RpAll.rev {H : Hp} {vs : List V} {ds : List D} (r : RpAll K H vs ds) : RpAll K H vs.reverse ds.reverse := by
  match r with
  | .nil => exact .nil
  | .cons (v := v) (d := d) h r =>
    rw [List.reverse_cons, List.reverse_cons]
    exact (RpAll.rev r).append (.cons h .nil)
/-- xs[::-1] -/
theorem ev_revL {ds : List D} (h : EvD K E B m ss o0 te (.lst ds)) : EvD K E B m ss o0 (tRevL K te) (.lst ds.reverse) := fun Z os σ H i A Q q => h Z os σ H i A _ fun v d H1 g r _ e => by
  subst e
  cases r with
  | lst h1 h2 =>
    refine ⟨_, _, rfl, .inl (.inl ((era_sub _ _) _ _ h1)), fun p np => ?_⟩
    have A1 := (A.rg m).go g
    exact q _ _ _ (g.trans (Go.new np)) (.lst (A1.new np) ((RpAll.rev h2).mono (era_mono (fun a o _ e _ => by rw [upd_ne (ne_of_none e np)]; exact e) fun _ h => h))) (fun z => absurd z (by simp)) rfl
theorem ints_is {H : Hp} : ∀ {l : List Int} {xs : List V}, RpAll K H xs (l.map D.int) → xs = l.map V.int
  | [], _, r => by
    cases r
    rfl
  | a :: l, _, r => by
    cases r with
    | cons r1 r2 =>
      cases r1
      rw [ints_is r2] <;> rfl
theorem in_ints {x : Int} {l : List Int} : (l.map V.int).all flatV = true ∧ inV (.int x) (l.map V.int) = decide (x ∈ l) := by
  refine ⟨List.all_eq_true.mpr fun z hz => ?_, ?_⟩
  · obtain ⟨s, _, rfl⟩ := List.mem_map.mp hz
    rfl
  · induction l with
    | nil => simp [inV]
    | cons a l ih =>
      unfold inV at ih ⊢
      rw [List.map_cons, List.any_cons, ih]
      show ((a == x) || decide (x ∈ l)) = _
      by_cases e : a = x
      · subst e; simp
      · have n2 : ¬ x = a := fun z => e z.symm
        simp [e, n2]
theorem o_inInt {neg : Bool} {x : Int} {l : List Int} : Op2 K B (rIn K neg) (.int x) (.lst (l.map D.int)) false (fun d => d = .bl (if neg then !decide (x ∈ l) else decide (x ∈ l))) := fun R H v w _ r1 r2 Q q => by
  cases r1
  cases r2 with
  | @lst a xs ds h1 h2 =>
    have e := ints_is h2
    subst e
    obtain ⟨f1, f2⟩ := in_ints (x := x) (l := l)
    refine ⟨_, _, rfl, .inl (.inl (.inl (era_sub H R _ _ h1))), rfl, f1, ?_⟩
    rw [f2]
    exact q _ _ H .refl (.bl _) (fun z => absurd z (by simp)) rfl
theorem o_neB {i j : Bool} : Op2 K B rNe (.bl i) (.bl j) false (fun x => x = .bl (!decide (i = j))) := fun R H v w _ r1 r2 Q q => by
  cases r1; cases r2
  refine ⟨rfl, q _ _ H .refl (.bl _) (fun z => absurd z (by simp)) ?_⟩
  congr 2
  exact decide_eq_decide.mpr ⟨fun e => V.bl.inj e, fun e => by rw [e]⟩
/-- ints.index(int) -/
theorem ev_idxI {l : List Int} {x : Int} {j : Nat} (h : EvD K E B m ss o0 to (.lst (l.map D.int))) (ha : EvD K E B m ss o0 ta (.int x)) (hj : l[j]? = some x) (no : ∀ i z, i < j → l[i]? = some z → z ≠ x) : EvD K E B m ss o0 (tBM K "list" (rIndex K) to (tCons ta tNil)) (.int (j : Nat)) :=
  fun Z os σ H i A Q q => h Z os σ H i A _ fun v d H1 g1 r1 _ e => by
    subst e
    cases id r1 with
    | @lst a xs ds h1 h2 =>
      refine ⟨.inl ⟨rfl, xs, .inl (.inl (era_sub _ _ _ _ h1))⟩, ?_⟩
      refine ha Z os σ H1 i (A.go g1) _ fun w d2 H2 g2 r2 _ e2 => ?_
      subst e2
      cases r2
      have r3 := ((A.rg m).go g1).keep g2 r1
      cases r3 with
      | @lst _ ys _ k1 k2 =>
        have e := ints_is k2
        subst e
        refine ⟨a, _, .int x, j, .int x, rfl, rfl, .inl (.inl (era_sub _ _ _ _ k1)), rfl, in_ints (x := x).1, by rw [List.getElem?_map, hj] <;> rfl, by show (x == x) = true; exact beq_self_eq_true _, fun i z hi hz => ?_, q _ _ H2 (g1.trans g2) (.int _) (fun z => absurd z (by simp)) rfl⟩
        rw [List.getElem?_map] at hz
        cases hl : l[i]? with
        | none => rw [hl] at hz; cases hz
        | some t =>
          rw [hl] at hz
          cases hz
          show (t == x) = false
          exact beq_eq_false_iff_ne.mpr fun e => no i t hi hl e
end
end Da
/-! dict(zip(a, b)) over iterators of any kind. -/
namespace Ez
open PySem PySem.W PyProof.Rows
open Sem (wp)
section
variable {prog : Program} {w : World} {A : Around} {E : Value → Shared → Prop} {s : Shared} {z TI TO T i1 i2 : Addr} {fp1 fp2 : List Addr} {n1 n2 i : Nat} {P1 P2 : Nat → Value → Prop} {St1 St2 : Nat → Heap → Prop} {f : Bool} {oT : Obj}
theorem next_item {Q : Value → Shared → Prop} (S : ZipSep2 z TI TO i1 i2 fp1 fp2) (D1 : Draws prog w A i1 fp1 n1 P1 St1) (D2 : Draws prog w A i2 fp2 n2 P2 St2)
    (hz : IsZipHeld s.heap z TI TO T f) (hT : s.heap.get? T = some oT) (hTI : IsTupOf2 s.heap TI (.ref i1) (.ref i2)) (st1 : St1 i s.heap) (st2 : St2 i s.heap) (hlt1 : i < n1) (hlt2 : i < n2)
    (hQ : ∀ x1 x2 h' tk, P1 i x1 → P2 i x2 → IsZipHeld h' z TI TO T true → St1 (i + 1) h' → St2 (i + 1) h' → IsTupOf2 h' s.heap.objs.size x1 x2 → h'.objs.size = s.heap.objs.size + 1 →
      (∀ c o, c ≠ z → c ≠ i1 → c ≠ i2 → s.heap.get? c = some o → h'.get? c = some o) → Q (.ref s.heap.objs.size) { s with heap := h', toks := tk }) :
    wpAny (model prog w) A (Builtin.«zip.__next__» ⟨[.ref z], []⟩) (fun fin s' => ∃ v, fin = .done (.ret v) ∧ Q v s') E s := by
  obtain ⟨hp, g, d, tk0, os⟩ := s
  show wpAny _ _ (field (.ref z) 2 >>= _) _ _ _
  refine wpAny_bind (wpAny_field hz rfl (x := .bool false) rfl ?_)
  show wpAny _ _ (field (.ref z) 3 >>= _) _ _ _
  refine wpAny_bind (wpAny_field hz rfl (x := .ref TI) rfl ?_)
  refine wpAny_bind (wpAny_seqItems hTI rfl ?_)
  show wpAny _ _ (Builtin.SmallTypes.ownedTupleIsFree (.ref z) >>= _) _ _ _
  refine wpAny_bind (wpAny_tupleHeld_zip hz hT fun h₁ hz₁ hs₁ => ?_)
  replace hs₁ : Heap.SameBut z hp h₁ := hs₁
  simp only [Bool.false_eq_true, if_false]
  refine wpAny_bind ?_
  rw [← Array.forIn_toList]
  simp only [List.forIn_cons, List.forIn_nil]
  refine wpAny_bind (wpAny_bind (wpAny_holding ?_))
  show wpAny _ _ (Builtin.SmallTypes.nextOf (.ref i1) >>= _) _ _ ⟨h₁, g, d, tk0, os⟩
  refine wpAny_bind (D1.item i ⟨h₁, g, d, tk0, os⟩ _ _ hlt1 (D1.over st1 hs₁ S.zf1) fun x1 p1 tk1 hx1 sn1 hp1 => wpAny_pure ?_)
  replace hp1 : Heap.SameBut i1 h₁ p1 := hp1
  refine wpAny_pure ?_
  refine wpAny_bind (wpAny_bind (wpAny_holding ?_))
  show wpAny _ _ (Builtin.SmallTypes.nextOf (.ref i2) >>= _) _ _ ⟨p1, g, d, tk1, os⟩
  refine wpAny_bind (D2.item i ⟨p1, g, d, tk1, os⟩ _ _ hlt2 (D2.over (D2.over st2 hs₁ S.zf2) hp1 S.sep1_2) fun x2 p2 tk2 hx2 sn2 hp2 => wpAny_pure ?_)
  replace hp2 : Heap.SameBut i2 p1 p2 := hp2
  refine wpAny_pure (wpAny_pure ?_)
  show wpAny _ _ (newTuple [x1, x2] >>= _) _ _ _
  refine wpAny_bind (wpAny_newTuple ?_)
  have hsz : p2.objs.size = hp.objs.size := by rw [hp2.1, hp1.1, hs₁.1]
  have hzz : IsZipHeld p2 z TI TO T true := hp2.extBut _ _ S.zi2 (hp1.extBut _ _ S.zi1 hz₁)
  have hk : ∀ c o, c ≠ z → c ≠ i1 → c ≠ i2 → hp.get? c = some o → p2.get? c = some o := fun c o c1 c2 c3 e => hp2.extBut _ _ c3 (hp1.extBut _ _ c2 (hs₁.extBut _ _ c1 e))
  have hj1 : St1 (i + 1) p2 := D1.over sn1 hp2 S.sep2_1
  refine wpAny_pure ⟨_, rfl, ?_⟩
  show Q (.ref p2.objs.size) _
  have up : ∀ c o, p2.get? c = some o → (p2.push { cls := .type "tuple", data := .seq #[x1, x2] }).get? c = some o := fun c o e => Heap.get?_push_of_some _ e
  have hpr : IsTupOf2 (p2.push { cls := .type "tuple", data := .seq #[x1, x2] }) p2.objs.size x1 x2 := Heap.get?_push_size _ rfl
  have hz4 : (p2.push { cls := .type "tuple", data := .seq #[x1, x2] }).objs.size = p2.objs.size + 1 := Heap.size_push ..
  rw [hsz] at hpr hz4 ⊢
  exact hQ x1 x2 _ tk2 hx1 hx2 (up _ _ hzz) (D1.frame _ _ _ hj1 fun b hb o e => up b o e) (D2.frame _ _ _ sn2 fun b hb o e => up b o e) hpr hz4 fun c o c1 c2 c3 e => up c o (hk c o c1 c2 c3 e)
theorem next_end {Q : Fin → Shared → Prop} (S : ZipSep2 z TI TO i1 i2 fp1 fp2) (D1 : Draws prog w A i1 fp1 n1 P1 St1) (D2 : Draws prog w A i2 fp2 n2 P2 St2)
    (hz : IsZipHeld s.heap z TI TO T f) (hT : s.heap.get? T = some oT) (hTI : IsTupOf2 s.heap TI (.ref i1) (.ref i2)) (st1 : St1 i s.heap) (st2 : St2 i s.heap) (hle1 : i ≤ n1) (hle2 : i ≤ n2) (hend : i = n1 ∨ i = n2)
    (hE : ∀ h' tk e, (∀ c o, c ≠ z → c ≠ i1 → c ≠ i2 → s.heap.get? c = some o → h'.get? c = some o) → (∃ o, h'.get? e = some o ∧ o.cls = .type "StopIteration") → E (.ref e) { s with heap := h', toks := tk }) :
    wpAny (model prog w) A (Builtin.«zip.__next__» ⟨[.ref z], []⟩) Q E s := by
  obtain ⟨hp, g, d, tk0, os⟩ := s
  show wpAny _ _ (field (.ref z) 2 >>= _) _ _ _
  refine wpAny_bind (wpAny_field hz rfl (x := .bool false) rfl ?_)
  show wpAny _ _ (field (.ref z) 3 >>= _) _ _ _
  refine wpAny_bind (wpAny_field hz rfl (x := .ref TI) rfl ?_)
  refine wpAny_bind (wpAny_seqItems hTI rfl ?_)
  show wpAny _ _ (Builtin.SmallTypes.ownedTupleIsFree (.ref z) >>= _) _ _ _
  refine wpAny_bind (wpAny_tupleHeld_zip hz hT fun h₁ hz₁ hs₁ => ?_)
  replace hs₁ : Heap.SameBut z hp h₁ := hs₁
  simp only [Bool.false_eq_true, if_false]
  refine wpAny_bind ?_
  rw [← Array.forIn_toList]
  simp only [List.forIn_cons, List.forIn_nil]
  refine wpAny_bind (wpAny_bind (wpAny_holding ?_))
  show wpAny _ _ (Builtin.SmallTypes.nextOf (.ref i1) >>= _) _ _ ⟨h₁, g, d, tk0, os⟩
  by_cases hlt1 : i < n1
  · refine wpAny_bind (D1.item i ⟨h₁, g, d, tk0, os⟩ _ _ hlt1 (D1.over st1 hs₁ S.zf1) fun x1 p1 tk1 hx1 sn1 hp1 => wpAny_pure ?_)
    replace hp1 : Heap.SameBut i1 h₁ p1 := hp1
    have hi2 : i = n2 := by omega
    refine wpAny_pure ?_
    refine wpAny_bind (wpAny_bind (wpAny_holding ?_))
    show wpAny _ _ (Builtin.SmallTypes.nextOf (.ref i2) >>= _) _ _ ⟨p1, g, d, tk1, os⟩
    refine wpAny_bind (D2.done ⟨p1, g, d, tk1, os⟩ _ _ (by rw [← hi2]; exact (D2.over (D2.over st2 hs₁ S.zf2) hp1 S.sep1_2)) fun q e hq he => ?_)
    replace hq : Heap.ExtBut i2 p1 q := hq
    exact hE q tk1 e (fun c o cz c1 c2 x => hq _ _ c2 (hp1.extBut _ _ c1 (hs₁.extBut _ _ cz x))) he
  · have hi1 : i = n1 := by omega
    refine wpAny_bind (D1.done ⟨h₁, g, d, tk0, os⟩ _ _ (by rw [← hi1]; exact (D1.over st1 hs₁ S.zf1)) fun q e hq he => ?_)
    replace hq : Heap.ExtBut i1 h₁ q := hq
    exact hE q tk0 e (fun c o cz c1 c2 x => hq _ _ c1 (hs₁.extBut _ _ cz x)) he
theorem pyNext_item {Q : Option Value → Shared → Prop} (S : ZipSep2 z TI TO i1 i2 fp1 fp2) (D1 : Draws prog w A.in1 i1 fp1 n1 P1 St1) (D2 : Draws prog w A.in1 i2 fp2 n2 P2 St2)
    (hz : IsZipHeld s.heap z TI TO T f) (hT : s.heap.get? T = some oT) (hTI : IsTupOf2 s.heap TI (.ref i1) (.ref i2)) (st1 : St1 i s.heap) (st2 : St2 i s.heap) (hlt1 : i < n1) (hlt2 : i < n2)
    (hQ : ∀ x1 x2 h' tk, P1 i x1 → P2 i x2 → IsZipHeld h' z TI TO T true → St1 (i + 1) h' → St2 (i + 1) h' → IsTupOf2 h' s.heap.objs.size x1 x2 → h'.objs.size = s.heap.objs.size + 1 →
      (∀ c o, c ≠ z → c ≠ i1 → c ≠ i2 → s.heap.get? c = some o → h'.get? c = some o) → Q (some (.ref s.heap.objs.size)) { s with heap := h', toks := tk }) :
    wpAny (model prog w) A (pyNext (.ref z)) Q E s := by
  have hTy : s.TypeIs (.ref z) "zip" := ⟨_, hz, rfl⟩
  unfold pyNext
  exact wpAny_bind (wpAny_attempt (wpAny_callSpecial?_slot (name := Str.ofString "__next__") hTy F.slot_zip_next
    (wpAny_call_entry F.slot_zip_next hTy F.entry_zip_next
      (next_item S D1 D2 hz hT hTI st1 st2 hlt1 hlt2 fun x1 x2 h' tk y1 y2 b1 d1 d2 b5 b6 b7 => wpAny_pure (hQ x1 x2 h' tk y1 y2 b1 d1 d2 b5 b6 b7)) (F.args_zip_next_1 _))))
theorem pyNext_end {Q : Option Value → Shared → Prop} (S : ZipSep2 z TI TO i1 i2 fp1 fp2) (D1 : Draws prog w A.in1 i1 fp1 n1 P1 St1) (D2 : Draws prog w A.in1 i2 fp2 n2 P2 St2)
    (hz : IsZipHeld s.heap z TI TO T f) (hT : s.heap.get? T = some oT) (hTI : IsTupOf2 s.heap TI (.ref i1) (.ref i2)) (st1 : St1 i s.heap) (st2 : St2 i s.heap) (hle1 : i ≤ n1) (hle2 : i ≤ n2) (hend : i = n1 ∨ i = n2)
    (hQ : ∀ h' tk, (∀ c o, c ≠ z → c ≠ i1 → c ≠ i2 → s.heap.get? c = some o → h'.get? c = some o) → Q none { s with heap := h', toks := tk }) : wpAny (model prog w) A (pyNext (.ref z)) Q E s := by
  have hTy : s.TypeIs (.ref z) "zip" := ⟨_, hz, rfl⟩
  unfold pyNext
  refine wpAny_bind (wpAny_attempt (wpAny_callSpecial?_slot (name := Str.ofString "__next__") hTy F.slot_zip_next
    (wpAny_call_entry F.slot_zip_next hTy F.entry_zip_next (next_end S D1 D2 hz hT hTI st1 st2 hle1 hle2 hend fun h' tk e hk he => ?_) (F.args_zip_next_1 _))))
  obtain ⟨o, ho, hc⟩ := he
  refine wpAny_bind (wpAny_isInstance (T := "StopIteration") (b := true) ⟨o, ho, hc⟩ isSubtype_stop ?_)
  exact wpAny_pure (hQ _ _ hk)
end
/-- zip(a, b), over any two iterators, as the argument of dict -/
theorem zipArg {prog : Program} {w : World} {z TI TO i1 i2 : Addr} {fp1 fp2 : List Addr} {n1 n2 : Nat} {P1 P2 : Nat → Value → Prop} {St1 St2 : Nat → Heap → Prop} (S : ZipSep2 z TI TO i1 i2 fp1 fp2)
    (D1 : ∀ A : Around, A.handled = none → Draws prog w A i1 fp1 n1 P1 St1) (D2 : ∀ A : Around, A.handled = none → Draws prog w A i2 fp2 n2 P2 St2)
    (A0 : Around) (hA0 : A0.handled = none) (L1 : ∀ i h, St1 i h → ∀ b ∈ fp1, ∃ o, h.get? b = some o) (L2 : ∀ i h, St2 i h → ∀ b ∈ fp2, ∃ o, h.get? b = some o) :
    PairArg prog w "zip" z (z :: TI :: TO :: (fp1 ++ fp2)) [z, TO, i1, i2] (min n1 n2) (fun i k v => P1 i k ∧ P2 i v)
      (fun h => IsZip h z TI TO .none ∧ IsTupOf2 h TI (.ref i1) (.ref i2) ∧ (∃ a1 a2, IsTupOf2 h TO a1 a2) ∧ St1 0 h ∧ St2 0 h) where
  type := fun s ok => ⟨_, ok.1, rfl⟩
  notDict := by decide
  keep := fun h h' ok hk => by
    obtain ⟨hz, hTI, ⟨a1, a2, hTO⟩, st1, st2⟩ := ok
    exact ⟨hk _ _ hz, hk _ _ hTI, ⟨a1, a2, hk _ _ hTO⟩, (D1 A0 hA0).frame _ _ _ st1 fun b _ o e => hk b o e, (D2 A0 hA0).frame _ _ _ st2 fun b _ o e => hk b o e⟩
  there := fun h ok b hb => by
    obtain ⟨hz, hTI, ⟨a1, a2, hTO⟩, st1, st2⟩ := ok
    rcases List.mem_cons.mp hb with rfl | hb
    · exact ⟨_, hz⟩
    rcases List.mem_cons.mp hb with rfl | hb
    · exact ⟨_, hTI⟩
    rcases List.mem_cons.mp hb with rfl | hb
    · exact ⟨_, hTO⟩
    rcases List.mem_append.mp hb with hb | hb
    · exact L1 _ _ st1 b hb
    · exact L2 _ _ st2 b hb
  sub := fun c hc => by
    have hc' : c = z ∨ c = TO ∨ c = i1 ∨ c = i2 := by simpa using hc
    rcases hc' with rfl | rfl | rfl | rfl
    · exact List.mem_cons_self ..
    · exact List.mem_cons_of_mem _ (List.mem_cons_of_mem _ (List.mem_cons_self ..))
    · exact List.mem_cons_of_mem _ (List.mem_cons_of_mem _ (List.mem_cons_of_mem _ (List.mem_append_left _ S.mem1)))
    · exact List.mem_cons_of_mem _ (List.mem_cons_of_mem _ (List.mem_cons_of_mem _ (List.mem_append_right _ S.mem2)))
  noKeys := fun A s Q E hA ok h => getAttrOr_miss_zip ok.1 rfl rfl rfl zip_no_keys (by decide +kernel) hA h
  iter := fun A s d Q E hA ok hd hdf h => by
    obtain ⟨hz, hTI, ⟨a1, a2, hTO⟩, st1, st2⟩ := ok
    have dz : d ≠ z := fun e => hdf (e ▸ List.mem_cons_self)
    have dTI : d ≠ TI := fun e => hdf (e ▸ List.mem_cons_of_mem _ List.mem_cons_self)
    have dTO : d ≠ TO := fun e => hdf (e ▸ List.mem_cons_of_mem _ (List.mem_cons_of_mem _ List.mem_cons_self))
    have df1 : d ∉ fp1 := fun e => hdf (List.mem_cons_of_mem _ (List.mem_cons_of_mem _ (List.mem_cons_of_mem _ (List.mem_append_left _ e))))
    have df2 : d ∉ fp2 := fun e => hdf (List.mem_cons_of_mem _ (List.mem_cons_of_mem _ (List.mem_cons_of_mem _ (List.mem_append_right _ e))))
    refine wpAny_pyIter_zip hz (h z [z, TO, i1, i2] (fun i h => IsTupOf2 h TI (.ref i1) (.ref i2) ∧ St1 i h ∧ St2 i h ∧ ((IsZip h z TI TO .none ∧ ∃ a1 a2, IsTupOf2 h TO a1 a2) ∨ ∃ T f oT, IsZipHeld h z TI TO T f ∧ h.get? T = some oT ∧ T ≠ z ∧ T ≠ i1 ∧ T ≠ i2 ∧ T ≠ d)) s.heap s.toks ?_
      ⟨hTI, st1, st2, .inl ⟨hz, a1, a2, hTO⟩⟩ (fun _ _ e => e) fun b hb => .inl hb)
    exact {
      off := fun hm => by
        simp only [List.mem_cons, List.not_mem_nil, or_false] at hm
        rcases hm with x | x | x | x
        · exact dz x
        · exact dTO x
        · exact df1 (x ▸ S.mem1)
        · exact df2 (x ▸ S.mem2)
      frame := fun i h₁ h₂ st hk => by
        obtain ⟨hTI, s1, s2, hz⟩ := st
        refine ⟨hk _ _ (Ne.symm dTI) hTI, (D1 A0 hA0).frame _ _ _ s1 fun b hb o e => hk b o (fun q => df1 (q ▸ hb)) e, (D2 A0 hA0).frame _ _ _ s2 fun b hb o e => hk b o (fun q => df2 (q ▸ hb)) e, ?_⟩
        rcases hz with ⟨hz, a, b, hTO⟩ | ⟨T, f, oT, hz, hT, r1, r2, r3, r4⟩
        · exact .inl ⟨hk _ _ (Ne.symm dz) hz, a, b, hk _ _ (Ne.symm dTO) hTO⟩
        · exact .inr ⟨T, f, oT, hk _ _ (Ne.symm dz) hz, hk _ _ r4 hT, r1, r2, r3, r4⟩
      item := fun i s₁ Q₁ E₁ hi st hds hQ => by
        obtain ⟨hTI, s1, s2, hz⟩ := st
        have hi1 : i < n1 := by omega
        have hi2 : i < n2 := by omega
        have lt : ∀ {c o}, s₁.heap.get? c = some o → s₁.heap.objs.size ≠ c := fun e => Nat.ne_of_gt (Heap.lt_size e)
        have q1 : s₁.heap.objs.size ≠ i1 := by obtain ⟨_, e⟩ := (D1 A0 hA0).live _ _ s1; exact lt e
        have q2 : s₁.heap.objs.size ≠ i2 := by obtain ⟨_, e⟩ := (D2 A0 hA0).live _ _ s2; exact lt e
        rcases hz with ⟨hz, a, b, hTO⟩ | ⟨T, f, oT, hz, hT, r1, r2, r3, r4⟩
        · refine wpAny_pyNext_zipD2_item S (D1 A.in1 hA) (D2 A.in1 hA) hz hTI hTO s1 s2 hi1 hi2 fun x1 x2 h' tk y1 y2 b1 b2 d1 d2 b5 b6 hk => ?_
          exact hQ s₁.heap.objs.size x1 x2 h' tk ⟨y1, y2⟩ (.inl ⟨_, b5, rfl, _, rfl⟩)
            ⟨hk _ _ S.TIz S.TITO S.TIi1 S.TIi2 hTI, d1, d2, .inr ⟨s₁.heap.objs.size, false, _, b1, b5, lt hz, q1, q2, Nat.ne_of_gt hds⟩⟩
            fun c o hc e => hk c o (fun x => hc (by simp [x])) (fun x => hc (by simp [x])) (fun x => hc (by simp [x])) (fun x => hc (by simp [x])) e
        · refine pyNext_item S (D1 A.in1 hA) (D2 A.in1 hA) hz hT hTI s1 s2 hi1 hi2 fun x1 x2 h' tk y1 y2 b1 d1 d2 b5 b6 hk => ?_
          exact hQ s₁.heap.objs.size x1 x2 h' tk ⟨y1, y2⟩ (.inl ⟨_, b5, rfl, _, rfl⟩)
            ⟨hk _ _ S.TIz S.TIi1 S.TIi2 hTI, d1, d2, .inr ⟨T, true, oT, b1, hk _ _ r1 r2 r3 hT, r1, r2, r3, r4⟩⟩
            fun c o hc e => hk c o (fun x => hc (by simp [x])) (fun x => hc (by simp [x])) (fun x => hc (by simp [x])) e
      done := fun s₁ Q₁ E₁ st hQ => by
        obtain ⟨hTI, s1, s2, hz⟩ := st
        rcases hz with ⟨hz, a, b, hTO⟩ | ⟨T, f, oT, hz, hT, r1, r2, r3, r4⟩
        · exact wpAny_pyNext_zipD2_end S (D1 A.in1 hA) (D2 A.in1 hA) hz hTI hTO s1 s2 (by omega) (by omega) (by omega) fun h' tk hk => hQ h' tk fun c o hc e => hk c o (fun x => hc (by simp [x])) (fun x => hc (by simp [x])) (fun x => hc (by simp [x])) (fun x => hc (by simp [x])) e
        · exact pyNext_end S (D1 A.in1 hA) (D2 A.in1 hA) hz hT hTI s1 s2 (by omega) (by omega) (by omega) fun h' tk hk => hQ h' tk fun c o hc e => hk c o (fun x => hc (by simp [x])) (fun x => hc (by simp [x])) (fun x => hc (by simp [x])) e }
end Ez
namespace Da
open PySem L2 PySem.W PyProof.Rows
variable [Tbs]

theorem call_dict_rel {prog : Program} {w : World} {A : Around} {E : Value → Shared → Prop} {s : Shared} {T : String} {a : Addr} {fp wr : List Addr} {n : Nat} {Rel : Nat → Value → Value → Prop} {OK : Heap → Prop} {Q : Value → Shared → Prop}
    (P : PairArg prog w T a fp wr n Rel OK) (hh : A.handled = none) (ok : OK s.heap) (kvs : List (Key × V)) (hl : kvs.length = n)
    (hc : ∀ i key v, Rel i key v → ∃ k x, kvs[i]? = some (k, x) ∧ (L2.mixKind prog w).is k key = true ∧ RelV x v) (hsz : n ≤ sizeLine)
    (h : ∀ h' tk rs, KV (mergeK [] kvs) rs → h'.DictOf (L2.mixKind prog w) s.heap.objs.size rs → (∀ b o, b ∉ wr → s.heap.get? b = some o → h'.get? b = some o) → Q (.ref s.heap.objs.size) { s with heap := h', toks := tk }) :
    wpAny (model prog w) A (call (.type "dict") [.ref a]) Q E s := by
  refine call_dict_arg P ok fun s₁ hs₁ hdf ok₁ => ?_
  subst hs₁
  refine updateFrom_arg (A := A.in1) (Tab := fun i h => ∃ rs, KV (mergeK [] (kvs.take i)) rs ∧ h.DictOf (L2.mixKind prog w) s.heap.objs.size rs) P .none hh ok₁ hdf ⟨[], .nil, Heap.DictOf.new s.heap⟩ (fun _ _ ⟨_, _, tb⟩ => tb.lt_size)
    (fun i h h' wr' hd _ ⟨rs, r, tb⟩ hk => ⟨rs, r, tb.at' fun o e => hk _ o hd e⟩) ?_ ?_
  · intro i key v s' Q' E' hi hrel ⟨rs, r, tb⟩ _ hQ
    obtain ⟨k, x, hk, his, rx⟩ := hc i key v hrel
    have hlen : rs.length ≤ i := by
      have h1 := r.length
      have h2 := length_mergeK (kvs.take i) []
      have h3 : (kvs.take i).length ≤ i := by rw [List.length_take]; omega
      rw [List.length_nil] at h2
      omega
    refine wpAny_dictSet_pairs (knd := L2.mixKind prog w) his tb (fun h' hm' hs => hQ h' _ ⟨_, ?_, hm'⟩ hs) (by omega)
    have e : mergeK [] (kvs.take (i + 1)) = putK (mergeK [] (kvs.take i)) k x := by
      rw [List.take_add_one, hk]
      show mergeK [] (kvs.take i ++ [(k, x)]) = _
      unfold mergeK
      rw [List.foldl_append] <;> rfl
    rw [e]
    exact r.put k rx
  · intro h' tk ⟨rs, r, tb⟩ hk
    rw [List.take_of_length_le (Nat.le_of_eq hl)] at r
    exact ⟨rfl, h h' tk rs r tb fun b o hw e => hk b o (Nat.ne_of_lt (Heap.lt_size e)) hw (Heap.get?_push_of_some _ e)⟩
/-- the pairs of two texts -/
def zipS (s t : List Nat) : List (Key × V) := (s.zip t).map fun p => (.inr (mk [p.1]), .str (mk [p.2]))
def tDZ (ta : TA) : TE := fun σ H Q => ta σ H fun vs H1 => ∃ s t : List Nat, vs = [.str (mk s), .str (mk t)] ∧ s.length ≤ 1000000 ∧ ∀ p, H1 p = none → Q (.ref p) (upd H1 p (.dK (mergeK [] (zipS s t))))
theorem text_there {x : Str} {t : Tok} {it : Addr} : ∀ (i : Nat) (h : Heap), h.IsStrIter it (strIterType x) x t i → ∀ b ∈ [it], ∃ o, h.get? b = some o := fun i h st b hb => by
  rw [List.mem_singleton.mp hb]
  obtain ⟨o, ho, _⟩ := st
  exact ⟨o, ho⟩
section
variable {X : Cx}
theorem pe_dz {e e2 : Expr} {ta : TA} {p1 pos1 p2 pos2 : Pos} (hc : X.calm = true) (hg : Gl X "dict") (hm : X.mg "dict" = none) (hg2 : Gl X "zip") (hm2 : X.mg "zip" = none) (ha : PA X [e, e2] ta)
    (hs : starEach [e, e2] X.env = (false, eval e X.env) :: starEach [e2] X.env := by rfl) (hpl : (backTo pos2 (starEach [e2] X.env)).any (·.1) = false := by rfl)
    (hs2 : starEach [.Call (.Name "zip" p2) [e, e2] [] pos2] X.env = (false, eval (.Call (.Name "zip" p2) [e, e2] [] pos2) X.env) :: starEach [] X.env := by rfl) :
    PE X (.Call (.Name "dict" p1) [.Call (.Name "zip" p2) [e, e2] [] pos2] [] pos1) (tDZ ta) := by
  refine ⟨fun pins s σ H Q I h => ?_⟩
  refine Call_ (ld_blt I hg hm PyProof.Rows.boot_dict (PyProof.Rows.callWith_type1 (args_cons (Call_ (ld_blt I hg2 hm2 PyProof.Rows.boot_zip (PyProof.Rows.callWith_type1 (thn (ha.run pos2 pins s σ H _ I h) fun us s1 ⟨vs, H1, I1, r1, q1⟩ => ?_) hs hpl)))) hs2 rfl))
  obtain ⟨x, y, ex, hx, q⟩ := q1
  subst ex
  cases r1 with
  | cons r rr =>
    cases rr with
    | cons r' rr =>
      cases rr
      obtain ⟨t1, rfl⟩ := r
      obtain ⟨t2, rfl⟩ := r'
      refine zip_begins2 (begins_text (mk x) t1) (begins_text (mk y) t2) trivial trivial fun h' hz hTI hTO h1 h2 hsz hk => args_nil ?_
      have sep := zip_sep2 (N := s1.heap.objs.size) (fp1 := []) (fp2 := []) (fun _ h => nomatch h) (fun _ h => nomatch h)
      have hl : (zipS x y).length = min (mk x).cps.size (mk y).cps.size := by
        unfold zipS
        rw [List.length_map, List.length_zip, show (mk x).cps.size = x.length from mk_len x, show (mk y).cps.size = y.length from mk_len y]
      have hmin : min (mk x).cps.size (mk y).cps.size ≤ 1000000 := Nat.le_trans (Nat.min_le_left ..) (by rw [show (mk x).cps.size = x.length from mk_len x]; exact hx)
      refine call_dict_rel (s := { s1 with heap := h' }) (Ez.zipArg sep (fun A hA => Draws.text hA _ (mk x) t1) (fun A hA => Draws.text hA _ (mk y) t2) X.A (I1.ok.hd hc) text_there text_there) (I1.ok.hd hc)
        ⟨hz, hTI, ⟨_, _, hTO⟩, ⟨_, h1, rfl, rfl⟩, ⟨_, h2, rfl, rfl⟩⟩ (zipS x y) hl (fun i key v rel => ?_) (Nat.le_trans hmin (by decide)) fun h2' tk rs hkv hd hk2 => ?_
      · obtain ⟨⟨c, u, ec, rfl⟩, d, u', ed, rfl⟩ := rel
        refine ⟨.inr (mk [c]), .str (mk [d]), ?_, ?_, ⟨u', rfl⟩⟩
        · have e1 : x[i]? = some c := by
            have : (mk x).cps.toList[i]? = some c := by rw [← ec]; simp
            exact this
          have e2 : y[i]? = some d := by
            have : (mk y).cps.toList[i]? = some d := by rw [← ed]; simp
            exact this
          unfold zipS
          rw [List.getElem?_map, (List.getElem?_zip_eq_some (z := (c, d))).mpr ⟨e1, e2⟩] <;> rfl
        · show L2.keyIs (.inr (mk [c])) (.str (mk [c]) u) = true
          exact decide_eq_true rfl
      · have hm0 : (h'.objs.size == sysModules) = false := beq_eq_false_iff_ne.mpr (by
          have := I1.big
          rw [hsz]
          exact Nat.ne_of_gt (Nat.lt_of_lt_of_le this (Nat.le_add_right _ _)))
        have hlen : (mergeK [] (zipS x y)).length ≤ sizeLine := by
          refine Nat.le_trans (length_mergeK (zipS x y) []) ?_
          rw [List.length_nil, Nat.zero_add, hl]
          exact Nat.le_trans hmin (by decide)
        have ge : s1.heap.objs.size ≤ h'.objs.size := by rw [hsz]; exact Nat.le_add_right _ _
        refine ⟨.ref h'.objs.size, upd H1 h'.objs.size (.dK (mergeK [] (zipS x y))), I1.laid (t' := tk) (fun b o e => hk2 b o (fun hb => ?_) (hk b o e)) ge (show ObjOk X.prog X.w _ _ _ (.dK (mergeK [] (zipS x y))) from ⟨hlen, hm0, rs, hkv, hd⟩), rfl, q _ (I1.hok.fresh ge)⟩
        have lt := Heap.lt_size e
        have hb' : b = s1.heap.objs.size + 4 ∨ b = s1.heap.objs.size + 3 ∨ b = s1.heap.objs.size ∨ b = s1.heap.objs.size + 1 := by simpa using hb
        have lt' : (b : Nat) < s1.heap.objs.size := lt
        rcases hb' with z | z | z | z <;> (rw [z] at lt'; first | exact absurd lt' (Nat.lt_irrefl _) | exact absurd lt' (Nat.not_lt.mpr (Nat.le_add_right _ _)))
end
/-- the dict of the pairs of two texts -/
def dzD (s t : List Nat) : List (Key × D) := (s.zip t).foldl (fun a p => putD a (.inr (mk [p.1])) (.str [p.2])) []
theorem rp_dz {K : PySem.W.Frag} {H : Hp} (s t : List Nat) : RpKv K H (mergeK [] (zipS s t)) (dzD s t) := by
  unfold mergeK zipS dzD
  generalize hv : ([] : List (Key × V)) = v0
  generalize hd : ([] : List (Key × D)) = d0
  have h0 : RpKv K H v0 d0 := by rw [← hv, ← hd]; exact .nil
  clear hv hd
  generalize s.zip t = l
  induction l generalizing v0 d0 with
  | nil => exact h0
  | cons p r ih => exact ih _ _ (h0.put (.str _))
section
variable {K : PySem.W.Frag} {E B : List Addr} {ss : List Sl} {m : Bool} {o0 : Os} {ta : TA}
theorem ev_dz {s t : List Nat} (h : EaD K E B m ss o0 ta [.str s, .str t]) (hs : s.length ≤ 1000000 := by decide) : EvD K E B m ss o0 (tDZ ta) (.dic (dzD s t)) := fun Z os σ H i A Q q => h Z os σ H i A _ fun vs ds H1 g1 r1 e => by
  subst e
  cases r1 with
  | cons a r1 =>
    cases r1 with
    | cons b r1 =>
      cases r1; cases a; cases b
      exact ⟨s, t, rfl, hs, fun p hp => q _ _ _ (g1.trans (.new hp)) (.dic (((A.rg m).go g1).new hp) (rp_dz s t)) (fun z => absurd z (by simp)) rfl⟩
end
end Da
/-! Static methods, instances that are called. -/
namespace Da
open PySem L2
variable [Tbs]
/-- C.m is a static method: its record at p, its def at g -/
structure SMet (K : PySem.W.Frag) (C : Addr) (m : Str) (p g : Addr) : Prop where
  rd : PySem.W.readsIn K C (.type "type") = true
  ga : PySem.W.specialIn K (.ref C) "__getattribute__" = some (some (.builtin "type.__getattribute__"))
  at_ : PySem.W.findCls K (.ref C) (.type "type") m = some (.get (.builtin "staticmethod.__get__") (.ref p) .none (.ref C))
  rc : ∃ rest, PySem.W.recIn K p "staticmethod" = some (.ref g :: rest)
  kp : PySem.W.keepIn K (.ref g) = true
/-- .. read off an instance -/
structure SMetI (K : PySem.W.Frag) (C : Addr) (m : Str) (p g : Addr) : Prop where
  pg : PySem.W.plainGet K C m = true
  ic : PySem.W.isClsIn K C = true
  at_ : PySem.W.findIn K (.ref C) m = some (some (.ref p))
  ty : PySem.W.typeIn K (.ref p) = some (.type "staticmethod")
  get : PySem.W.specialIn K (.ref p) "__get__" = some (some (.builtin "staticmethod.__get__"))
  tk : PySem.W.takesIn K (.ref p) = some false
  cp : PySem.W.copiedNames.contains m = false
  rc : ∃ rest, PySem.W.recIn K p "staticmethod" = some (.ref g :: rest)
  kp : PySem.W.keepIn K (.ref g) = true
def tSMeth (C : Addr) (sp : Sp) (E : XK) (ta : TE) (t : TA) : TE := fun σ H Q => ta σ H fun x H1 => x = .ref C ∧ t σ H1 fun vs H2 => sp vs H2 Q E
def tSMethI (C : Addr) (m : Str) (sp : Sp) (E : XK) (ta : TE) (t : TA) : TE := fun σ H Q => ta σ H fun x H1 => ∃ a dx fs, x = .ref a ∧ H1 a = some (.ins C dx fs) ∧ fs.lookup m = none ∧ t σ H1 fun vs H2 => sp vs H2 Q E
section
variable {X : Cx} {pins : List (Addr × Obj)} {σ : L2.St} {H : Hp} {s : Shared} {CX : CXT} {k : Nat} {C p g : Addr} {fd : FuncData} {ps : List Str} {sp : Sp} {E : XK} {o e fe : Expr} {es : List Expr} {m : Str} {pos apos : Pos} {ta tf : TE} {t : TA} {pl : Sem Bool}
theorem fnR_of {P : Program} {w : World} {K : PySem.W.Frag} {mg : Str → Option Value} {base : Heap} {f : Addr} (F : FnOk P w K mg base CX k f fd ps sp) (hb : Binds K fd ps []) : FnR P w K mg base CX k f sp :=
  (FnOk.raw F hb .nil).imp fun vs H Q E h => by rw [List.append_nil]; exact h
theorem getmethsm_ok {A : Around} {E : Value → Shared → Prop} {pl : Sem Bool} {Q : Value × List Value → Shared → Prop} (I : Inv X pins σ H s) (k : SMet X.K C m p g) (h : ∀ s', Inv X pins σ H s' → Q (.ref g, []) s') :
    wpAny (model X.prog X.w) A (getMethod (.ref C) m pl) Q E s := by
  obtain ⟨rest, hp⟩ := k.rc
  refine PySem.W.method_cls I.kIn k.ga (PySem.W.cls_bind I.kIn k.rd k.at_ ?_)
  refine wpAny_call (PySem.W.sm_get (s := { s with toks := s.toks + 1 }) I.kIn hp (PySem.W.handed_on rfl ?_))
  exact h _ (I.tok _)
theorem getmethsi_ok {A : Around} {E : Value → Shared → Prop} {a : Addr} {ox od : Obj} {Q : Value × List Value → Shared → Prop} (I : Inv X pins σ H s) (J : PySem.W.InstAt s.heap a ox C (some od)) (hl : PySem.W.lookIn m od = some none) (k : SMetI X.K C m p g)
    (h : ∀ s', Inv X pins σ H s' → Q (.ref g, []) s') : wpAny (model X.prog X.w) A (getMethod (.ref a) m pl) Q E s := by
  obtain ⟨rest, hp⟩ := k.rc
  refine PySem.W.method_usual (r := some (.ref p)) I.kIn J (PySem.W.plainGet_of k.pg).1 (PySem.W.plainGet_of k.pg).2 k.at_ ?_ ?_
  · show ((PySem.W.typeIn X.K (.ref p)).any fun t => t != .type "function" && t != .type "method_descriptor" && t != .type "wrapper_descriptor") = true
    rw [k.ty]
    first
    | rfl
    | decide +kernel
  · refine PySem.W.get_bind I.kIn J (PySem.W.plainGet_of k.pg).1 (ClX.find_cm k.ic k.at_ k.get k.tk k.cp hl) (PySem.W.plainGet_of k.pg).2 ?_
    refine wpAny_call (PySem.W.sm_get (s := { s with toks := s.toks + 1 }) I.kIn hp (PySem.W.handed_on rfl ?_))
    exact h _ (I.tok _)
theorem pe_smeth (he : PE X o ta) (c : SMet X.K C m p g) (F : FnOk X.prog X.w X.K X.mg X.base CX k g fd ps sp) (hr : Room k X.A) (hb : Binds X.K fd ps []) (hx : Passes CX X E) (ha : PA X (e :: es) t)
    (hst : starEach (e :: es) X.env = (false, eval e X.env) :: starEach es X.env := by rfl) (hpl : (backTo pos (starEach es X.env)).any (·.1) = false := by rfl)
    (ht : eval (.Call (.Attribute o m apos) (e :: es) [] pos) X.env = (do
      let ov ← eval o X.env
      standAt apos.atName
      let (f, first) ← holding [ov] (getMethod ov m pl)
      callWith pos f first (backTo pos (starEach (e :: es) X.env)) (backToKw pos (keywordEach [] X.env))) := by rfl) :
    PE X (.Call (.Attribute o m apos) (e :: es) [] pos) (tSMeth C sp E ta t) := by
  refine ⟨fun pins s σ H Q I h => ?_⟩
  refine PySem.W.methodCall_KW (pl := pl) (thn (he.run pins s σ H _ I h) fun u s1 ⟨x, H1, I1, rx, ex, q⟩ => ?_) ht
  subst ex
  obtain rfl : u = Value.ref C := rx
  refine getmethsm_ok I1 c fun s2 I2 => ?_
  refine PySem.W.callWith_K (first := []) (h₀ := X.base) I.ok.mod.kin c.kp (thn (ha.run pos pins s2 σ H1 _ I2 q) fun us s3 ⟨vs, H2, I3, r, q2⟩ => ⟨I3.kIn, ?_⟩) hst hpl
  exact run_fn (dvs := []) (us := us) (vs := vs) F hr hb .nil hx I3 r (by rw [List.append_nil]; exact q2)
theorem pe_smethI (he : PE X o ta) (c : SMetI X.K C m p g) (F : FnOk X.prog X.w X.K X.mg X.base CX k g fd ps sp) (hr : Room k X.A) (hb : Binds X.K fd ps []) (hx : Passes CX X E) (ha : PA X (e :: es) t)
    (hst : starEach (e :: es) X.env = (false, eval e X.env) :: starEach es X.env := by rfl) (hpl : (backTo pos (starEach es X.env)).any (·.1) = false := by rfl)
    (ht : eval (.Call (.Attribute o m apos) (e :: es) [] pos) X.env = (do
      let ov ← eval o X.env
      standAt apos.atName
      let (f, first) ← holding [ov] (getMethod ov m pl)
      callWith pos f first (backTo pos (starEach (e :: es) X.env)) (backToKw pos (keywordEach [] X.env))) := by rfl) :
    PE X (.Call (.Attribute o m apos) (e :: es) [] pos) (tSMethI C m sp E ta t) := by
  refine ⟨fun pins s σ H Q I h => ?_⟩
  refine PySem.W.methodCall_KW (pl := pl) (thn (he.run pins s σ H _ I h) fun u s1 ⟨x, H1, I1, rx, a, dx, fs, ex, ea, l, q⟩ => ?_) ht
  subst ex
  obtain rfl : u = Value.ref a := rx
  obtain ⟨mA, O, rr, _, _, _⟩ := ins_get I1.hok ea
  have hn : mA m = none := RelO.none_of (by rw [← l]; exact rr m)
  obtain ⟨od, J, hl⟩ := O.look
  refine getmethsi_ok I1 J (by rw [hl m, hn]) c fun s2 I2 => ?_
  refine PySem.W.callWith_K (first := []) (h₀ := X.base) I.ok.mod.kin c.kp (thn (ha.run pos pins s2 σ H1 _ I2 q) fun us s3 ⟨vs, H2, I3, r, q2⟩ => ⟨I3.kIn, ?_⟩) hst hpl
  exact run_fn (dvs := []) (us := us) (vs := vs) F hr hb .nil hx I3 r (by rw [List.append_nil]; exact q2)
/-- f(e, ..), f an instance with a dict of the class at C -/
def tCallI (C : Addr) (sp : Sp) (E : XK) (tf : TE) (t : TA) : TE := fun σ H Q => tf σ H fun y H1 => ∃ a, y = V.ref a ∧ t σ H1 fun vs H2 => (∃ dx fs, H2 a = some (.ins C dx fs)) ∧ sp (V.ref a :: vs) H2 Q E
theorem pe_callI (hf : PE X fe tf) (c : StX.CallO X.K C g) (F : FnOk X.prog X.w X.K X.mg X.base CX k g fd ps sp) (hr : Room k X.A) (hb : Binds X.K fd ps []) (hx : Passes CX X E) (ha : PA X (e :: es) t)
    (ht : eval (.Call fe (e :: es) [] pos) X.env = (do callWith pos (← eval fe X.env) [] (backTo pos (starEach (e :: es) X.env)) (backToKw pos (keywordEach [] X.env))) := by rfl)
    (he : starEach (e :: es) X.env = (false, eval e X.env) :: starEach es X.env := by rfl) (hpl : (backTo pos (starEach es X.env)).any (·.1) = false := by rfl) : PE X (.Call fe (e :: es) [] pos) (tCallI C sp E tf t) := by
  refine ⟨fun pins s σ H Q I h => ?_⟩
  refine PyProof.Rows.Call_ (thn (hf.run pins s σ H _ I h) fun u s1 ⟨y, H1, I1, ry, a, ey, q⟩ => ?_) ht
  subst ey
  obtain rfl : u = Value.ref a := ry
  refine StX.callO_with (thn (ha.run pos pins s1 σ H1 _ I1 q) fun us s2 ⟨vs, H2, I2, r, ⟨dx, fs, hi⟩, q2⟩ => ?_) he hpl
  obtain ⟨ox, od, J, hd⟩ := StX.insC_at I2 (.inr ⟨dx, fs, hi⟩)
  exact ⟨⟨C, ox, od, J, hd⟩, wpAny_call (PySem.W.kco_code I2.kIn J hd c.at_ c.fn c.fi (run_fnR (us := .ref a :: us) (vs := .ref a :: vs) (fnR_of F hb) hr hx I2 (.cons rfl r) q2))⟩
end
section
variable {K : PySem.W.Frag} {E B : List Addr} {Z : List (List Addr × Hp)} {ss : List Sl} {m F : Bool} {o0 : Os} {te ta : TE} {P : D → Prop} {C : Addr} {fs : List (Str × D)}
/-- f(..), f an own object -/
theorem ev_callI {pre : List D → Prop} {post : List D → D → Prop} {X : XK} {t : TA} {ds : List D} (h : EvD K E B m ss o0 te (.obj C fs)) (ht : EaD K E B m ss o0 t ds) (h1 : pre (.obj C fs :: ds)) (h3 : ∀ d, post (.obj C fs :: ds) d → P d) :
    Ev K E B m ss o0 F (tCallI C (SpX K false pre F post) X te t) P := fun Z os σ H i A Q q => h Z os σ H i A _ fun v x H1 g r _ e => by
  subst e
  cases id r with
  | obj k1 k2 =>
    refine ⟨_, rfl, ?_⟩
    refine ht Z os σ H1 i (A.go g) _ fun vs es H2 g2 r2 e2 => ?_
    subst e2
    have rr := ((A.rg m).go g).keep g2 r
    refine ⟨?_, sp_go A (g.trans g2) (.cons rr r2) h1 fun v d H' g r f p => q v d H' g r f (h3 d p)⟩
    cases rr with
    | obj k1 k2 => exact ⟨_, _, era_sub _ _ _ _ k1⟩
/-- C.m(..), m a static method -/
theorem ev_smeth {pre : List D → Prop} {post : List D → D → Prop} {X : XK} {t : TA} {ds : List D} (h : EvD K E B m ss o0 te (.raw (.ref C))) (ht : EaD K E B m ss o0 t ds) (h1 : pre ds) (h3 : ∀ d, post ds d → P d) :
    Ev K E B m ss o0 F (tSMeth C (SpX K false pre F post) X te t) P := fun Z os σ H i A Q q => h Z os σ H i A _ fun v x H1 g r _ e => by
  subst e
  cases r
  refine ⟨rfl, ?_⟩
  refine ht Z os σ H1 i (A.go g) _ fun vs es H2 g2 r2 e2 => ?_
  subst e2
  exact sp_go A (g.trans g2) r2 h1 fun v d H' g r f p => q v d H' g r f (h3 d p)
/-- .. read off an object -/
theorem ev_smethI {pre : List D → Prop} {post : List D → D → Prop} {X : XK} {mn : Str} {t : TA} {ds : List D} (h : EvD K E B m ss o0 te (.obj C fs)) (nm : fs.lookup mn = none) (ht : EaD K E B m ss o0 t ds) (h1 : pre ds) (h3 : ∀ d, post ds d → P d) :
    Ev K E B m ss o0 F (tSMethI C mn (SpX K false pre F post) X te t) P := fun Z os σ H i A Q q => h Z os σ H i A _ fun v x H1 g r _ e => by
  subst e
  cases id r with
  | obj k1 k2 =>
    refine ⟨_, _, _, rfl, era_sub _ _ _ _ k1, k2.none nm, ?_⟩
    refine ht Z os σ H1 i (A.go g) _ fun vs es H2 g2 r2 e2 => ?_
    subst e2
    exact sp_go A (g.trans g2) r2 h1 fun v d H' g r f p => q v d H' g r f (h3 d p)
end
end Da
/-! A dict comprehension that is stored before its block goes. -/
namespace Da
open PySem PySem.Spec L2 PyProof.Rows
variable [Tbs]
section
variable {X : Cx}
theorem dcu_core {pins : List (Addr × Obj)} {s : Shared} {σ : L2.St} {H : Hp} {Q : VK} {use : Option (Value → Sem Unit)} {Qf : Value → Shared → Prop} {pos' : Pos} {kx vx tg iter : Expr} {ifs : List Expr} {rest : List Comprehension} {scope : Scope} {own : List (Str × Nat)} {pos : Pos} {wi : TI} {g : TG} {tt : TT} {act : Addr → Env → Sem Fin → Sem Fin} {vs0 : List Nat} {t : Addr → L2.St → Hp → (Hp → Prop) → Prop}
    (I : Inv X pins σ H s) (calm : X.calm = true) (nd : X.N.Nodup) (pi : PI X tg iter wi) (ok : BlkOk X.N X.env.scope scope own)
    (pg : ∀ (s : Shared) (H : Hp) (C : Addr) (cl : List (Str × Addr)) (fp : List Addr), PG (X.blk s H scope (compEnvC scope cl C X.env) fp) tg g)
    (pt : ∀ (s : Shared) (H : Hp) (C : Addr) (cl : List (Str × Addr)) (fp : List Addr), PTs (X.blk s H scope (compEnvC scope cl C X.env) fp) ifs tt)
    (pa : ∀ (D : Addr) (s : Shared) (H : Hp) (C : Addr) (cl : List (Str × Addr)) (fp : List Addr), Act (X.blk s H scope (compEnvC scope cl C X.env) fp) (act D (compEnvC scope cl C X.env)) vs0 (t D)) (sub : ∀ i ∈ vs0, i ∈ own.map (·.2))
    (turn : ∀ (D : Addr) (it : Value) (env : Env), compTurn (.DictComp kx vx (⟨tg, iter, ifs, 0⟩ :: rest) scope pos) 0 it (.ref D) env = turnOf iter.pos tg ifs it env (act D env) (again (.compLoop (.DictComp kx vx (⟨tg, iter, ifs, 0⟩ :: rest) scope pos) 0 it (.ref D) env)))
    (den : ∀ (D : Addr) (it : Value) (env : Env), X.A.under (.compLoop (.DictComp kx vx (⟨tg, iter, ifs, 0⟩ :: rest) scope pos) 0 it (.ref D) env) = X.A ∧ (model X.prog X.w).den (.compLoop (.DictComp kx vx (⟨tg, iter, ifs, 0⟩ :: rest) scope pos) 0 it (.ref D) env) = (compTurn (.DictComp kx vx (⟨tg, iter, ifs, 0⟩ :: rest) scope pos) 0 it (.ref D) env).onRaise fun x => do noteFrame x env; theTreesLotGoes x)
    (fold : ∀ x, foldedSetIterable iter X.env x = pure x)
    (h : tDcG wi g tt t (own.map (·.2)) σ H Q)
    (hRR : ∀ D C s' m H', Inv X pins σ H' s' → Q (.ref D) H' → s'.heap.Ns C m → FpOk X pins H' C → compPost (model X.prog X.w) X.A X.xe use Qf (.ref D) C (.ok .next) s') :
    wpAny (model X.prog X.w) X.A (comprehension (.DictComp kx vx (⟨tg, iter, ifs, 0⟩ :: rest) scope pos) scope X.env pos' (newDict #[]) false (eval iter X.env) use) Qf X.xe s := by
  have bound : ∀ y ∈ scope.names, y.2 = .free → ∃ c, X.env.cells.lookup y.1 = some c := fun y hy f => (ok.free y hy f).elim (fun z => I.ok.has _ (.inl z)) fun z => I.ok.has _ (.inr z)
  refine wpAny_comprehension_free (use := use) rfl fold (closure_ok bound) ok.kind (fun y hy f => by rw [ok.uniq y hy, f]) (thn (pi.run pins s σ H _ I h) fun x s1 hx => thn hx ?_)
  rintro _ s2 ⟨it, fp, tn, J, H2, rfl, I2, T, st2, f2, q⟩
  refine wpAny_newObj_type (newEnv_comp ?_)
  have fresh : H2 s2.heap.objs.size = none := I2.hok.fresh (Nat.le_refl _)
  obtain ⟨W, ⟨m0, w0⟩, over⟩ := q _ fresh
  -- the dict is laid
  have I3 : Inv X pins σ (upd H2 s2.heap.objs.size (.dK [])) { s2 with heap := s2.heap.push { cls := .type "dict", data := .dict #[] } } :=
    I2.laid (t' := s2.toks) (fun _ _ got => Heap.get?_push_of_some _ got) (Nat.le_refl _) (dk_empty s2.heap I2.big)
  have below : ∀ b ∈ fp, b < s2.heap.objs.size := fun b hb => by
    obtain ⟨o, got, _⟩ := T.obj _ _ st2 b hb
    exact Heap.lt_size got
  have off : ∀ b ∈ fp, upd H2 s2.heap.objs.size (.dK []) b = none := fun b hb => by
    rw [upd_ne (Nat.ne_of_lt (below b hb))]
    exact (f2 b hb).1
  generalize hs3 : ({ s2 with heap := s2.heap.push { cls := .type "dict", data := .dict #[] } } : Shared) = s3 at I3
  have grown : ∀ b o, s2.heap.get? b = some o → s3.heap.get? b = some o := fun b o got => by
    rw [← hs3]
    exact Heap.get?_push_of_some _ got
  have size : s3.heap.objs.size = s2.heap.objs.size + 1 := by
    rw [← hs3]
    exact Heap.size_push _ _
  generalize hD : s2.heap.objs.size = D at w0 over off I3 size below ⊢
  have far : ∀ b ∈ fp, FpOk X pins (upd H2 D (.dK [])) b ∧ b < s3.heap.objs.size := fun b hb => ⟨⟨off b hb, (f2 b hb).2⟩, by rw [size]; exact Nat.lt_succ_of_lt (below b hb)⟩
  have I4 := block_start I3 ok nd far
  generalize hH : upd H2 D (.dK []) = H3 at I3 I4 off w0 far
  have st3 : tn 0 (pushCells (s3.heap.push { cls := .type "dict", data := .dict #[] }) scope.names) := T.keep _ _ _ st2 fun b _ o got => pushCells_keeps _ _ _ _ (Heap.get?_push_of_some _ (grown b o got))
  have loop := clause_loop (Y := X.blk s3 H3 scope (compEnvC scope (cellsFrom (s3.heap.objs.size + 1) scope.names (cloFrom X.env.cells scope.names [])) s3.heap.objs.size X.env) fp) (W := W) (Done := Q (.ref D)) (σ := σ) (pins := []) (acc := .ref D) (k := 0)
    calm rfl (pg s3 H3 _ _ fp) (pt s3 H3 _ _ fp) (pa D s3 H3 _ _ fp) sub T (turn D (.ref it) _) (den D (.ref it) _)
    (fun H' s' I' none_ b hb => ⟨none_ b hb, (I'.ok.exf b hb).1, I'.ok.exfs b hb, .inl hb, fun x c got => (I'.ok.exf b hb).2 x c got, fun p hp => nomatch hp⟩) over I4 st3 off w0
  have out : codeAny (model X.prog X.w) X.A (.compLoop (.DictComp kx vx (⟨tg, iter, ifs, 0⟩ :: rest) scope pos) 0 (.ref it) (.ref D) (compEnvC scope (cellsFrom (s3.heap.objs.size + 1) scope.names (cloFrom X.env.cells scope.names [])) s3.heap.objs.size X.env))
      (compPost (model X.prog X.w) X.A X.xe use Qf (.ref D) s3.heap.objs.size) { s3 with heap := pushCells (s3.heap.push { cls := .type "dict", data := .dict #[] }) scope.names } := by
    refine codeAny_mono loop fun r s' hr => ?_
    match r, hr with
    | .ok _, ⟨rfl, H5, I5, dn⟩ =>
      have back : Inv X pins σ H5 s' := I3.call' (ch := fp) I5.os I5.base I5.hok I5.bare fun b hb => ⟨(far b hb).1.2.2.2.1, (far b hb).1.2.1, (far b hb).1.2.2.2.2.1, (far b hb).1.2.2.2.2.2⟩
      have free : H5 s3.heap.objs.size = none := I5.free
      obtain ⟨m, ns, _⟩ := I5.loc
      exact hRR D _ s' m H5 back dn ns (I3.fpOk (Nat.le_refl _) free)
  have go := codeAny_compStart_dict out (T.self X.A 0 _ _ _ st3 out)
  subst hs3
  subst hD
  exact go
/-- name = {k: v for .. in ..} on one line, the name a local -/
theorem ps_setDc1 {i : Nat} {y : Str} {py : Pos} {kx vx tg iter : Expr} {ifs : List Expr} {scope : Scope} {own : List (Str × Nat)} {pos spos : Pos} {wi : TI} {g : TG} {tt : TT} {tk tv : TE} (calm : X.calm = true) (nd : X.N.Nodup) (hy : X.N[i]? = some y) (hyl : X.env.scope.names.lookup y = some .local)
    (hsw : swapsWith (.DictComp kx vx [⟨tg, iter, ifs, 0⟩] scope pos) (some (.Name y py)) spos.line X.env = pure true) (pi : PI X tg iter wi) (ok : BlkOk X.N X.env.scope scope own)
    (pg : ∀ (s : Shared) (H : Hp) (C : Addr) (cl : List (Str × Addr)) (fp : List Addr), PG (X.blk s H scope (compEnvC scope cl C X.env) fp) tg g)
    (pt : ∀ (s : Shared) (H : Hp) (C : Addr) (cl : List (Str × Addr)) (fp : List Addr), PTs (X.blk s H scope (compEnvC scope cl C X.env) fp) ifs tt)
    (pk : ∀ (s : Shared) (H : Hp) (C : Addr) (cl : List (Str × Addr)) (fp : List Addr), PE (X.blk s H scope (compEnvC scope cl C X.env) fp) kx tk)
    (pv : ∀ (s : Shared) (H : Hp) (C : Addr) (cl : List (Str × Addr)) (fp : List Addr), PE (X.blk s H scope (compEnvC scope cl C X.env) fp) vx tv)
    (fold : ∀ x, foldedSetIterable iter X.env x = pure x := by intro _; rfl) :
    PS X (.Assign [.Name y py] (.DictComp kx vx [⟨tg, iter, ifs, 0⟩] scope pos) spos) (tAsg (tDcG wi g tt (fun D => tPut D tk tv) (own.map (·.2))) (gName i)) := by
  refine ⟨fun pins s σ H D I h => ?_⟩
  rw [exec_Assign_Name_used _ _ _ _ hsw]
  refine wpAny_bind (wpAny_standAt (wpAny_bind ?_))
  show wpAny _ X.A (do let _ ← comprehension (.DictComp kx vx [⟨tg, iter, ifs, 0⟩] scope pos) scope X.env (firstIterPos [⟨tg, iter, ifs, 0⟩] pos) (newDict #[]) false (eval iter X.env) (some (assign (.Name y py) X.env))) _ _ s
  have h : tDcG wi g tt (fun D => tPut D tk tv) (own.map (·.2)) σ H (fun x H1 => gName i x σ H1 D.nx) := h
  refine wpAny_bind (thn (dcu_core (Qf := fun _ s' => SP X pins D .next s') (act := fun D env => actSet kx vx D env) I calm nd pi ok pg pt (fun D s H C cl fp => act_put rfl (pk s H C cl fp) (pv s H C cl fp)) (fun i hi => nomatch hi) (fun D it env => by rfl) (fun D it env => ⟨rfl, rfl⟩) fold h fun L C s' m H' I' q hn f => ?_) fun _ s' hq => wpAny_pure (wpAny_pure hq))
  show wpAny _ _ (assign (.Name y py) X.env (.ref L)) _ _ _
  refine wpAny_assign_Name (store_ok2 (v := V.ref L) I' nd hy (.inl hyl) rfl (fun s2 I2 ⟨a, sb, ha⟩ => ?_) (.inr hyl))
  obtain ⟨f0, f1, f2, f3, f4, f5⟩ := f
  have haC : C ≠ a := by
    rcases ha with z | z
    · rw [z]; exact f1
    · exact fun e => f4 y a z e.symm
  refine ⟨m, hn.sameBut sb haC, fun h3 sb3 => ?_⟩
  exact ⟨_, H', I2.turned (t' := s2.toks) (fun b o hb e => (sb3.2 b hb).trans e) f0 f1 f3 f4 f5, q⟩
theorem sw_trueD {kx vx : Expr} {gs : List Comprehension} {scope : Scope} {pos py : Pos} {y : Str} {l : Nat} {env : Env} (hk : env.scope.kind = .function) (hy : env.scope.names.lookup y = some .local) (hl : (py.line == pos.line) = true)
    (ha : (scope.names.any fun (n, k) => n == y && (k == .local || k == .cell)) = false) : swapsWith (.DictComp kx vx gs scope pos) (some (.Name y py)) l env = pure true := by
  have ky : env.kindOf y = some .local := hy
  have hb : env.blockKind = .function := by unfold Env.blockKind; rw [hk]; rfl
  unfold swapsWith
  simp only [hb, ky, ha, Expr.pos, hl]
  rfl
end
end Da
/-! [.. for .. for ..] of what is only known by a relation. -/
namespace Da
open PySem L2
variable [Tbs]
inductive MadeP (T : D → D → D → Prop) : List (D × D) → List D → Prop
  | nil : MadeP T [] []
  | cons {x y d : D} {ps : List (D × D)} {ds : List D} : T x y d → MadeP T ps ds → MadeP T ((x, y) :: ps) (d :: ds)
theorem MadeP.append {T : D → D → D → Prop} : ∀ {ps qs : List (D × D)} {ds es : List D}, MadeP T ps ds → MadeP T qs es → MadeP T (ps ++ qs) (ds ++ es)
  | _, _, _, _, .nil, s => s
  | _, _, _, _, .cons h r, s => .cons h (r.append s)
theorem MadeP.length {T : D → D → D → Prop} : ∀ {ps : List (D × D)} {ds : List D}, MadeP T ps ds → ds.length = ps.length
  | _, _, .nil => rfl
  | _, _, .cons _ r => congrArg (· + 1) r.length
def prs (g1 : D → List D) (ds : List D) : List (D × D) := ds.flatMap fun x => (g1 x).map fun y => (x, y)
section
variable {K : PySem.W.Frag} {E B W R : List Addr} {Z : List (List Addr × Hp)} {H0 H H' : Hp} {ss : List Sl} {os : Os} {σ : L2.St} {m F : Bool} {o0 : Os} {te ta tb tc : TE} {PA PB P P' : D → Prop} {Dn : Ends}
theorem ev_lc2R {wi wi1 : TI} {j j1 : Nat} {vs vs1 : List Nat} {ds : List D} (g1 : D → List D) (T : D → D → D → Prop) (h : EvID K E B ss o0 wi ds) (hj : j ∈ vs) (hj1 : j1 ∈ vs1)
    (h1 : ∀ x, x ∈ ds → EvID K E B ((wip ss vs).set j (.dat x)) o0 wi1 (g1 x)) (hz : (prs g1 ds).length ≤ 1000000)
    (he : ∀ x, x ∈ ds → ∀ y, y ∈ g1 x → Ev K E B true ((wip ((wip ss vs).set j (.dat x)) vs1).set j1 (.dat y)) o0 F te (T x y)) :
    Ev K E B m ss o0 true (tLc2 wi (gName j) tYes wi1 (gName j1) tYes te vs vs1) (fun d => ∃ outs, d = .lst outs ∧ MadeP T (prs g1 ds) outs) :=
  fun Z os σ H io A Q q => h Z os σ H io A _ fun J es H1 g it p => fun Dl nD => by
    subst p
    have A1 := A.go g
    have Aw := (A1.wipe vs).ownNew nD (vs := []) (ds := []) .nil
    refine ⟨fun i mm H' => mm = es.length - i ∧ i ≤ es.length ∧ ∃ outs, MadeP T (prs g1 (es.take i)) outs ∧ At K E B Z (wip ss vs) ((Dl, .lst outs) :: os) (L2.wipe σ vs) H' ∧ Go B H1 H',
      ⟨es.length, by simp, Nat.zero_le _, [], .nil, Aw, Go.new nD⟩, ?_⟩
    rintro i mm H' ⟨rfl, hi, outs, mk, A', g'⟩
    obtain ⟨f1, f2, f3⟩ := it H' (fun a o n e t => g'.one (fun z => n (List.mem_append_right _ (A.bE a z))) e t)
    by_cases hlt : i < es.length
    · refine .inr ⟨f1 i hlt, fun H' => ∃ outs, MadeP T (prs g1 (es.take (i + 1))) outs ∧ At K E B Z (wip ss vs) ((Dl, .lst outs) :: os) (L2.wipe σ vs) H' ∧ Go B H1 H', fun H2 h2 => ⟨es.length - (i + 1), by omega, rfl, hlt, h2⟩, fun x H2 y => ?_⟩
      obtain ⟨rfl, d, hd, r⟩ := f3 i x H2 hlt y
      have hmem : d ∈ es := List.mem_of_getElem? hd
      have etake : es.take (i + 1) = es.take i ++ [d] := by rw [List.take_add_one, hd] <;> rfl
      have eprs : prs g1 (es.take (i + 1)) = prs g1 (es.take i) ++ (g1 d).map fun y => (d, y) := by
        unfold prs
        rw [etake, List.flatMap_append, List.flatMap_cons, List.flatMap_nil, List.append_nil]
      have r2 : ∀ {H3 : Hp} {o1 : List D}, Go B H1 H3 → Rp K (era H3 (ads ((Dl, OD.lst o1) :: os) ++ E)) x d := fun {H3 o1} g3 => r.mono fun a o e t => by
        obtain ⟨na, e⟩ := era_some e
        have nap : a ≠ Dl := ne_of_none e nD
        rw [era_in (by simp [nap] at *; exact na)]
        exact g3.one (fun z => na (List.mem_append_right _ (A.bE a z))) e t
      have A2 := A'.set (i := j) (r2 g')
      refine ⟨wipe_self hj, ?_⟩
      refine yes_t ?_
      refine h1 d hmem Z _ _ H2 (fun x hx => List.mem_cons_of_mem _ (io x hx)) A2 _ fun J1 ds1 H4 g4 it1 e => ?_
      subst e
      have g24 := g'.trans g4
      refine ⟨fun k mm H' => mm = (g1 d).length - k ∧ k ≤ (g1 d).length ∧ ∃ outs, MadeP T (prs g1 (es.take i) ++ ((g1 d).take k).map fun y => (d, y)) outs ∧ At K E B Z (wip ss vs) ((Dl, .lst outs) :: os) (L2.wipe σ vs) H' ∧ Go B H1 H' ∧
        ∀ a o, a ∉ B → a ≠ Dl → H4 a = some o → NT o → H' a = some o, ⟨(g1 d).length, by simp, Nat.zero_le _, outs, by simpa using mk, by simpa using A'.go g4, g'.trans g4, fun _ _ _ _ e _ => e⟩, ?_⟩
      rintro k mm H5 ⟨rfl, hk, outs5, mk5, A5, g5, s5⟩
      obtain ⟨e1, e2, e3⟩ := it1 H5 (fun a o n e t => s5 a o (fun z => n (List.mem_append_right _ (A.bE a z))) (fun z => n (by simp [z])) e t)
      by_cases hkl : k < (g1 d).length
      · refine .inr ⟨e1 k hkl, fun H' => ∃ outs, MadeP T (prs g1 (es.take i) ++ ((g1 d).take (k + 1)).map fun y => (d, y)) outs ∧ At K E B Z (wip ss vs) ((Dl, .lst outs) :: os) (L2.wipe σ vs) H' ∧ Go B H1 H' ∧
          ∀ a o, a ∉ B → a ≠ Dl → H4 a = some o → NT o → H' a = some o, fun H6 h6 => ⟨(g1 d).length - (k + 1), by omega, rfl, hkl, h6⟩, fun y H6 yy => ?_⟩
        obtain ⟨rfl, d1, hd1, ry⟩ := e3 k y H6 hkl yy
        have hm1 : d1 ∈ g1 d := List.mem_of_getElem? hd1
        have A6 := ((A5.set (i := j) (r2 g5)).wipe vs1).set (i := j1) (v := y) (d := d1) (ry.mono (era_mono (fun a o n e t => s5 a o (fun z => n (List.mem_append_right _ (A.bE a z))) (fun z => n (by simp [z])) e t) fun _ h => h))
        refine ⟨wipe_self hj1, ?_⟩
        refine yes_t ?_
        refine he d hmem d1 hm1 Z _ _ H6 (fun x hx => List.mem_cons_of_mem _ (io x hx)) A6 _ fun u e H7 g7 ru _ pe => ?_
        have A7 := A5.go g7
        obtain ⟨ws, e7, r7⟩ := A7.own Dl _ List.mem_cons_self
        have ek : (g1 d).take (k + 1) = (g1 d).take k ++ [d1] := by rw [List.take_add_one, hd1] <;> rfl
        have mk7 : MadeP T (prs g1 (es.take i) ++ ((g1 d).take (k + 1)).map fun y => (d, y)) (outs5 ++ [e]) := by
          rw [ek, List.map_append, ← List.append_assoc]
          exact mk5.append (.cons pe .nil)
        have short : outs5.length ≤ 1000000 := by
          rw [mk5.length]
          refine Nat.le_trans ?_ hz
          have : es = es.take i ++ d :: es.drop (i + 1) := by
            obtain ⟨hl, he0⟩ := List.getElem?_eq_some_iff.mp hd
            rw [← he0, List.getElem_cons_drop, List.take_append_drop]
          have e9 : prs g1 es = prs g1 (es.take i) ++ ((g1 d).map (fun y => (d, y)) ++ prs g1 (es.drop (i + 1))) := by
            conv => lhs; rw [this]
            unfold prs
            rw [List.flatMap_append, List.flatMap_cons]
          rw [e9, List.length_append, List.length_append, List.length_append, List.length_map, List.length_map, List.length_take]
          omega
        refine ⟨ws, e7, ?_, ⟨outs5 ++ [e], mk7, A7.put (r7.append (.cons ru .nil)), (g5.trans g7).past nD fun t => tabs_lst t e7, fun a o n1 n2 e t => ?_⟩⟩
        · rw [r7.length]
          exact Nat.lt_of_le_of_lt short (by decide)
        · rw [upd_ne n2]
          exact g7.one n1 (s5 a o n1 n2 e t) t
      · have : k = (g1 d).length := by omega
        subst this
        refine .inl ⟨e2 _ (Nat.le_refl _), outs5, ?_, ?_, g5⟩
        · rw [eprs]
          rw [List.take_length] at mk5
          exact mk5
        · exact A5
    · have : i = es.length := by omega
      subst this
      refine .inl ⟨f2 _ (Nat.le_refl _), ?_⟩
      rw [List.take_length] at mk
      obtain ⟨ws, e, r⟩ := A'.own Dl _ List.mem_cons_self
      have nE : Dl ∉ ads os ++ E := fun z => by
        rcases List.mem_append.mp z with z | z
        · exact A1.tracked z nD
        · exact A1.ent Dl z nD
      have sub : ∀ a, a ∈ er m os E → a ∈ Dl :: (ads os ++ E) := fun a ha => by
        cases m with
        | true => exact List.mem_cons_of_mem _ ha
        | false => exact List.mem_cons_of_mem _ (List.mem_append_right _ ha)
      refine q _ _ H' (g.trans g') (.lst (xs := ws) ?_ (r.mono (era_less H' sub))) (fun _ => ⟨Dl, ws, _, rfl, rfl, g.free A.bag nD, e, r.mono (era_less H' fun a ha => ?_)⟩) ⟨outs, rfl, mk⟩
      · rw [era_in]
        · exact e
        · cases m with
          | true => exact nE
          | false => exact fun z => nE (List.mem_append_right _ z)
      · rcases List.mem_cons.mp ha with rfl | ha
        · exact List.mem_cons_self
        · exact sub a ha
end
end Da
namespace Da
open PySem L2
variable [Tbs]
section
variable {K : PySem.W.Frag} {B : List Addr}
theorem o_shr {C : Int → Int → Prop} {i j : Int} (c : C i j) : Op2 K B (rI C fun i j => .int (i / 2 ^ j.toNat)) (.int i) (.int j) false (fun x => x = .int (i / 2 ^ j.toNat)) := o_I (d := fun i j => .int (i / 2 ^ j.toNat)) (fun i j H => .int _) c
theorem o_pow {C : Int → Int → Prop} {i j : Int} (c : C i j) : Op2 K B (rI C fun i j => .int (i ^ j.toNat)) (.int i) (.int j) false (fun x => x = .int (i ^ j.toNat)) := o_I (d := fun i j => .int (i ^ j.toNat)) (fun i j H => .int _) c
end
theorem pi_listK {X : Cx} {K : PySem.W.Frag} {tg l : Expr} {tl : TE} (e : X.K = K) (hl : PE X l tl) : PI X tg l (iList K tl) := e ▸ pi_list hl
theorem pi_tupK {X : Cx} {K : PySem.W.Frag} {tg l : Expr} {tl : TE} (e : X.K = K) (hl : PE X l tl) : PI X tg l (iTup K tl) := e ▸ pi_tup hl
theorem pe_joinK {X : Cx} {K : PySem.W.Frag} {o e : Expr} {to te : TE} {apos pos : Pos} (q : X.K = K) (ho : PE X o to) (he : PE X e te) (hs : starEach [e] X.env = [(false, eval e X.env)] := by rfl) (hbase : attributeBase o "join" X.env (eval o X.env) = eval o X.env := by rfl) (hline : (apos.endLine == pos.line) = true := by rfl) :
    PE X (.Call (.Attribute o "join" apos) [e] [] pos) (tM1 (rJoin K) to te) := q ▸ pe_join ho he hs hbase hline
end Da
/-! == and != of own objects as their __eq__ says; in over a list of them. -/
namespace Da
open PySem L2 PyProof.Rows
variable [Tbs]
section
variable {X : Cx} {pins : List (Addr × Obj)} {σ : L2.St} {H : Hp} {s : Shared} {CX : CXT} {k n : Nat} {C f : Addr} {fd : FuncData} {ps : List Str} {sp : Sp} {E : XK}
theorem call_own {A : Around} {a b : Addr} {Q : VK} (I : Inv X pins σ H s) (sb : L2.Sub X k A) (F : FnOk X.prog X.w X.K X.mg X.base CX k f fd ps sp) (hb : Binds X.K fd ps []) (hx : Passes CX X E) (hsp : sp [.ref a, .ref b] H Q E) :
    wpAny (model X.prog X.w) A (call (.ref f) [.ref a, .ref b]) (EP X pins σ Q) X.xe s := by
  have e0 : Env0 X.prog X.w X.K X.mg X.base A X.stack s H := by
    have e := I.env0
    exact ⟨by rw [sb.fr]; exact e.frames, e.mod, e.bs, e.bsz, e.funs, e.frf, e.hok, e.bare⟩
  have hl := F.len _ _ _ _ hsp
  have r2 : Vals [V.ref a, V.ref b] [Value.ref a, Value.ref b] := .cons rfl (.cons rfl .nil)
  refine wpAny_call (codeAny_mono (F.run A X.stack s H ⟨[.ref a, .ref b], []⟩ [.ref a, .ref b] [.ref a, .ref b] _ E sb.room e0 (by
    have := hb s [.ref a, .ref b] I.kIn (by simpa using hl)
    simpa using this) r2 hsp) fun r s' hq => ?_)
  cases r with
  | error e => exact hx pins σ H s e s' I hq
  | ok fl =>
    cases fl with
    | ret w => exact I.after hq
    | next => exact False.elim hq
    | brk => exact False.elim hq
    | cont => exact False.elim hq
/-- == or != (g) of two own objects -/
def rOwn (C : Addr) (sp : Sp) (g : Bool → Bool) (E : XK) : R2 := fun x y H Q => ∃ a b dx dy fs gs, x = V.ref a ∧ y = V.ref b ∧ H a = some (.ins C dx fs) ∧ H b = some (.ins C dy gs) ∧ sp [.ref a, .ref b] H (fun v H' => ∃ r, v = .bl r ∧ Q (.bl (g r)) H') E
theorem rc_own {A : Around} {x y : V} {u v : Value} {Q : VK} (I : Inv X pins σ H s) (sb : L2.Sub X k A) (F : FnOk X.prog X.w X.K X.mg X.base CX k f fd ps sp) (m : Meth X.K C "__eq__" f) (hb : Binds X.K fd ps []) (hx : Passes CX X E)
    (rx : RelV x u) (ry : RelV y v) (h : rOwn C sp (fun b => b) E x y H Q) : wpAny (model X.prog X.w) A (richCompare .Eq u v) (fun r s' => ∃ b H', r = .bool b ∧ Inv X pins σ H' s' ∧ Q (.bl b) H') X.xe s := by
  obtain ⟨a, b, dx, dy, fs, gs, rfl, rfl, ha, hb', hr⟩ := h
  cases rx
  cases ry
  obtain ⟨mA, J, _⟩ := ins_get I.hok ha
  obtain ⟨mB, J', _⟩ := ins_get I.hok hb'
  obtain ⟨od, J, _⟩ := J.look
  obtain ⟨od', J', _⟩ := J'.look
  obtain ⟨m', hF⟩ := I.fr
  refine PySem.W.cmp_K (op := .Eq) (tb := .ref C) sb.room.units0 hF I.ok.mod.kin J J'.type (by simp [PySem.W.notFirst]) m.at_ m.fn ?_
  refine wpAny_mono (call_own I sb F hb hx hr) (fun w s' q => ?_) fun _ _ e => e
  obtain ⟨z, H', I', rz, r, e, q⟩ := q
  subst e
  cases rz
  exact ⟨r, H', rfl, I', q⟩
theorem op_eqC (F : FnOk X.prog X.w X.K X.mg X.base CX k f fd ps sp) (m : Meth X.K C "__eq__" f) (hr : Room k X.A) (hb : Binds X.K fd ps []) (hx : Passes CX X E) : OpR X (compareOp .Eq) (rOwn C sp (fun b => b) E) := by
  intro pins s σ H x y v u Q I rx ry h
  show wpAny (model X.prog X.w) X.A (richCompare .Eq v u) (EP X pins σ Q) X.xe s
  refine wpAny_mono (rc_own I ⟨hr, rfl⟩ F m hb hx rx ry h) (fun r s' z => ?_) fun _ _ x => x
  obtain ⟨b, H', e, I', q⟩ := z
  subst e
  exact ⟨.bl b, H', I', rfl, q⟩
/-- the class has no __ne__ of its own -/
structure NeObj (K : PySem.W.Frag) (C : Addr) : Prop where
  at_ : PySem.W.findIn K (.ref C) "__ne__" = some (some (.builtin "object.__ne__"))
  sub : PySem.W.subIn K (.ref C) (.type "object") = some true
theorem ifBound_ne {M : Model} {A : Around} {E : Value → Shared → Prop} {K : PySem.W.Frag} {x : Addr} {ox : Obj} {od : Option Obj} {args : List Value} {Q : Option Value → Shared → Prop} (X : K.In s.heap) (I : PySem.W.InstAt s.heap x ox C od) (hs : PySem.W.findIn K (.ref C) "__ne__" = some (some (.builtin "object.__ne__")))
    (h : wpAny M A (call (.builtin "object.__ne__") (.ref x :: args)) (fun v => Q (some v)) E s) : wpAny M A (callSpecialIfBound? (.ref x) "__ne__" args) Q E s := by
  simp only [callSpecialIfBound?, bindSpecialIfBound?]
  refine wpAny_holding (wpAny_bind (wpAny_bind (wpAny_bind (I.type.here ((PySem.W.looks_findIn X hs).here ?_)))))
  simp only [F.cmp_object.ne.bind]
  refine wpAny_bind (wpAny_askSetting (wpAny_ite ?_))
  have fin : wpAny M A (call (.builtin "object.__ne__") ([.ref x] ++ args) >>= fun v => pure (some v)) Q E s := wpAny_bind (wpAny_mono h (fun v s' h' => wpAny_pure h') fun _ _ h' => h')
  split
  · exact wpAny_bind (wpAny_pure (wpAny_pure fin))
  · exact wpAny_tryCatch (wpAny_bind (wpAny_pure (wpAny_pure fin)))
theorem op_neC (Fo : FnOk X.prog X.w X.K X.mg X.base CX k f fd ps sp) (m : Meth X.K C "__eq__" f) (ne : NeObj X.K C) (hr : Room (k + 1) X.A) (hb : Binds X.K fd ps []) (hx : Passes CX X E) : OpR X (compareOp .NotEq) (rOwn C sp (fun b => !b) E) := by
  intro pins s σ H x y v u Q I rx ry h
  obtain ⟨a, b, dx, dy, fs, gs, rfl, rfl, ha, hb', hr'⟩ := h
  cases rx
  cases ry
  obtain ⟨mA, J, _⟩ := ins_get I.hok ha
  obtain ⟨mB, J', _⟩ := ins_get I.hok hb'
  obtain ⟨od, J, _⟩ := J.look
  obtain ⟨od', J', _⟩ := J'.look
  have one : wpAny (model X.prog X.w) X.A (tryCompare (.ref a) (cmpInfo .NotEq).2.1 (.ref b)) (fun r s' => ∃ v, r = some v ∧ EP X pins σ Q v s') X.xe s := by
    show wpAny _ _ (tryCompare (.ref a) "__ne__" (.ref b)) _ _ _
    simp only [tryCompare]
    refine wpAny_bind (ifBound_ne I.kIn J ne.at_ (wpAny_call (codeAny_call_builtin F.cmp_object.ne.plain F.cmpEntry_ne (PySem.W.check_slot F.cmpKind_ne F.cmpSplit_ne ?_ (F.cmpArgs_ne _ _) ?_))))
    · exact J.type.andThen (PySem.W.looks_subIn I.kIn ne.sub)
    · unfold Builtin.«object.__ne__»
      have hcall := call_own (A := X.A.in1) (a := a) (b := b) I ⟨hr.in1, rfl⟩ Fo hb hx hr'
      repeat (first
        | with_reducible refine wpAny_cRoomFor (show X.A.in1.units < cLine from hr.in1.units0) ?_
        | (refine wpAny_bind (m := callSpecialIfBound? (.ref a) (Str.ofString "__eq__") [.ref b])
            (PySem.W.ifBound_K I.kIn J m.at_ m.fn (wpAny_mono hcall (fun w s' q => by
              obtain ⟨z, H', I', rz, r, e, q⟩ := q
              subst e
              cases rz
              have fin : EP X pins σ Q (.bool (!r)) s' := ⟨.bl (!r), H', I', rfl, q⟩
              repeat (first | exact ⟨_, rfl, fin⟩ | exact wpAny_pure ⟨_, rfl, fin⟩ | (refine wpAny_bind (m := truthy (.bool _)) (wpAny_truthy_bool ?_)) | wp_step)) fun _ _ e => e)))
        | wp_step)
  show wpAny (model X.prog X.w) X.A (richCompare .NotEq (.ref a) (.ref b)) (EP X pins σ Q) X.xe s
  unfold richCompare
  simp only [oneThing_ref]
  refine wpAny_holding (wpAny_bind (wpAny_cRoomFor hr.units0 ?_))
  refine wpAny_bind (J.type.here (wpAny_bind (J'.type.here ?_)))
  rw [show (Value.ref C != Value.ref C) = false from by simp]
  simp only [Bool.false_eq_true, if_false]
  refine wpAny_bind (wpAny_pure ?_)
  simp only [Bool.false_eq_true, if_false]
  refine wpAny_bind (wpAny_mono one (fun r s' z => ?_) fun _ _ e => e)
  obtain ⟨v, rfl, hq⟩ := z
  exact wpAny_pure hq
end
end Da
/-! x in a list of own objects. -/
namespace Da
open PySem L2 PyProof.Rows
variable [Tbs]
section
open PySem.SeqAt
open AutoSeq1 (wpAny_loadPart')
open MeetsSeq MeetsSeq2 MeetsSeq3 SeqRoads2
variable {prog : Program} {w : World} {A : Around} {R : Result → Shared → Prop}
/-- at each turn the list is read anew -/
def ContI (prog : Program) (w : World) (A : Around) (R : Result → Shared → Prop) (l : Addr) (x : Value) (N : Nat) (I : Nat → Shared → Prop) : Prop :=
  ∀ i s, I i s → ∃ (items : Array Value) (n : Nat), s.heap.get? l = some { cls := .type "list", data := .seq items n } ∧ items.size = N ∧
    ∀ (h1 : i < items.size), wpAny (model prog w) A.in1 (eqBool items[i] x) (fun r s' => (r = true → R (.ok (.ret (.bool true))) s') ∧ (r = false → I (i + 1) s')) (fun e s' => R (.error e) s') s
theorem contains_loopG (l : Addr) (x : Value) (N : Nat) (I : Nat → Shared → Prop) (hl : ContI prog w A R l x N I)
    (fin : ∀ s, I N s → R (.ok (.ret (.bool false))) s) (k : Nat) :
    ∀ i : Nat, N - i = k → i ≤ N → ∀ s, I i s →
      wpAny (model prog w) A.in1 (Builtin.«list.__contains__.loop» ⟨[.ref l, x, rawInt i], []⟩) (GQ.FinOf prog w A R) (fun e s' => R (.error e) s') s := by
  induction k with
  | zero =>
    intro i hk hi s h
    obtain ⟨items, n, hl1, hs1, _⟩ := hl _ _ h
    have hi' : i = N := by omega
    have hR : R (.ok (.ret (.bool false))) s := fin s (hi' ▸ h)
    obtain ⟨hp, g, d, tk, os⟩ := s
    wp_walk using wpAny_loadPart' hl1
    have hi1 : items[((i : Nat) : Int).toNat]? = none := by simp; omega
    rw [hi1]
    wp_walk
    exact hR
  | succ k ih =>
    intro i hk hi s h
    obtain ⟨items, n, hl1, hs1, turn⟩ := hl _ _ h
    have hlt : i < items.size := by omega
    have ht := turn hlt
    obtain ⟨hp, g, d, tk, os⟩ := s
    wp_walk using wpAny_loadPart' hl1
    have hi1 : items[((i : Nat) : Int).toNat]? = some items[i] := by simp [hlt]
    have hc : ((i : Int) + 1) = ((i + 1 : Nat) : Int) := by omega
    rw [hi1]
    refine wpAny_bind (wpAny_mono ht (fun r s2 h2 => ?_) fun _ _ x => x)
    obtain ⟨h1, h2⟩ := h2
    cases r with
    | true =>
      have h1 := h1 rfl
      wp_walk
      exact h1
    | false =>
      have hrec := ih (i + 1) (by omega) (by omega) s2 (h2 rfl)
      obtain ⟨hp2, g2, d2, tk2, os2⟩ := s2
      wp_walk
      rw [hc]
      exact ⟨plainId_quiet plain_contains_loop _, codeAny_builtin entry_contains_loop (by
        rw [Around.under_plainId plain_contains_loop _]
        exact hrec)⟩
theorem list_containsG (l : Addr) (x : Value) (N : Nat) (I : Nat → Shared → Prop) (hl : ContI prog w A R l x N I)
    (fin : ∀ s, I N s → R (.ok (.ret (.bool false))) s) {s : Shared} (h : I 0 s) :
    wpAny (model prog w) A.in1 (Builtin.«list.__contains__» ⟨[.ref l, x], []⟩) (GQ.FinOf prog w A R) (fun e s' => R (.error e) s') s := by
  obtain ⟨items, n, hl1, hs1, _⟩ := hl _ _ h
  have hrec := contains_loopG (A := A) (R := R) l x N I hl fin _ 0 rfl (Nat.zero_le _) s h
  obtain ⟨hp, g, d, tk, os⟩ := s
  wp_walk using wpAny_loadPart' hl1
  exact ⟨plainId_quiet plain_contains_loop _, codeAny_builtin entry_contains_loop (by
    rw [Around.under_plainId plain_contains_loop _]
    exact hrec)⟩
end
section
variable {X : Cx} {pins : List (Addr × Obj)} {σ : L2.St} {H : Hp} {s : Shared} {CX : CXT} {k n : Nat} {C f : Addr} {fd : FuncData} {ps : List Str} {sp : Sp} {E : XK}
/-- the items from now on, asked one by one -/
def InOwn (C : Addr) (sp : Sp) (E : XK) (a p : Addr) (all : List V) : List V → Hp → (Bool → Hp → Prop) → Prop
  | [], H, Q => H p = some (.lst all) ∧ Q false H
  | y :: ys, H, Q => H p = some (.lst all) ∧ ∃ b dx dy fs gs, y = .ref b ∧ H a = some (.ins C dx fs) ∧ H b = some (.ins C dy gs) ∧ (b = a → Q true H) ∧
      (b ≠ a → sp [.ref b, .ref a] H (fun v H' => ∃ r, v = .bl r ∧ (fun (v : V) (H' : Hp) => (v = .bl true → Q true H') ∧ (v = .bl false → InOwn C sp E a p all ys H' Q)) (.bl r) H') E)
theorem InOwn.p {a p : Addr} {all ys : List V} {Q : Bool → Hp → Prop} (h : InOwn C sp E a p all ys H Q) : H p = some (.lst all) := by
  cases ys with
  | nil => exact h.1
  | cons y ys => exact h.1
def rInOwn (C : Addr) (sp : Sp) (E : XK) : R2 := fun x y H Q => ∃ a p ys, x = V.ref a ∧ y = V.ref p ∧ InOwn C sp E a p ys ys H (fun r H' => Q (.bl r) H')
theorem op_inC (Fo : FnOk X.prog X.w X.K X.mg X.base CX k f fd ps sp) (m : Meth X.K C "__eq__" f) (hr : Room (k + 1) X.A) (hb : Binds X.K fd ps []) (hx : Passes CX X E) : OpR X (compareOp .In) (rInOwn C sp E) := by
  intro pins s σ H x y v u Q I rx ry h
  obtain ⟨a, p, ys, rfl, rfl, h⟩ := h
  cases rx
  cases ry
  have hT : s.TypeIs (.ref p) "list" := by
    obtain ⟨z, its, c, r, e⟩ := I.hok p _ h.p
    exact ⟨_, e, rfl⟩
  have core : wpAny (model X.prog X.w) X.A (call (.builtin "list.__contains__") [.ref p, .ref a]) (fun v s' => ∃ r H', v = Value.bool r ∧ Inv X pins σ H' s' ∧ Q (.bl r) H') X.xe s := by
    refine GQ.call_here F.slot_list_contains hT F.entry_list_contains (F.args_list_contains_2 _ _) ?_
    refine list_containsG (A := X.A) (R := wants (fun v s' => ∃ r H', v = Value.bool r ∧ Inv X pins σ H' s' ∧ Q (.bl r) H') X.xe) p (.ref a) ys.length (fun i s' => i ≤ ys.length ∧ ∃ H', Inv X pins σ H' s' ∧ InOwn C sp E a p ys (ys.drop i) H' (fun r H' => Q (.bl r) H')) (fun i s' q => ?_) (fun s' q => ?_) ⟨Nat.zero_le _, H, I, h⟩
    · obtain ⟨hi, H1, I1, q⟩ := q
      obtain ⟨z, its, c, r, e⟩ := I1.hok p _ q.p
      refine ⟨its.toArray, c, e, by rw [List.size_toArray, ← r.length], fun h1 => ?_⟩
      have h1' : i < its.length := by simpa using h1
      have k1 : i < ys.length := by rw [r.length]; exact h1'
      rw [List.drop_eq_getElem_cons k1] at q
      obtain ⟨_, b, dx, dy, fs, gs, ey, ha, hb', q1, q2⟩ := q
      obtain ⟨u, hu, ru⟩ := r.get (List.getElem?_eq_getElem k1)
      rw [List.getElem?_eq_getElem h1'] at hu
      rw [ey] at ru
      have hu : its[i] = u := Option.some.inj hu
      have hu2 : its.toArray[i] = .ref b := by
        have : its.toArray[i] = its[i] := by simp
        rw [this, hu]
        cases ru
        rfl
      rw [hu2]
      show wpAny (model X.prog X.w) X.A.in1 (eqBool (.ref b) (.ref a)) (fun r s2 => (r = true → ∃ r' H', Value.bool true = Value.bool r' ∧ Inv X pins σ H' s2 ∧ Q (.bl r') H') ∧ (r = false → i + 1 ≤ ys.length ∧ ∃ H', Inv X pins σ H' s2 ∧ InOwn C sp E a p ys (ys.drop (i + 1)) H' (fun r H' => Q (.bl r) H'))) X.xe s'
      by_cases hab : b = a
      · subst hab
        exact SeqAt.EqAt.same (A := X.A.in1) (s := s') (.ref b) X.prog X.w _ _ ⟨fun _ => ⟨true, H1, rfl, I1, q1 rfl⟩, fun z => by cases z⟩
      · refine GQ.eqBool_refG hab (wpAny_mono (rc_own (A := X.A.in1) (x := .ref b) (y := .ref a) (u := .ref b) (v := .ref a) (Q := fun (v : V) (H' : Hp) => (v = .bl true → Q (.bl true) H') ∧ (v = .bl false → InOwn C sp E a p ys (ys.drop (i + 1)) H' (fun r H' => Q (.bl r) H'))) I1 ⟨hr.in1, rfl⟩ Fo m hb hx rfl rfl ⟨b, a, _, _, _, _, rfl, rfl, hb', ha, q2 hab⟩) (fun w s2 z => ?_) fun e s2 z => z)
        obtain ⟨r, H2, e2, I2, q3⟩ := z
        refine ⟨r, e2, fun hr => ?_, fun hr => ?_⟩
        · subst hr
          exact ⟨true, H2, rfl, I2, q3.1 rfl⟩
        · subst hr
          exact ⟨by omega, H2, I2, q3.2 rfl⟩
    · obtain ⟨_, H1, I1, q⟩ := q
      rw [List.drop_length] at q
      exact ⟨false, H1, rfl, I1, q.2⟩
  show wpAny _ _ (do return Value.bool (← contains (.ref p) (.ref a))) _ _ s
  refine wpAny_bind (wpAny_contains_slot hT F.slot_list_contains (wpAny_mono core (fun v s' hv => ?_) fun _ _ e => e))
  obtain ⟨r, H', rfl, I', q⟩ := hv
  exact wpAny_truthy_bool (wpAny_pure ⟨.bl r, H', I', rfl, q⟩)
end
end Da
/-! The data's readings: == and != of own objects, in over a list of them, in over a text. -/
namespace Da
open PySem L2
variable [Tbs]
section
variable {K : PySem.W.Frag} {E B R : List Addr} {Z : List (List Addr × Hp)} {ss : List Sl} {m F : Bool} {o0 : Os} {te ta : TE} {P : D → Prop} {C : Addr} {fs gs : List (Str × D)}
theorem Go.up {H H' : Hp} (g : Go [] H H') : Go B H H' := ⟨fun a o n e => g.stp a o (fun z => nomatch z) e, fun b hb l hg => by
  obtain ⟨x, c, k, ns, e1, e2, rr⟩ := hg
  exact ⟨x, c, k, ns, g.one (fun z => nomatch z) e1 trivial, g.one (fun z => nomatch z) e2 trivial, rr⟩, g.tab⟩
theorem o_own {pre : List D → Prop} {post : List D → D → Prop} {g : Bool → Bool} {X : XK} {b : Bool} (h1 : pre [.obj C fs, .obj C gs]) (h3 : ∀ d, post [.obj C fs, .obj C gs] d → d = .bl b) :
    Op2 K B (rOwn C (SpX K false pre false post) g X) (.obj C fs) (.obj C gs) false (fun x => x = .bl (g b)) := fun R H v w rg r1 r2 Q q => by
  have r1' := r1
  have r2' := r2
  cases r1 with
  | obj k1 _ =>
    cases r2 with
    | obj k2 _ =>
      refine ⟨_, _, _, _, _, _, rfl, rfl, era_sub _ _ _ _ k1, era_sub _ _ _ _ k2, R, _, ⟨fun b hb => (nomatch hb), fun b hb => (nomatch hb), rg.ent, rg.tab⟩, .cons r1' (.cons r2' .nil), h1, fun v d H' gh r _ p => ?_⟩
      have e := h3 d p
      subst e
      cases r
      exact ⟨b, rfl, q _ _ H' gh.up (.bl _) (fun z => absurd z (by simp)) rfl⟩
theorem inOwn_of {pre : List D → Prop} {post : List D → D → Prop} {X : XK} {a p : Addr} {all : List V} (t : D → Bool) {Q : Bool → Hp → Prop} {H0 : Hp}
    :
    ∀ (ys : List V) (ds : List D) (H : Hp), (∀ H d, d ∈ ds → Rp K H (.ref a) (.obj C fs) → Rp K H (.ref a) d → t d = true) → Rg B R H → Go B H0 H → H p = some (.lst all) → Rp K (era H R) (.ref a) (.obj C fs) → RpAll K (era H R) ys ds →
      (∀ d ∈ ds, ∃ gs, d = .obj C gs ∧ pre [.obj C gs, .obj C fs] ∧ ∀ x, post [.obj C gs, .obj C fs] x → x = .bl (t d)) →
      (∀ H', Go B H0 H' → Q (ds.any t) H') → InOwn C (SpX K false pre false post) X a p all ys H Q
  | [], [], H, hs, rg, g0, hp, ra, .nil, hd, q => ⟨hp, q H g0⟩
  | y :: ys, d :: ds, H, hs, rg, g0, hp, ra, .cons ry rs, hd, q => by
    obtain ⟨gs, e, h1, h3⟩ := hd d List.mem_cons_self
    subst e
    have ra' := ra
    have ry' := ry
    cases ra with
    | obj k1 _ =>
      cases ry with
      | @obj b _ dy _ _ k2 _ =>
        refine ⟨hp, b, _, dy, _, _, rfl, era_sub _ _ _ _ k1, era_sub _ _ _ _ k2, fun e => ?_, fun ne => ?_⟩
        · subst e
          have h := q H g0
          rw [List.any_cons, hs _ _ List.mem_cons_self ra' ry', Bool.true_or] at h
          exact h
        · refine ⟨R, _, ⟨fun b hb => (nomatch hb), fun b hb => (nomatch hb), rg.ent, rg.tab⟩, .cons ry' (.cons ra' .nil), h1, fun v x H' gh r _ p => ?_⟩
          have e := h3 x p
          subst e
          cases r
          refine ⟨_, rfl, fun e => ?_, fun e => ?_⟩
          · have h := q H' (g0.trans gh.up)
            rw [List.any_cons, V.bl.inj e, Bool.true_or] at h
            exact h
          · have e : t (.obj C gs) = false := V.bl.inj e
            refine inOwn_of t ys ds H' (fun H d hd => hs H d (List.mem_cons_of_mem _ hd)) (rg.go gh.up) (g0.trans gh.up) (gh.one (fun z => nomatch z) hp trivial) (rg.keep gh.up ra') (rg.keepA gh.up rs) (fun d hd' => hd d (List.mem_cons_of_mem _ hd')) fun H2 g2 => ?_
            have h := q H2 g2
            rw [List.any_cons, e, Bool.false_or] at h
            exact h
/-- x in a list of own objects: whether one of them is told equal -/
theorem o_inOwn {pre : List D → Prop} {post : List D → D → Prop} {X : XK} {ds : List D} (t : D → Bool)
    (hs : ∀ a H d, d ∈ ds → Rp K H (.ref a) (.obj C fs) → Rp K H (.ref a) d → t d = true)
    (hd : ∀ d ∈ ds, ∃ gs, d = .obj C gs ∧ pre [.obj C gs, .obj C fs] ∧ ∀ x, post [.obj C gs, .obj C fs] x → x = .bl (t d)) :
    Op2 K B (rInOwn C (SpX K false pre false post) X) (.obj C fs) (.lst ds) false (fun x => x = .bl (ds.any t)) := fun R H v w rg r1 r2 Q q => by
  have r1' := r1
  cases r1 with
  | @obj a _ _ _ _ k1 _ =>
    cases r2 with
    | @lst p xs _ k2 rs =>
      exact ⟨a, p, xs, rfl, rfl, inOwn_of t xs ds H (hs a) rg .refl (era_sub _ _ _ _ k2) r1' rs hd fun H' g => q _ _ H' g (.bl _) (fun z => absurd z (by simp)) rfl⟩
theorem o_notBl {a b : Bool} : Op2 K B rNotB (.bl a) (.bl b) false (fun x => x = .bl (!decide (a = b))) := fun R H v w _ r1 r2 Q q => by
  cases r1; cases r2
  exact ⟨a, b, rfl, rfl, q _ _ H .refl (.bl _) (fun z => absurd z (by simp)) rfl⟩
theorem ev_slSR {tl th : TO} {PS : List Nat → Prop} {PL PH : Option Int → Prop} (h : Ev K E B m ss o0 false te (fun d => ∃ s, d = .str s ∧ s.length ≤ 1000000 ∧ PS s)) (hl : EvO K E B ss o0 tl PL) (hh : EvO K E B ss o0 th PH) :
    Ev K E B m ss o0 false (tSl rSlS te tl th) (fun d => ∃ s lo hi, PS s ∧ PL lo ∧ PH hi ∧ d = .str (cutL s lo hi)) := fun Z os σ H i A Q q => h Z os σ H i A _ fun v d H1 g1 r _ e => by
  obtain ⟨s, e, hz, ps⟩ := e
  subst e
  cases r
  refine hl Z os σ H1 i (A.go g1) _ fun o H2 g2 e2 => hh Z os σ H2 i ((A.go g1).go g2) _ fun o' H3 g3 e3 => ?_
  refine ⟨mk s, rfl, by rw [mk_len]; exact Nat.le_trans hz (by decide), ?_⟩
  rw [cutS_mk]
  exact q _ _ H3 ((g1.trans g2).trans g3) (.str _) (fun z => absurd z (by simp)) ⟨s, o, o', ps, e2, e3, rfl⟩
theorem et_notD {t : TT} {b : Bool} (h : EvT K E B ss o0 t (fun x => x = b)) : EvT K E B ss o0 (tNot t) (fun x => x = !b) := et_imp (et_not h) fun x e => by
  rw [← e, Bool.not_not]
/-- a text not in a text: where it stands in it -/
theorem o_ninStr {x z : List Nat} {i : Nat} (h : (z.drop i).take x.length = x) (hl : i + x.length ≤ z.length) :
    Op2 K B (fun x y H Q => ∃ i j, x = .str i ∧ y = .str j ∧ Q (.bl (!(!(Builtin.Str.occurrences j i 0 j.length 1).isEmpty))) H) (.str x) (.str z) false (fun x => x = .bl false) := fun R H v w _ r1 r2 Q q => by
  cases r1
  cases r2
  refine ⟨mk x, mk z, rfl, rfl, ?_⟩
  rw [(StrLaws.found_iff (mk z) (mk x)).mpr ⟨i, by rw [mk_len, mk_len]; exact hl, subAt_mk.mpr h⟩]
  exact q _ _ H .refl (.bl _) (fun z => absurd z (by simp)) rfl
end
end Da
/-! set(a text), sorted(set(a text)) -/
namespace Ks
open PySem PySem.Spec PyProof.Rows L2
section
variable {P : Program} {w : World} {A : Around} {E : Value → Shared → Prop} {s : Shared}
set_option maxHeartbeats 8000000 in
theorem call_setT {x : Str} {tx : Tok} (ks : List Key) {Q : Value → Shared → Prop} (calm : A.handled = none) (len : x.cps.size = ks.length) (is : ∀ (i : Nat) (v : Value), SignAt x i v → ∃ k, ks[i]? = some k ∧ (mixKind P w).is k v = true) (room : ks.length + 1 < scanBound)
    (q : ∀ (g : Heap) (t : Nat), Lot P w g s.heap.objs.size (allK ks) → (∀ b o, s.heap.get? b = some o → g.get? b = some o) → Q (.ref s.heap.objs.size) { s with heap := g, toks := t }) :
    wpAny (model P w) A (call (.type "set") [.str x tx]) Q E s := by
  obtain ⟨c, tl, mro⟩ := F.called_set.mro
  have f1 := F.called_set.made
  have f2 := F.called_set.sub
  refine wpAny_call (codeAny_of_tree ?_)
  show wpAny _ _ (callAny (.type "set") _) _ _ _
  refine wpAny_pure ⟨Code.quiet_builtin _ (by decide +kernel), codeAny_builtin F.entry_type_call ?_⟩
  rw [Around.under_plain (weight_type_call_type "set" [.str x tx] []) rfl]
  have f3 := F.called_set.notType
  have f4 := F.called_set.canCreate
  have f5 := F.typeCall_set_1 (.str x tx)
  repeat (any_goals (first | assumption | wp_step))
  generalize hB : (s.heap.push (bare w)) = hb at *
  have made : ∀ {B : Around} {Q1 : Value → Shared → Prop}, Q1 (.ref s.heap.objs.size) { s with heap := hb } → codeAny (model P w) B (.call (.builtin "set.__new__") ⟨[.type "set", .str x tx], []⟩) (wants Q1 E) s := fun {B Q1} h => code_set_led1 (.str x tx) (by rw [hB]; exact h)
  refine codeAny_mono (made (Q1 := fun o s1 => o = .ref s.heap.objs.size ∧ s1 = { s with heap := hb }) ⟨rfl, rfl⟩) fun r s1 hr => ?_
  match r, hr with
  | .error e, hr => exact hr
  | .ok (.ret obj), ⟨e1, e2⟩ =>
    subst e1; subst e2
    have oS : hb.get? s.heap.objs.size = some (bare w) := by rw [← hB]; exact Heap.get?_push_size _ rfl
    have tS : Shared.TypeIs { s with heap := hb } (.ref s.heap.objs.size) "set" := ⟨_, oS, rfl⟩
    have f6 := F.called_set.init.lookup
    have f7 := F.called_set.init.bind (.ref s.heap.objs.size)
    repeat (any_goals (first | assumption | wp_step))
    refine codeAny_mono (codeAny_call_builtin (R := wants (fun r s2 => r = .none ∧ ∃ g t, s2 = { s with heap := g, toks := t } ∧ Lot P w g s.heap.objs.size (allK ks) ∧ ∀ b o, s.heap.get? b = some o → g.get? b = some o) E) F.called_set.init.plain F.entry_set_init (check_set_init_1 tS ?_)) fun r2 s2 h2 => ?_
    · have up : ∀ {b o}, s.heap.get? b = some o → hb.get? b = some o := fun {b o} e => by rw [← hB]; exact Heap.get?_push_of_some _ e
      have u1 : isSubtype (.type "str") (.type "set") = pure false := by rw [isSubtype_type]; kernel_rfl
      have u2 : isSubtype (.type "str") (.type "frozenset") = pure false := by rw [isSubtype_type]; kernel_rfl
      have u3 : (Value.type "str" == Value.type "dict") = false := by decide
      unfold Builtin.«set.__init__» noKeywords Builtin.Frozenset.updateFrom
      generalize hPI : pyIter = PI
      wp_walk
      subst hPI
      refine wpAny_pyIter_str (x := x) (t := tx) (fun oI St wk st0 => ?_)
      refine wpAny_bind (wpAny_runValue ?_)
      have sz : hb.objs.size = s.heap.objs.size + 1 := by rw [← hB]; exact Heap.size_push ..
      have c3 : A.in1.in1.in1.handled = none := by simp [calm]
      have offS : s.heap.objs.size ∉ [hb.objs.size] := fun m => by
        rw [sz] at m
        simp only [List.mem_cons, List.not_mem_nil, or_false] at m
        exact absurd m (Nat.ne_of_lt (Nat.lt_succ_self _))
      refine upd_keys ((wk _ c3).toS) offS ks len room is (x.cps.size - 0) 0 _ (by omega) (Nat.zero_le _) st0 ?z0 fun s' mv z' => ?zR
      case z0 =>
        have e0 : allK (ks.take 0) = [] := rfl
        rw [e0]
        have := lot_bare (P := P) (w := w) (h := s.heap)
        rw [hB] at this
        exact this.at fun o e => Heap.get?_push_of_some _ e
      case zR =>
        obtain ⟨g, gs, dr, tk, os⟩ := s'
        obtain rfl : gs = s.gens := mv.gens
        obtain rfl : dr = s.drawn := mv.drawn
        obtain rfl : os = s.os := mv.os
        show wpAny _ _ _ _ _ _
        refine wpAny_pure ?_
        show wpAny _ _ (ret Value.none) _ _ _
        refine wpAny_pure ⟨rfl, g, tk, rfl, z', fun b o e => ?_⟩
        have hb0 := Heap.lt_size e
        refine mv.heap b o (fun m => ?_) (Heap.get?_push_of_some _ (up e))
        simp only [List.mem_cons, List.not_mem_nil, or_false] at m
        rcases m with m | m
        · exact absurd m (Nat.ne_of_lt hb0)
        · rw [sz] at m
          exact absurd m (Nat.ne_of_lt (Nat.lt_succ_of_lt hb0))
    · match r2, h2 with
      | .error e, h2 => exact h2
      | .ok (.ret r), ⟨e1, g, t, e2, z, kp⟩ =>
        subst e1; subst e2
        repeat (any_goals (first | assumption | wp_step))
        exact q g t z kp
end
section
open Da
variable {X : Cx}
/-- set(a text) -/
def rSetT (P : Program) (w : World) : List V → Hp → VK → Prop := fun vs H Q => ∃ (x : List Nat), vs = [V.str (Da.mk x)] ∧ x.length + 1 < scanBound ∧
  ∀ D, H D = none → Q (.ref D) (upd H D (LotO P w D (allK (x.map fun c => kx [c]))))
theorem cr_setT (calm : X.calm = true) : CallR X (.type "set") (rSetT X.prog X.w) := by
  intro pins s σ H vs us Q I r h
  obtain ⟨x, rfl, room, q⟩ := h
  cases r with
  | cons r1 r =>
    cases r
    obtain ⟨t, rfl⟩ := r1
    refine call_setT (P := X.prog) (w := X.w) (x.map fun c => kx [c]) (I.ok.hd calm) (by rw [List.length_map]; exact Da.mk_len x) (fun i v hv => ?_) (by rw [List.length_map]; exact room) fun g t z kp => ?_
    · obtain ⟨c, u, e1, e2⟩ := hv
      subst e2
      have e1 : x[i]? = some c := by simpa [Da.mk] using e1
      refine ⟨kx [c], by rw [List.getElem?_map, e1] <;> rfl, mixKind_str _ _ _ _⟩
    · have hn : H s.heap.objs.size = none := I.hok.fresh (Nat.le_refl _)
      exact ⟨.ref _, upd H s.heap.objs.size (LotO X.prog X.w s.heap.objs.size _), I.laid (t' := t) kp (Nat.le_refl _) (lotO_ok z), rfl, q _ hn⟩
end
section
open Da
variable [Tbs]
variable {K : PySem.W.Frag} {E B : List Addr} {ss : List Sl} {m : Bool} {o0 : Os} {te : TE} {P : Program} {w : World}
/-- sorted(set(x)), x a text -/
theorem ev_srtSetT {x : List Nat} (h : EvD K E B m ss o0 te (.str x)) (few : x.length ≤ 4000) :
    Ev K E B m ss o0 true (tCB (rSrtS P w) (tCons (tCB (rSetT P w) (tCons te tNil)) tNil)) (fun d => d = .lst ((asc (x.map fun c => [c])).map .str)) := fun Z os σ H io A Q q => by
  refine h Z os σ H io A _ fun v d H1 g r _ e => ?_
  subst e
  cases r
  refine ⟨x, rfl, by show x.length + 1 < 4096; omega, fun D nD => ?_⟩
  obtain ⟨xs, e1, e2, e3, e4⟩ := allK_is (x.map fun c => [c])
  rw [List.map_map] at e1
  refine ⟨D, _, xs, rfl, upd_same, e1, fun ys p sr np => ?_⟩
  have ey := srted_asc sr e2 e4
  subst ey
  have A1 := (A.rg m).go g
  have A2 := A1.go (B := B) (Go.new (o := LotO P w D (allK (x.map fun c => kx [c]))) nD)
  exact q _ _ _ ((g.trans (Go.new nD)).trans (Go.new np)) (.lst (A2.new np) (rps_tx _ _)) (fun _ => ((New.laid A2 np (rps_tx _ _)).back (g.trans (Go.new nD)) A.bag)) rfl
end
end Ks
/-! != of two lists whose items are told equal by their own __eq__. -/
namespace Da
open PySem L2 PyProof.Rows
variable [Tbs]
section
open PySem.SeqAt
open AutoSeq1 (wpAny_loadPart')
open MeetsSeq MeetsSeq2 MeetsSeq3 SeqRoads2
variable {prog : Program} {w : World} {A : Around} {R : Result → Shared → Prop}
theorem ne_loopG (l b : Addr) (N : Nat) (I : Nat → Shared → Prop) (hl : GQ.ListI prog w A (fun e s' => R (.error e) s') l b N I)
    (fin : ∀ s, I N s → R (.ok (.ret (.bool false))) s) (k : Nat) :
    ∀ i : Nat, N - i = k → i ≤ N → ∀ s, I i s →
      wpAny (model prog w) A.in1 (Builtin.«list.__eq__.loop» ⟨[.ref l, .ref b, rawInt i, rawInt 3], []⟩) (GQ.FinOf prog w A R) (fun e s' => R (.error e) s') s := by
  induction k with
  | zero =>
    intro i hk hi s h
    obtain ⟨items, items2, n, n2, hl1, hb1, hs1, hs2, _⟩ := hl _ _ h
    have hi' : i = N := by omega
    have hR : R (.ok (.ret (.bool false))) s := fin s (hi' ▸ h)
    obtain ⟨hp, g, d, tk, os⟩ := s
    wp_walk using wpAny_loadPart' hl1, wpAny_loadPart' hb1
    have hi1 : items[((i : Nat) : Int).toNat]? = none := by simp; omega
    have hi2 : items2[((i : Nat) : Int).toNat]? = none := by simp; omega
    rw [hi1, hi2]
    wp_walk using wpAny_loadPart' hl1, wpAny_loadPart' hb1
    show R (.ok (.ret (.bool (items.size != items2.size)))) _
    rw [hs1, hs2]
    simpa using hR
  | succ k ih =>
    intro i hk hi s h
    obtain ⟨items, items2, n, n2, hl1, hb1, hs1, hs2, turn⟩ := hl _ _ h
    have hlt : i < items.size := by omega
    have hlt2 : i < items2.size := by omega
    have ht := turn hlt hlt2
    obtain ⟨hp, g, d, tk, os⟩ := s
    wp_walk using wpAny_loadPart' hl1, wpAny_loadPart' hb1
    have hi1 : items[((i : Nat) : Int).toNat]? = some items[i] := by simp [hlt]
    have hi2 : items2[((i : Nat) : Int).toNat]? = some items2[i] := by simp [hlt2]
    have hc : ((i : Int) + 1) = ((i + 1 : Nat) : Int) := by omega
    rw [hi1, hi2]
    refine wpAny_bind (wpAny_mono ht (fun r s2 h2 => ?_) fun _ _ x => x)
    obtain ⟨hr, h2⟩ := h2
    subst hr
    have hrec := ih (i + 1) (by omega) (by omega) s2 h2
    obtain ⟨hp2, g2, d2, tk2, os2⟩ := s2
    wp_walk
    rw [hc]
    exact ⟨plainId_quiet plain_eq_loop _, codeAny_builtin entry_eq_loop (by
      rw [Around.under_plainId plain_eq_loop _]
      exact hrec)⟩
theorem list_neG (l b : Addr) (N : Nat) (I : Nat → Shared → Prop) (hl : GQ.ListI prog w A (fun e s' => R (.error e) s') l b N I)
    (fin : ∀ s, I N s → R (.ok (.ret (.bool false))) s) {s : Shared} (h : I 0 s) :
    wpAny (model prog w) A.in1 (Builtin.«list.__ne__» ⟨[.ref l, .ref b], []⟩) (GQ.FinOf prog w A R) (fun e s' => R (.error e) s') s := by
  obtain ⟨items, items2, n, n2, hl1, hb1, hs1, hs2, _⟩ := hl _ _ h
  have hrec := ne_loopG (A := A) (R := R) l b N I hl fin _ 0 rfl (Nat.zero_le _) s h
  obtain ⟨hp, g, d, tk, os⟩ := s
  have f3 := AutoSeq1.sub_list_list
  have hne : ¬ (items.size != items2.size) = true := by simp [hs1, hs2]
  wp_walk using wpAny_loadPart' hl1, wpAny_loadPart' hb1
  exact ⟨plainId_quiet plain_eq_loop _, codeAny_builtin entry_eq_loop (by
    rw [Around.under_plainId plain_eq_loop _]
    exact hrec)⟩
end
def rNeLG (D : Eqv) : R2 := fun x y H Q => DList D x y H ∧ ∀ H', L2.Ext H H' → Q (.bl false) H'
section
variable {X : Cx} {n : Nat} {Dq : Eqv}
theorem op_neLG (hD : Mon Dq) (h : EqG X n Dq) (hr : Room (n + 1) X.A) : OpR X (compareOp .NotEq) (rNeLG Dq) := by
  intro pins s σ H x y v u Q I rx ry hq
  obtain ⟨d, q⟩ := hq
  obtain ⟨a, b, xs, ys, rfl, rfl, ha, hb, p⟩ := d
  cases rx
  cases ry
  have sb : L2.Sub X (n + 1) X.A := ⟨hr, rfl⟩
  obtain ⟨z, its, k, r, e⟩ := I.hok a _ ha
  obtain ⟨z2, its2, k2, r2, e2⟩ := I.hok b _ hb
  show wpAny (model X.prog X.w) X.A (richCompare .NotEq (.ref a) (.ref b)) (EP X pins σ Q) X.xe s
  refine wpAny_mono (Q := fun v s' => v = Value.bool false ∧ LoopI X pins σ H s') ?_ (fun r s' z => ?_) fun _ _ x => x
  · refine wpAny_richCompare_same_room (op := .NotEq) ⟨_, e, rfl⟩ ⟨_, e2, rfl⟩ F.slot_list_ne (GQ.call_here F.slot_list_ne ⟨_, e, rfl⟩ F.entry_list_ne (F.args_list_ne_2 _ _) ?_) sb.room.units0
    refine list_neG (A := X.A) (R := wants (fun v s' => v ≠ .notImplemented ∧ (v = Value.bool false ∧ LoopI X pins σ H s')) X.xe) a b xs.length (fun _ s' => LoopI X pins σ H s') (fun i s' q => ?_) (fun s' q => ⟨(fun x => nomatch x), rfl, q⟩) ⟨H, I, L2.Ext.rfl'⟩
    obtain ⟨H1, I1, e1⟩ := id q
    obtain ⟨z, its, k, r, e⟩ := I1.hok a _ (e1 _ _ ha)
    obtain ⟨z2, its2, k2, r2, e2⟩ := I1.hok b _ (e1 _ _ hb)
    refine ⟨its.toArray, its2.toArray, k, k2, e, e2, by rw [List.size_toArray, ← r.length], by rw [List.size_toArray, ← r2.length, ← p.1], fun h1 h2 => ?_⟩
    exact turnG hD h sb p r r2 i h1 h2 s' q
  · obtain ⟨hv, H', I', e⟩ := z
    subst hv
    exact ⟨.bl false, H', I', rfl, q H' e⟩
end
end Da
namespace Da
open PySem L2
variable [Tbs]
section
variable {K : PySem.W.Frag} {E B R : List Addr} {Z : List (List Addr × Hp)} {H : Hp} {ss : List Sl} {os : Os} {σ : L2.St} {m F : Bool} {o0 : Os} {ta tb te : TE} {P : D → Prop} {Dn : Ends}
/-- two names at once, by the pair; the second is a new list, the def's own -/
theorem s_pairTO {i j : Nat} {PA PB : D → Prop} (A : At K E B Z ss os σ H) (ha : Ev K E B true ss os false ta PA) (hb : Ev K E B true ss os true tb PB) (k : ∀ a p ds σ' H', PA a → PB (.lst ds) → At K E B Z ((ss.set i (.dat a)).set j (.own p)) ((p, .lst ds) :: os) σ' H' → Dn.nx σ' H') :
    tAsg (tTup (tCons ta (tCons tb tNil))) (gTup K 2 (gCons (gName i) (gCons (gName j) gNil))) Dn σ H :=
  ha Z os σ H (fun _ z => z) A _ fun v a H1 g1 r1 _ p1 => hb Z os σ H1 (fun _ z => z) (A.go g1) _ fun w d H2 g2 r2 f p2 => ⟨by show (2 : Nat) ≤ sizeLine; decide, fun t nt => by
    obtain ⟨p, vs, ds, rfl, rfl, n, e, rp⟩ := f rfl
    have np : p ≠ t := ne_of_none e nt
    refine ⟨t, _, rfl, .inl (.inl upd_same), rfl, _, _, rfl, _, _, rfl, rfl, k a p ds _ _ p1 p2 (((A.go g1).set r1).setO n (by rw [upd_ne np]; exact e) (g2.trans (.new nt)) (rp.mono (era_mono (fun x o _ e _ => by rw [upd_ne (ne_of_none e nt)]; exact e) fun _ h => h)))⟩⟩
/-- rules of one table are one: lists of them -/
theorem prs_ins {C : Addr} {RR : Addr → Addr → Hp → Prop} {xs ys : List V} {ds es : List D} {H : Hp} (r1 : RpAll K (era H R) xs ds) (r2 : RpAll K (era H R) ys es) (hl : ds.length = es.length)
    (h : ∀ (i : Nat) (d e : D), ds[i]? = some d → es[i]? = some e → ∃ fs gs, d = .obj C fs ∧ e = .obj C gs ∧ ∀ a b, Rp K H (.ref a) d → Rp K H (.ref b) e → RR a b H) : Prs (DIns C RR) xs ys H := by
  refine ⟨by rw [r1.length, r2.length, hl], fun i x y hx hy => ?_⟩
  obtain ⟨d, hd, rd⟩ := r1.get' hx
  obtain ⟨e, he, re⟩ := r2.get' hy
  obtain ⟨fs, gs, e1, e2, k⟩ := h i d e hd he
  subst e1; subst e2
  have rd' := rd.mono (era_sub H R).sub
  have re' := re.mono (era_sub H R).sub
  cases rd with
  | obj h1 _ =>
    cases re with
    | obj h2 _ => exact ⟨_, _, _, _, _, _, rfl, rfl, era_sub _ _ _ _ h1, era_sub _ _ _ _ h2, k _ _ rd' re'⟩
theorem o_neOwnL {C : Addr} {RR : Addr → Addr → Hp → Prop} {ds es : List D} (hl : ds.length = es.length)
    (h : ∀ (i : Nat) (d e : D), ds[i]? = some d → es[i]? = some e → ∃ fs gs, d = .obj C fs ∧ e = .obj C gs ∧ ∀ (H : Hp) a b, Rp K H (.ref a) d → Rp K H (.ref b) e → RR a b H) :
    Op2 K B (rNeLG (DIns C RR)) (.lst ds) (.lst es) false (fun x => x = .bl false) := fun R H v w rg r1 r2 Q q => by
  cases r1 with
  | lst h1 x1 =>
    cases r2 with
    | lst h2 x2 =>
      refine ⟨⟨_, _, _, _, rfl, rfl, era_sub _ _ _ _ h1, era_sub _ _ _ _ h2, prs_ins x1 x2 hl fun i d e hd he => ?_⟩, fun H' e => q _ _ H' (.of fun a o h => e a o h) (.bl _) (fun z => absurd z (by simp)) rfl⟩
      obtain ⟨fs, gs, e1, e2, k⟩ := h i d e hd he
      exact ⟨fs, gs, e1, e2, k H⟩
end
end Da
/-! Functions as values: a lambda of one parameter that is handed to a def, the def that calls it or hands it on. -/
namespace LamD
open PySem PySem.Spec PyProof.Rows L2 LamX

/-- one parameter p; other names are captured or global -/
structure LamP (sc scope : Scope) (N : List Str) (p : Str) : Prop where
  kind : scope.kind = .function
  co : scope.isCoroutine = false
  gen : scope.isGenerator = false
  own : ∀ y ∈ scope.names, y.2 ≠ .cell ∧ (y.2 = .local → y.1 = p)
  par : scope.names.lookup p = some .local
  free : ∀ y ∈ scope.names, y.2 = .free → sc.names.lookup y.1 = some .cell ∨ sc.names.lookup y.1 = some .free
  new : p ∉ N
def lamPB (sc scope : Scope) (N : List Str) (p : Str) : Bool :=
  decide (scope.kind = .function) && !scope.isCoroutine && !scope.isGenerator && (scope.names.all fun y => !decide (y.2 = .cell) && (!decide (y.2 = .local) || decide (y.1 = p)) && (!decide (y.2 = .free) || decide (sc.names.lookup y.1 = some .cell) || decide (sc.names.lookup y.1 = some .free))) && decide (scope.names.lookup p = some .local) && decide (p ∉ N)
theorem lamP_by {sc scope : Scope} {N : List Str} {p : Str} (h : lamPB sc scope N p = true) : LamP sc scope N p := by
  unfold lamPB at h
  simp only [Bool.and_eq_true, Bool.or_eq_true, Bool.not_eq_true', decide_eq_true_eq, decide_eq_false_iff_not, List.all_eq_true] at h
  obtain ⟨⟨⟨⟨⟨h1, h2⟩, h3⟩, h4⟩, h5⟩, h6⟩ := h
  refine ⟨h1, h2, h3, fun y hy => ⟨(h4 y hy).1.1, fun e => ?_⟩, h5, fun y hy e => ?_, h6⟩
  · rcases (h4 y hy).1.2 with z | z
    · exact absurd e z
    · exact z
  · rcases (h4 y hy).2 with (z | z) | z
    · exact absurd e z
    · exact .inl z
    · exact .inr z
theorem LamP.has {X : Cx} {scope : Scope} {N : List Str} {p : Str} (L : LamP X.env.scope scope N p) (ok : X.Ok) : ∀ y ∈ scope.names, y.2 = .free → ∃ c, X.env.cells.lookup y.1 = some c := fun y hy e => by
  rcases L.free y hy e with k | k
  · exact ok.has _ (.inl k)
  · exact ok.has _ (.inr k)

/-- the context of the lambda's body -/
def lamCx1 (CX : CXT) (X : Cx) (A : Around) (outer : List Env) (s : Shared) (H : Hp) (E : XK) (scope : Scope) (p : Str) (f c' : Addr) : Cx where
  prog := X.prog
  w := X.w
  K := X.K
  mg := X.mg
  base := X.base
  A := A.deeper (lamEnv X scope s.heap.objs.size f c')
  N := X.N ++ [p]
  s_0 := s
  H_0 := H
  env := lamEnv X scope s.heap.objs.size f c'
  outer := outer
  stack := lamEnv X scope s.heap.objs.size f c' :: outer
  ex := []
  fn := fun _ => false
  calm := true
  pn := []
  xe := fun e s' => wpAny (model X.prog X.w) (A.deeper (lamEnv X scope s.heap.objs.size f c')) (leaving (lamEnv X scope s.heap.objs.size f c') e) (fun _ s'' => CX outer H s E e s'') (fun e' s'' => CX outer H s E e' s'') s'
section
variable {X : Cx} {pins : List (Addr × Obj)} {σ : L2.St} {H HZ : Hp} {s s1 : Shared}
/-- captured cells are the maker's -/
theorem clo_cell {N : List Str} {scope : Scope} {p y : Str} {c : Addr} (L : LamP X.env.scope scope N p) (ok : X.Ok) (q : (cloFrom X.env.cells scope.names []).lookup y = some c) : X.env.cells.lookup y = some c := by
  rcases cloFrom_mem (PySem.mem_of_lookup q) with none | ⟨named, from_⟩
  · cases none
  · obtain ⟨d, at_⟩ := L.has ok _ named rfl
    have at_ : X.env.cells.lookup y = some d := at_
    have same : c = d := by rw [from_, at_] <;> rfl
    exact same ▸ at_
theorem clo_has {N : List Str} {scope : Scope} {p y : Str} (q : scope.names.lookup y = some .free) : ∃ c, (cloFrom X.env.cells scope.names []).lookup y = some c :=
  mem_lookup (cloFrom_has (cells := X.env.cells) (acc := []) (PySem.mem_of_lookup q : (y, NameKind.free) ∈ scope.names))
theorem lam_start1 {CX : CXT} {fr : List Addr} {A : Around} {outer : List Env} {E : XK} {scope : Scope} {p : Str} {f c' : Addr} {g : Heap} {tk : Nat} {v : V} {u : Value} (I : Inv X pins σ H s) (L : LamP X.env.scope scope X.N p) (e0 : Env0 X.prog X.w X.K X.mg X.base A outer s1 HZ) (hd : A.handled = none)
    (rv : RelV v u) (un : Un fr [] H HZ s.heap s1.heap) (names : g.Ns s1.heap.objs.size fun y => ([(p, u)] : List (Str × Value)).reverse.lookup y) (stay : ∀ b o, s1.heap.get? b = some o → g.get? b = some o) :
    Inv (lamCx1 CX X A outer s1 HZ E scope p f c') [] (σ ++ [some v]) HZ { s1 with heap := g, toks := tk } := by
  have held : ∀ {c : Addr} {v : Option Value}, H c = none → s.heap.IsCell c v → g.IsCell c v := fun n is => by
    obtain ⟨ob, at_, d⟩ := is
    obtain ⟨sl, at2⟩ := un.any at_ n (List.not_mem_nil)
    exact ⟨_, stay _ _ at2, d⟩
  have mine : ∀ y c, (cloFrom X.env.cells scope.names []).lookup y = some c → X.env.cells.lookup y = some c := fun y c q => clo_cell L I.ok q
  have okay : (lamCx1 CX X A outer s1 HZ E scope p f c').Ok := {
    mod := e0.mod
    kind := L.kind
    glob := rfl
    blt := rfl
    above := Nat.le_refl _
    inj := fun y z c a b => I.ok.inj y z c (mine _ _ a) (mine _ _ b)
    has := fun y hy => Or.elim (show scope.names.lookup y = some .cell ∨ scope.names.lookup y = some .free from hy) (fun z => absurd rfl (L.own _ (PySem.mem_of_lookup z)).1) fun z => clo_has (N := X.N) (p := p) z
    cab := fun y c z _ => absurd (show false = true from z) Bool.false_ne_true
    hd := fun _ => hd
    frames := Around.frames_deeper e0.frames
    stk := .inr ⟨rfl, rfl⟩
    exf := fun b z => absurd (show b ∈ ([] : List Addr) from z) List.not_mem_nil
    bs := e0.bs
    bsz := e0.bsz
    noex := fun b _ _ z => absurd (show b ∈ ([] : List Addr) from z) List.not_mem_nil
    exfs := fun b z => absurd (show b ∈ ([] : List Addr) from z) List.not_mem_nil
    funs := e0.funs
    frf := e0.frf }
  have slots : ∀ (i : Nat) (y : Str) (v' : V), (X.N ++ [p])[i]? = some y → (σ ++ [some v])[i]? = some (some v') → Vis scope y → ∃ r, RelV v' r ∧ Look (lamEnv X scope s1.heap.objs.size f c') g (fun y => ([(p, u)] : List (Str × Value)).reverse.lookup y) y r := by
    intro i y v' at_ val vis
    by_cases hi : i < X.N.length
    · rw [List.getElem?_append_left hi] at at_
      rw [List.getElem?_append_left (by rw [I.len]; exact hi)] at val
      rcases vis with z | z | z
      · have own : y = p := (L.own _ (PySem.mem_of_lookup z)).2 rfl
        exact absurd (own ▸ List.mem_of_getElem? at_) L.new
      · exact absurd rfl (L.own _ (PySem.mem_of_lookup z)).1
      · have kinds := L.free _ (PySem.mem_of_lookup z) rfl
        have kinds : X.env.scope.names.lookup y = some .cell ∨ X.env.scope.names.lookup y = some .free := kinds
        obtain ⟨m, _, all⟩ := I.loc
        obtain ⟨r, rr, found⟩ := all i y v' at_ val (.inr kinds)
        obtain ⟨d, hd'⟩ := clo_has (X := X) (N := X.N) (p := p) z
        refine ⟨r, rr, .inr ⟨.inr z, d, hd', ?_⟩⟩
        have out := mine _ _ hd'
        rcases found with ⟨loc, _⟩ | ⟨_, d2, o2, is⟩
        · have loc : X.env.scope.names.lookup y = some .local := loc
          exact Or.elim kinds (fun a => by rw [a] at loc; cases loc) fun a => by rw [a] at loc; cases loc
        · rw [out] at o2
          cases o2
          exact held (I.freeC y _ out) is
    · have all := (List.getElem?_eq_some_iff.mp at_).1
      rw [List.length_append, List.length_singleton] at all
      obtain rfl : i = X.N.length := by omega
      rw [List.getElem?_append_right (Nat.le_refl _), Nat.sub_self] at at_
      rw [← I.len, List.getElem?_append_right (Nat.le_refl _), Nat.sub_self] at val
      cases at_
      cases val
      exact ⟨u, rv, .inl ⟨L.par, by simp⟩⟩
  exact {
    ok := okay
    os := rfl
    bare := e0.bare
    base := Un.kept stay
    loc := ⟨_, names, slots⟩
    cell := fun y c q => let ⟨r, is⟩ := I.cell y c (mine _ _ q); ⟨r, held (I.freeC y c (mine _ _ q)) is⟩
    free := e0.hok.fresh (Nat.le_refl _)
    freeC := fun y c q => by
      obtain ⟨_, ob, at_, _⟩ := I.cell y c (mine _ _ q)
      exact un.free c ob at_ (I.freeC y c (mine _ _ q)) List.not_mem_nil
    pin := fun q hq => absurd (show q ∈ ([] : List (Addr × Obj)) ++ [] from hq) List.not_mem_nil
    hok := e0.hok.kept stay
    len := by
      show (σ ++ [some v]).length = (X.N ++ [p]).length
      rw [List.length_append, List.length_append, I.len, List.length_singleton, List.length_singleton] }
end

/-- f may be called with one argument from (s0, H0) on, whatever has grown since -/
structure FunV (P : Program) (w : World) (K : PySem.W.Frag) (mg : Str → Option Value) (base : Heap) (k : Nat) (f : Addr) (sp : Sp) (outer : List Env) (s0 : Shared) (H0 : Hp) : Prop where
  nofr : f ∉ frs outer
  at_ : ∃ oc od fd sl, s0.heap.get? f = some ⟨oc, od, .func fd, sl⟩
  fre : H0 f = none
  run : ∀ (A : Around) (out : List Env) (s : Shared) (H : Hp) (fr : List Addr) (us : List Value) (vs : List V) (Q : VK) (E : XK), f ∉ fr → Un fr [] H0 H s0.heap s.heap → Room k A → Env0 P w K mg base A out s H → Vals vs us → sp vs H Q E →
    codeAny (model P w) A (.call (.ref f) ⟨us, []⟩) (CR CX0 out P w H s Q E) s
section
variable {P : Program} {w : World} {K : PySem.W.Frag} {mg : Str → Option Value} {base : Heap} {k : Nat} {f : Addr} {sp sp' : Sp} {outer out : List Env} {s0 s : Shared} {H0 H : Hp}
theorem FunV.imp (F : FunV P w K mg base k f sp outer s0 H0) (h : ∀ vs H Q E, sp' vs H Q E → sp vs H Q E) : FunV P w K mg base k f sp' outer s0 H0 :=
  ⟨F.nofr, F.at_, F.fre, fun A out s H fr us vs Q E nf un hr e0 r hs => F.run A out s H fr us vs Q E nf un hr e0 r (h _ _ _ _ hs)⟩
theorem FunV.mono {j : Nat} (F : FunV P w K mg base j f sp outer s0 H0) (h : j ≤ k) : FunV P w K mg base k f sp outer s0 H0 :=
  ⟨F.nofr, F.at_, F.fre, fun A out s H fr us vs Q E nf un hr => F.run A out s H fr us vs Q E nf un (hr.mono h)⟩
/-- .. and from what has grown -/
theorem FunV.step {fr : List Addr} (F : FunV P w K mg base k f sp outer s0 H0) (nf : f ∉ fr) (no : f ∉ frs out) (un : Un fr [] H0 H s0.heap s.heap) : FunV P w K mg base k f sp out s H := by
  obtain ⟨oc, od, fd, sl, e⟩ := F.at_
  refine ⟨no, ⟨oc, od, fd, sl, un.keep f _ e F.fre nf (by simp)⟩, un.free f _ e F.fre (by simp), fun A out s H fr' us vs Q E nf' un' hr e0 r hs => F.run A out s H (fr ++ fr') us vs Q E (fun z => (List.mem_append.mp z).elim nf nf') ?_ hr e0 r hs⟩
  exact (un.mono (fun b hb => List.mem_append_left _ hb) fun b hb => hb).trans (un'.mono (fun b hb => List.mem_append_right _ hb) fun b hb => hb)
end
section
variable {X : Cx} {k : Nat} {f : Addr} {sp : Sp} {pins : List (Addr × Obj)} {σ : L2.St} {H : Hp} {s : Shared}
theorem funV_at (F : FunV X.prog X.w X.K X.mg X.base k f sp X.outer X.s_0 X.H_0) (hex : X.ex = []) (I : Inv X pins σ H s) : FunV X.prog X.w X.K X.mg X.base k f sp X.stack s H := by
  refine F.step (fr := X.fs) F.nofr (fun z => ?_) (hex ▸ I.base)
  rcases List.mem_cons.mp (I.stkSub _ z) with e | e
  · obtain ⟨_, _, _, _, e'⟩ := F.at_
    have := I.ok.above
    rw [← e] at this
    exact absurd (Heap.lt_size e') (Nat.not_lt.mpr this)
  · exact F.nofr e
/-- the call of what a variable holds -/
theorem pe_callV {a : Str} {i : Nat} {e : Expr} {es : List Expr} {t : TA} {E : XK} {p1 p2 : Pos} (F : FunV X.prog X.w X.K X.mg X.base k f sp X.outer X.s_0 X.H_0) (hex : X.ex = []) (hr : Room k X.A)
    (ha : PA X (e :: es) t) (hN : X.N[i]? = some a) (hv : Vis X.env.scope a) (hd : (a == ("__debug__" : Str)) = false := by decide) (hcd : (a == ("__classdict__" : Str)) = false := by decide)
    (he : starEach (e :: es) X.env = (false, eval e X.env) :: starEach es X.env := by rfl) (hpl : (backTo p2 (starEach es X.env)).any (·.1) = false := by rfl) :
    PE X (.Call (.Name a p1) (e :: es) [] p2) (fun σ H Q => σ[i]? = some (some (.ref f)) ∧ t σ H fun vs H1 => sp vs H1 Q E) := by
  refine ⟨fun pins s σ H Q I h => ?_⟩
  obtain ⟨hs, ht⟩ := h
  refine wpAny_Call_Name_kw (thn ((pe_var (pos := p1) (i := i) hN hv hd hcd).run pins s σ H (fun v H1 => v = .ref f ∧ H1 = H) I ⟨.ref f, hs, rfl, rfl⟩) fun u s1 ⟨v, H1, I1, r1, q1⟩ => ?_)
  obtain ⟨ev, eH⟩ := q1
  subst ev
  rw [eH] at I1
  obtain rfl : u = Value.ref f := r1
  have at1 := (funV_at F hex I1).at_
  refine PySem.W.callWith_F at1 (thn (ha.run p2 pins s1 σ H _ I1 ht) fun us s2 ⟨vs, H2, I2, r, q⟩ => ⟨(funV_at F hex I2).at_, ?_⟩) he hpl
  have F2 := funV_at F hex I2
  refine wpAny_call (codeAny_mono (F2.run X.A X.stack s2 H2 [] us vs Q E (by simp) Un.refl hr I2.env0 r q) fun res s' got => ?_)
  match res, got with
  | .ok (.ret u), got => exact I2.after got
end
/-- a def that is handed a function: FV what it asks of the state -/
structure FnF (P : Program) (w : World) (K : PySem.W.Frag) (mg : Str → Option Value) (base : Heap) (k : Nat) (f : Addr) (fd : FuncData) (ps : List Str) (FV : List Env → Shared → Hp → Prop) (sp : Sp) : Prop where
  len : ∀ vs H Q E, sp vs H Q E → vs.length = ps.length
  run : ∀ (A : Around) (outer : List Env) (s : Shared) (H : Hp) (args : Args) (us : List Value) (vs : List V) (Q : VK) (E : XK), FV outer s H → Room k A → Env0 P w K mg base A outer s H → BindsTo s fd args (ps.zip us) → Vals vs us → sp vs H Q E →
    codeAny (model P w) A (.call (.ref f) args) (CR CX0 outer P w H s Q E) s
theorem FnF.mono {P : Program} {w : World} {K : PySem.W.Frag} {mg : Str → Option Value} {base : Heap} {j k : Nat} {f : Addr} {fd : FuncData} {ps : List Str} {FV : List Env → Shared → Hp → Prop} {sp : Sp} (F : FnF P w K mg base j f fd ps FV sp) (h : j ≤ k) : FnF P w K mg base k f fd ps FV sp :=
  ⟨F.len, fun A outer s H args us vs Q E hv hr => F.run A outer s H args us vs Q E hv (hr.mono h)⟩
section
variable {P : Program} {w : World} {K : PySem.W.Frag} {mg : Str → Option Value} {base : Heap}
theorem okF {x qual : Str} {st : Stmt} {f : Addr} {fd : FuncData} {N ps : List Str} {k : Nat} {FV : List Env → Shared → Hp → Prop} {sp : Sp} (Fu : Fun K x qual st f fd) (S : FnScope N ps (defScope st)) (len : ∀ vs H Q E, sp vs H Q E → vs.length = ps.length)
    (hbody : ∀ (cdv : Value) (A : Around) (outer : List Env) (s : Shared) (H : Hp) (vs : List V) (Q : VK) (E : XK), FV outer s H → Room k (A.deeper (envOfC qual (defScope st) s.heap.objs.size f cdv)) → sp vs H Q E →
      ∃ t, PSs (cxOf CX0 P w K mg base N qual (defScope st) f cdv A outer s H E).nox (defBody st) t ∧ t { nx := fun _ H' => Q .non H', rt := Q } (start N vs) H) : FnF P w K mg base (k + 1) f fd ps FV sp := by
  obtain ⟨oc, od, kV, doc, pm, an, cdv, ct, osl, rfl, lk, hcd⟩ := Fu.ex
  refine ⟨len, fun A outer s H args us vs Q E fv hr e0 hb r hs => run_ofS lk hcd S hr e0 hb r (len _ _ _ _ hs) fun hr' => ?_⟩
  obtain ⟨t, ht, hq⟩ := hbody cdv A outer s H vs Q E fv hr' hs
  exact ⟨t, ht.nox, hq⟩
end
section
variable {X : Cx} {k : Nat} {f : Addr} {fd : FuncData} {ps : List Str} {FV : List Env → Shared → Hp → Prop} {sp : Sp} {E : XK} {x : Str} {p pos : Pos} {e : Expr} {es : List Expr} {t : TA}
theorem pe_callFF (F : FnF X.prog X.w X.K X.mg X.base k f fd ps FV sp) (hFV : ∀ pins σ H s, Inv X pins σ H s → FV X.stack s H) (hr : Room k X.A) (hg : Gl X x) (hm : X.mg x = some (.ref f)) (hk : PySem.W.keepIn X.K (.ref f) = true) (hb : Binds X.K fd ps [])
    (ha : PA X (e :: es) t) (hdb : (x == ("__debug__" : Str)) = false := by decide) (he : starEach (e :: es) X.env = (false, eval e X.env) :: starEach es X.env := by rfl) (hpl : (backTo pos (starEach es X.env)).any (·.1) = false := by rfl) :
    PE X (.Call (.Name x p) (e :: es) [] pos) (tCall sp [] E t) := ⟨fun pins s σ H Q I h =>
  wpAny_Call_Name_kw (ld_glob I hg hm (PySem.W.callWith_K (h₀ := X.base) I.ok.mod.kin hk (thn (ha.run pos pins s σ H _ I h) fun us s1 ⟨vs, H1, I1, r, q⟩ => ⟨I1.kIn, by
    have q' : sp (vs ++ []) H1 Q E := q
    rw [List.append_nil] at q'
    have count := r.length.symm.trans (F.len _ _ _ _ q')
    have b := hb s1 us I1.kIn (by rw [List.append_nil]; exact count)
    rw [List.append_nil] at b
    refine wpAny_call (codeAny_mono (F.run X.A X.stack s1 H1 ⟨us, []⟩ us vs Q E (hFV _ _ _ _ I1) hr I1.env0 b r q') fun res s' got => ?_)
    match res, got with
    | .ok (.ret u), got => exact I1.after got⟩) he hpl) hdb)⟩
end
/-! ### the lambda is made and handed on -/
section
variable {X : Cx}
def objL (X : Cx) (params : Arguments) (body : Expr) (scope : Scope) (pm : Value) (c' : Addr) (ctv : Value) : Obj := PySem.W.kla_obj "<lambda>" (X.env.qual ++ "<lambda>") params body scope (cloFrom X.env.cells scope.names []) pm c' ctv
theorem funV_make {pins : List (Addr × Obj)} {σ : L2.St} {H : Hp} {s : Shared} {k : Nat} {f c' : Addr} {pm ctv : Value} {p : Str} {params : Arguments} {body : Expr} {scope : Scope} {t : XK → TE} {sp : Sp} (I : Inv X pins σ H s) (L : LamP X.env.scope scope X.N p)
    (hf : s.heap.get? f = some (objL X params body scope pm c' ctv)) (hfn : H f = none) (hfr : f ∉ frs X.stack)
    (hbind : ∀ (u : Value) (q : Str) (cl : List (Str × Addr)) (pm cv ctv : Value), bindArgs (PySem.W.kla_fn "<lambda>" q params body scope cl pm cv ctv) ⟨[u], []⟩ = pure [(p, u)])
    (hbody : ∀ (A : Around) (outer : List Env) (s : Shared) (H : Hp) (E : XK), Room k (A.deeper (lamEnv X scope s.heap.objs.size f c')) → PE (lamCx1 CX0 X A outer s H E scope p f c') body (t E))
    (hsp : ∀ vs H Q E, sp vs H Q E → ∃ v, vs = [v] ∧ H c' = some (CodeO c' (X.env.qual ++ "<lambda>")) ∧ t E (σ ++ [some v]) H Q) : FunV X.prog X.w X.K X.mg X.base (k + 1) f sp X.stack s H := by
  refine ⟨hfr, ⟨_, _, _, _, hf⟩, hfn, fun A out s1 HZ fr us vs Q E nf un hr e0 r hs => ?_⟩
  obtain ⟨v, rfl, hc, ht⟩ := hsp vs HZ Q E hs
  cases r with
  | @cons _ u _ _ rx rr =>
    cases rr
    have of1 : s1.heap.get? f = some (objL X params body scope pm c' ctv) := un.keep f _ hf hfn nf (by simp)
    obtain ⟨⟨oc, vs, tk, hoc, hdc, hvc⟩, _, _⟩ := e0.hok c' _ hc
    have lim : s1.heap.NoLimit := e0.mod.nolimit.keeps fun b o e => (e0.bs b o e).1
    refine PySem.W.kla_callFunE hr.depth of1 rfl L.co L.gen rfl ⟨c', oc, vs, tk, rfl, hoc, hdc, hvc⟩ ?_
    rw [hbind]
    refine wpAny_pure (wpAny_newFunctionEnv (fun y hy => (L.own y hy).1) (fun y hy => ?_) (fun h₁ hns hsb => ⟨lim.fresh _ hsb, ?_⟩) L.kind)
    · rw [List.mem_singleton.mp hy]
      exact L.par
    show codeAny _ _ (.expr body (lamEnv X scope s1.heap.objs.size f c')) _ _
    have kp : ∀ b o, s1.heap.get? b = some o → h₁.get? b = some o := fun b o e => hsb.extBut b o (Nat.ne_of_lt (Heap.lt_size e)) (Heap.get?_push_of_some _ e)
    have J : Inv (lamCx1 CX0 X A out s1 HZ E scope p f c') [] (σ ++ [some v]) HZ { s1 with heap := h₁, toks := s1.toks + ([(p, u)] : List (Str × Value)).length } := lam_start1 I L e0 hr.hd rx un hns kp
    refine PySem.W.kla_codeExpr (wpAny_mono ((hbody A out s1 HZ E (hr.deeper _)).run [] _ _ HZ Q J ht) (fun v s' hq => ?_) fun e s' hq => hq)
    obtain ⟨w', H', J', rv, q⟩ := hq
    exact ⟨w', H', J'.os, J'.bare, J'.base, J'.hok, rv, q⟩
/-- a lambda's making: the code object is known already, or it is new and joins the table at P -/
def Made (H : Hp) (P : Addr) (q : Str) (c : Addr) (H1 : Hp) : Prop :=
  (H1 = H ∧ H c = some (CodeO c q)) ∨ ∃ (ps more : Array Value), H P = some (.tbl ps) ∧ H c = none ∧ P ≠ c ∧ H1 = upd (upd H P (.tbl (ps ++ more))) c (CodeO c q)
theorem Made.code {H H1 : Hp} {P c : Addr} {q : Str} (m : Made H P q c H1) : H1 c = some (CodeO c q) := by
  rcases m with ⟨rfl, e⟩ | ⟨ps, more, _, _, _, rfl⟩
  · exact e
  · exact upd_same
theorem Made.keep {H H1 : Hp} {P c b : Addr} {q : Str} {o : HO} (m : Made H P q c H1) (e : H b = some o) (n : ∀ ps, o ≠ .tbl ps) : H1 b = some o := by
  rcases m with ⟨rfl, _⟩ | ⟨ps, more, hP, hc, _, rfl⟩
  · exact e
  · rw [upd_ne (ne_of_none e hc), upd_ne (fun z => n ps (by rw [z, hP] at e; exact (Option.some.inj e).symm))]
    exact e
theorem Made.there {H H1 : Hp} {P c b : Addr} {q : Str} {o : HO} (m : Made H P q c H1) (e : H b = some o) : H1 b ≠ none := by
  rcases m with ⟨rfl, _⟩ | ⟨ps, more, hP, hc, nP, rfl⟩
  · rw [e]; exact fun z => nomatch z
  · rw [upd_ne (ne_of_none e hc)]
    by_cases z : b = P
    · rw [z, upd_same]; exact fun z => nomatch z
    · rw [upd_ne z, e]; exact fun z => nomatch z
theorem Made.tab {H H1 : Hp} {P c : Addr} {q : Str} {T : List (Addr × Str)} (m : Made H P q c H1) (new : TabS H1 P q) (hu : ∀ p ∈ T, p.1 = P → p.2 = q) (t : Tabs T H) : Tabs T H1 := fun p hp => by
  by_cases z : p.1 = P
  · rw [z, hu p hp z]
    exact new
  · obtain ⟨ps, e, ok, all⟩ := t p hp
    have e1 : H1 p.1 = some (.tbl ps) := by
      rcases m with ⟨rfl, _⟩ | ⟨_, _, _, hc, _, rfl⟩
      · exact e
      · rw [upd_ne (ne_of_none e hc), upd_ne z]
        exact e
    exact ⟨ps, e1, ok, fun pos cv found => let ⟨d, a, b⟩ := all pos cv found; ⟨d, a, m.keep b codeO_ne⟩⟩
theorem lam_new {pins : List (Addr × Obj)} {σ : L2.St} {H : Hp} {s : Shared} {c P : Addr} {params : Arguments} {body : Expr} {scope : Scope} {pos : Pos} {E : Value → Shared → Prop} {Q : Value → Shared → Prop} {q : Str} (eq : q = X.env.qual ++ "<lambda>") (I : Inv X pins σ H s) (TB : TabB X.base X.mg c P) (hcode : X.env.code = .ref c)
    (hT : TabS H P q) (hdef : defaultsOf params X.env = ([], [])) (hfree : ∀ y ∈ scope.names, y.2 = .free → ∃ c, X.env.cells.lookup y.1 = some c)
    (go : ∀ (f d : Addr) (pm ctv : Value) (H1 : Hp) (s' : Shared), Inv X pins σ H1 s' → Made H P q d H1 → TabS H1 P q → s'.heap.get? f = some (objL X params body scope pm d ctv) → H1 f = none → f ∉ frs X.stack → Q (.ref f) s') :
    wpAny (model X.prog X.w) X.A (eval (.Lambda params body scope pos) X.env) Q E s := by
  subst eq
  obtain ⟨ps, tabAt, okT, all⟩ := hT
  have atP : s.heap.get? P = some { cls := .none, data := .fields ps } := I.hok P _ tabAt
  have bmP : s.heap.BuiltinsAt X.mg P := TB.bm.keeps I.bk
  have far : ∀ f, s.heap.objs.size ≤ f → f ∉ frs X.stack := fun f le z => Or.elim (List.mem_cons.mp (I.stkSub _ z)) (fun e => absurd (e ▸ I.lt) (Nat.not_lt.mpr le)) (I.nofs le)
  refine PySem.W.kla_eval hdef ?_
  cases found : codeAmong pos ps.toList with
  | some cv =>
    obtain ⟨d, rfl, known⟩ := all pos cv found
    refine PySem.W.kla_makeFunctionHit (mg := X.mg) (c := c) (P := P) (ps := ps) (closure_ok hfree) I.ok.glob (I.mod.glob.keeps I.bk) hcode (TB.code.keeps I.bk) atP okT found bmP fun ctv g tk grown le => ?_
    exact go _ d _ ctv H _ (I.kept fun b o e => Heap.get?_push_of_some _ (grown b o e)) (.inl ⟨rfl, known⟩) ⟨ps, tabAt, okT, all⟩ (Heap.get?_push_size _ rfl) (I.hok.fresh le) (far _ le)
  | none =>
    refine PySem.W.kla_makeFunction (mg := X.mg) (c := c) (P := P) (ps := ps) (closure_ok hfree) I.ok.glob (I.mod.glob.keeps I.bk) hcode (TB.code.keeps I.bk) atP okT found TB.gP bmP fun d ctv g tk grown ge lt rec_ tab => ?_
    obtain ⟨d2, oc, vs, t, e2, atD, fields, name⟩ := rec_
    cases e2
    have fresh : H d = none := I.hok.fresh ge
    have le : s.heap.objs.size ≤ g.objs.size := Nat.le_trans ge (Nat.le_of_lt lt)
    have nPd : P ≠ d := ne_of_none tabAt fresh
    have m : Made H P (X.env.qual ++ "<lambda>") d (upd (upd H P (.tbl (ps ++ #[rawInt pos.line, rawInt pos.col, .ref d]))) d (CodeO d (X.env.qual ++ "<lambda>"))) := .inr ⟨ps, _, tabAt, fresh, nPd, rfl⟩
    have shape : (ps ++ #[rawInt pos.line, rawInt pos.col, .ref d]).toList = ps.toList ++ [rawInt pos.line, rawInt pos.col, .ref d] := by rw [Array.toList_append]
    refine go g.objs.size d _ ctv _ _ (inv_table I tabAt (fun b o ne e => Heap.get?_push_of_some _ (grown b o ne e)) (Heap.get?_push_of_some _ tab) ge ⟨oc, vs, t, Heap.get?_push_of_some _ atD, fields, name⟩) m ⟨_, (upd_ne nPd).trans upd_same, shape ▸ PySem.TriplesOk_snoc _ _ _ _ okT, fun at_ cv hit => ?_⟩ (Heap.get?_push_size _ rfl) ?_ (far _ le)
    · rw [shape] at hit
      rcases among_app _ okT hit with old | rfl
      · obtain ⟨d0, a, b⟩ := all at_ cv old
        exact ⟨d0, a, m.keep b codeO_ne⟩
      · exact ⟨d, rfl, m.code⟩
    · rw [upd_ne (Nat.ne_of_gt lt), upd_ne (Nat.ne_of_gt (Nat.lt_of_lt_of_le (Heap.lt_size atP) le))]
      exact I.hok.fresh le
/-- x(lambda p: body, es): P the maker's table -/
def tLamC (P : Addr) (q : Str) (t : TA) (spF : L2.St → Addr → Addr → Sp) (E : XK) : TE := fun σ H Q => TabS H P q ∧ ∀ f c' H1, Made H P q c' H1 → TabS H1 P q → t σ H1 fun vs H2 => spF σ f c' (.ref f :: vs) H2 Q E
theorem pe_lamC {x : Str} {g c P : Addr} {k kf : Nat} {fd : FuncData} {ps : List Str} {params : Arguments} {body : Expr} {scope : Scope} {a : Str} {t : TA} {tb : XK → TE} {E : XK} {es : List Expr} {p lpos pos : Pos} {spV : L2.St → Addr → Sp} {spF : L2.St → Addr → Addr → Sp}
    (hg : Gl X x) (hm : X.mg x = some (.ref g)) (hk : PySem.W.keepIn X.K (.ref g) = true) (hb : Binds X.K fd ps [])
    (F : ∀ σ f c', FnF X.prog X.w X.K X.mg X.base k g fd ps (FunV X.prog X.w X.K X.mg X.base (kf + 1) f (spV σ c')) (spF σ f c'))
    (TB : TabB X.base X.mg c P) (hcode : X.env.code = .ref c) (hr : Room k X.A) (L : LamP X.env.scope scope X.N a) (hdef : defaultsOf params X.env = ([], []))
    (hbind : ∀ (u : Value) (q : Str) (cl : List (Str × Addr)) (pm cv ctv : Value), bindArgs (PySem.W.kla_fn "<lambda>" q params body scope cl pm cv ctv) ⟨[u], []⟩ = pure [(a, u)])
    (hbody : ∀ (A : Around) (outer : List Env) (s : Shared) (H : Hp) (E : XK) (f c' : Addr), Room kf (A.deeper (lamEnv X scope s.heap.objs.size f c')) → PE (lamCx1 CX0 X A outer s H E scope a f c') body (tb E))
    (hsp : ∀ (σ : L2.St) c', σ.length = X.N.length → ∀ vs H Q E, spV σ c' vs H Q E → ∃ v, vs = [v] ∧ H c' = some (CodeO c' (X.env.qual ++ "<lambda>")) ∧ tb E (σ ++ [some v]) H Q)
    (ha : PA X es t) (hloc : X.stack = X.env :: X.outer ∧ X.env.frame = some X.env.locals) (hdb : (x == ("__debug__" : Str)) = false := by decide) (hpl : (backTo pos (starEach es X.env)).any (·.1) = false := by rfl) :
    PE X (.Call (.Name x p) (.Lambda params body scope lpos :: es) [] pos) (tLamC P (X.env.qual ++ "<lambda>") t spF E) := by
  refine ⟨fun pins s σ H Q I h => ?_⟩
  obtain ⟨hT, h⟩ := h
  refine wpAny_Call_Name_kw (ld_glob I hg hm ?_ hdb)
  refine PySem.W.callWith_K (h₀ := X.base) I.ok.mod.kin hk ?_ (by rfl) hpl
  show wpAny _ _ (spliced ((false, eval (.Lambda params body scope lpos) X.env) :: backTo pos (starEach es X.env))) _ _ s
  refine Calls.spliced_cons (lam_new rfl I TB hcode hT hdef (L.has I.ok) fun f c' pm' ctv H1 s' I1 mm T1 hf hfn hfr => ?_)
  have nloc : f ≠ X.env.locals := fun z => hfr (by rw [hloc.1, z]; unfold frs; rw [List.filterMap_cons, hloc.2]; exact List.mem_cons_self)
  have nfs : f ∉ X.fs := fun z => hfr (by rw [hloc.1]; unfold frs; rw [List.filterMap_cons, hloc.2]; exact List.mem_cons_of_mem _ z)
  have I2 : Inv X ((f, objL X params body scope pm' c' ctv) :: pins) σ H1 s' := ⟨I1.ok, I1.os, I1.bare, I1.base, I1.loc, I1.cell, I1.free, I1.freeC, fun q hq => by
    rcases List.mem_append.mp hq with z | z
    · exact I1.pin q (List.mem_append_left _ z)
    · rcases List.mem_cons.mp z with z | z
      · subst z
        exact ⟨hf, hfn, nloc, nfs, fun v z => nomatch z⟩
      · exact I1.pin q (List.mem_append_right _ z), I1.hok, I1.len⟩
  refine thn (ha.run pos _ s' σ H1 _ I2 (h f c' H1 mm T1)) fun us s2 ⟨vs, H2, I3, r, q⟩ => ?_
  have fpin := I3.pin (f, objL X params body scope pm' c' ctv) (List.mem_append_right _ List.mem_cons_self)
  have FV := funV_make (sp := spV σ c') I3 L fpin.1 fpin.2.1 hfr hbind (fun A outer s H E hr2 => hbody A outer s H E f c' hr2) (hsp σ c' I3.len)
  have q' : spF σ f c' (.ref f :: vs) H2 Q E := q
  have rr : Vals (.ref f :: vs) (.ref f :: us) := .cons rfl r
  have count := rr.length.symm.trans ((F σ f c').len _ _ _ _ q')
  have b := hb s2 (.ref f :: us) I3.kIn (by rw [List.append_nil]; exact count)
  rw [List.append_nil] at b
  refine ⟨I3.kIn, wpAny_call (codeAny_mono ((F σ f c').run X.A X.stack s2 H2 ⟨.ref f :: us, []⟩ _ _ Q E FV hr I3.env0 b rr q') fun res s' got => ?_)⟩
  match res, got with
  | .ok (.ret u), got =>
    obtain ⟨v, H', I4, rv, q4⟩ := I3.after got
    exact ⟨v, H', ⟨I4.ok, I4.os, I4.bare, I4.base, I4.loc, I4.cell, I4.free, I4.freeC, fun q hq => by
      rcases List.mem_append.mp hq with z | z
      · exact I4.pin q (List.mem_append_left _ z)
      · exact I4.pin q (List.mem_append_right _ (List.mem_cons_of_mem _ z)), I4.hok, I4.len⟩, rv, q4⟩
end
end LamD
/-! Functions as values, on the data layer: what a lambda hangs on goes with it. -/
namespace Da
open PySem L2 LamD

/-- one code object more is known -/
abbrev Tbs.ext (I : Tbs) (c : Addr) (q : Str) : Tbs := ⟨(I.tabs.1, (c, q) :: I.tabs.2)⟩
theorem code_nt {c : Addr} {q : Str} : NT (LamX.CodeO c q) := NT.of LamX.codeO_ne
section
variable [I : Tbs] {H H' : Hp} {c : Addr} {q : Str} {K : PySem.W.Frag}
theorem tbl_ext (t : Tbl I.tabs H) (h : H c = some (LamX.CodeO c q)) : Tbl (@Tbs.tabs (I.ext c q)) H := ⟨t.1, fun p hp => by
  rcases List.mem_cons.mp hp with rfl | z
  · exact h
  · exact t.2 p z⟩
theorem tbl_of (t : Tbl (@Tbs.tabs (I.ext c q)) H) : Tbl I.tabs H := ⟨t.1, fun p hp => t.2 p (List.mem_cons_of_mem _ hp)⟩
theorem tbl_code (t : Tbl (@Tbs.tabs (I.ext c q)) H) : H c = some (LamX.CodeO c q) := t.2 (c, q) List.mem_cons_self
theorem go_of (g : @Go (I.ext c q) [] H H') (h : H c = some (LamX.CodeO c q)) : Go [] H H' := by
  obtain ⟨a, _, b⟩ := g
  exact ⟨a, fun b hb => absurd hb List.not_mem_nil, fun t => tbl_of (b (tbl_ext t h))⟩
theorem go_ext (g : Go [] H H') : @Go (I.ext c q) [] H H' :=
  @Go.mk (I.ext c q) [] H H' g.stp (fun b hb => absurd hb List.not_mem_nil) fun t => tbl_ext (g.tab (tbl_of t)) (g.one List.not_mem_nil (tbl_code t) code_nt)
theorem spX_in {pre : List D → Prop} {F : Bool} {post : List D → D → Prop} {vs : List V} {Q : VK} {E : XK} (h : @SpX (I.ext c q) K false pre F post vs H Q E) : SpX K false pre F post vs H Q E := by
  obtain ⟨R, ds, ⟨e1, e2, e3, e4⟩, r, p, k⟩ := h
  exact ⟨R, ds, ⟨e1, e2, e3, tbl_of e4⟩, r, p, fun v d H' g => k v d H' (go_ext g)⟩
theorem spX_code {pre : List D → Prop} {F : Bool} {post : List D → D → Prop} {vs : List V} {Q : VK} {E : XK} (h : @SpX (I.ext c q) K false pre F post vs H Q E) : H c = some (LamX.CodeO c q) := by
  obtain ⟨R, ds, ⟨_, _, _, e4⟩, _⟩ := h
  exact tbl_code e4
end
section
variable [I : Tbs] {K : PySem.W.Frag} {E B R : List Addr} {ss : List Sl} {m F : Bool} {o0 : Os} {P : D → Prop}
/-- the promise of a function of one argument, what it hangs on at vs -/
def spFn (K : PySem.W.Frag) (pre : List D → Prop) (post : List D → D → Prop) (vs : List V) : Sp := fun us H Q E => us.length = 1 ∧ SpX K false pre false post (us ++ vs) H Q E
/-- the reading of a call of what slot i holds -/
def tCallV (i : Nat) (f : Addr) (t : TA) (sp : Sp) (E : XK) : TE := fun σ H Q => σ[i]? = some (some (.ref f)) ∧ t σ H fun vs H1 => sp vs H1 Q E
theorem rpAll_all {vs : List V} {ds : List D} {os : Os} {H : Hp} (h : RpAll K (era H (ads os ++ E)) vs ds) : RpAll K (era H (er m os E)) vs ds := by
  cases m with
  | true => exact h
  | false => exact h.mono (era_mono (fun _ _ _ e _ => e) fun _ h => List.mem_append_right _ h)
theorem ev_callV {i : Nat} {f : Addr} {vs : List V} {cs : List D} {t : TA} {X : XK} {x : D} {pre : List D → Prop} {post : List D → D → Prop} (hi : ss[i]? = some (.dat (.fn f vs cs))) (ha : EaD K E B m ss o0 t [x]) (h1 : pre (x :: cs)) (h3 : ∀ d, post (x :: cs) d → P d) :
    Ev K E B m ss o0 false (tCallV i f t (spFn K pre post vs) X) P := fun Z os σ H ho A Q q => by
  obtain ⟨v, hv, rv⟩ := A.slot i _ hi
  cases rv with
  | fn rc =>
    refine ⟨hv, ha Z os σ H ho A _ fun us ds H1 g1 r1 e => ?_⟩
    subst e
    have rg := (A.rg m).go g1
    refine ⟨r1.length, er m os E, [x] ++ cs, ⟨fun b hb => absurd (show b ∈ ([] : List Addr) from hb) List.not_mem_nil, fun b hb => absurd (show b ∈ ([] : List Addr) from hb) List.not_mem_nil, rg.ent, rg.tab⟩, r1.append ((A.rg m).keepA g1 (rpAll_all rc)), h1, fun v d H' g r _ p => ?_⟩
    exact q v d H' (g1.trans (Go.up g)) r (fun z => nomatch z) (h3 d p)
/-- what the lambda hangs on -/
def capt (i : Nat) (σ : L2.St) : List V := match σ[i]? with
  | some (some v) => [v]
  | _ => []
theorem capt_of {i : Nat} {σ : L2.St} {v : V} (h : σ[i]? = some (some v)) : capt i σ = [v] := by unfold capt; rw [h]
/-- the slots of the lambda's body: slot i of n is known, the parameter comes last -/
def lamS (n i : Nat) (d x : D) : List Sl := (List.replicate n Sl.any).set i (.dat d) ++ [.dat x]
/-- the lambda's body, read as data -/
theorem lam_body {n i : Nat} {te : TE} {H : Hp} {Q : VK} {X : XK} {σ : L2.St} {us : List V} {pre : List D → Prop} {post : List D → D → Prop} (hl : σ.length = n) (hin : i < n) (h : spFn K pre post (capt i σ) us H Q X) {cd : Prop} (code : cd) (two : ∀ ds, pre ds → ∃ x d, ds = [x, d])
    (hE : ∀ R x d, pre [x, d] → Ev K R [] false (lamS n i d x) [] false te (fun y => post [x, d] y)) : ∃ v, us = [v] ∧ cd ∧ te (σ ++ [some v]) H Q := by
  obtain ⟨one, R, ds, rg, r, p, k⟩ := h
  obtain ⟨x, d, rfl⟩ := two ds p
  match us, one with
  | [v], _ =>
    refine ⟨v, rfl, code, ?_⟩
    have lenC := r.length
    cases hs : σ[i]? with
    | none => 
      rw [List.getElem?_eq_none_iff] at hs
      omega
    | some o =>
      cases o with
      | none =>
        unfold capt at lenC
        rw [hs] at lenC
        simp at lenC
      | some c =>
        rw [capt_of hs] at r
        cases r with
        | cons rx r2 =>
          cases r2 with
          | cons rd _ =>
            have A : At K R [] [] (lamS n i d x) [] (σ ++ [some v]) H := {
              len := by unfold lamS; simp [hl]
              stp := fun z hz => absurd hz List.not_mem_nil
              bag := fun b hb => absurd hb List.not_mem_nil
              bgo := fun z hz => absurd hz List.not_mem_nil
              bE := fun b hb => absurd hb List.not_mem_nil
              bW := fun z hz => absurd hz List.not_mem_nil
              slot := fun j e hj => by
                unfold lamS at hj
                by_cases hjn : j < n
                · rw [List.getElem?_append_left (by simpa using hjn)] at hj
                  by_cases e1 : i = j
                  · subst e1
                    rw [List.getElem?_set_self (by simpa using hjn)] at hj
                    cases hj
                    exact ⟨c, by rw [List.getElem?_append_left (by rw [hl]; exact hjn)]; exact hs, rd⟩
                  · rw [List.getElem?_set_ne e1, List.getElem?_replicate] at hj
                    split at hj <;> cases hj
                · rw [List.getElem?_append_right (by simp; omega)] at hj
                  rw [List.length_set, List.length_replicate] at hj
                  have e0 : j = n := by
                    have := (List.getElem?_eq_some_iff.mp hj).1
                    rw [List.length_singleton] at this
                    omega
                  subst e0
                  rw [Nat.sub_self] at hj
                  cases hj
                  exact ⟨v, by rw [List.getElem?_append_right (by omega), hl, Nat.sub_self] <;> rfl, rx⟩
              ownS := fun j p hj => by
                unfold lamS at hj
                by_cases hjn : j < n
                · rw [List.getElem?_append_left (by simpa using hjn)] at hj
                  by_cases e1 : i = j
                  · subst e1
                    rw [List.getElem?_set_self (by simpa using hjn)] at hj
                    cases hj
                  · rw [List.getElem?_set_ne e1, List.getElem?_replicate] at hj
                    split at hj <;> cases hj
                · rw [List.getElem?_append_right (by simp; omega)] at hj
                  rw [List.length_set, List.length_replicate] at hj
                  have e0 : j = n := by
                    have := (List.getElem?_eq_some_iff.mp hj).1
                    rw [List.length_singleton] at this
                    omega
                  subst e0
                  rw [Nat.sub_self] at hj
                  cases hj
              own := fun p od h => absurd h List.not_mem_nil
              nd := List.nodup_nil
              frs := fun z hz => absurd hz List.not_mem_nil
              oE := fun p h => absurd h List.not_mem_nil
              ent := rg.ent
              tab := rg.tab }
            exact hE R x d p [] [] _ H (fun _ h => absurd h List.not_mem_nil) A Q fun v' e H' g r' _ pp => k v' e H' g r' (fun z => nomatch z) pp
/-- x(lambda p: body, args): slot i is what the lambda hangs on -/
theorem ev_lamC {Pt : Addr} {q : Str} {t : TA} {i : Nat} {dr : D} {ds : List D} {X : XK} {pre : Addr → List V → List D → Prop} {post : List D → D → Prop} (hP : (Pt, q) ∈ I.tabs.1) (hu : ∀ p ∈ I.tabs.1, p.1 = Pt → p.2 = q) (hi : ss[i]? = some (.dat dr)) (ha : EaD K E B m ss o0 t ds)
    (h1 : ∀ f v, pre f [v] (.fn f [v] [dr] :: ds)) (h3 : ∀ f v d, post (.fn f [v] [dr] :: ds) d → P d) :
    Ev K E B m ss o0 F (tLamC Pt q t (fun σ f c' => @SpX (I.ext c' q) K false (pre f (capt i σ)) F post) X) P := fun Z os σ H ho A Q k => by
  refine ⟨A.tab.1 _ hP, fun f c' H1 mm T1 => ?_⟩
  have g1 : Go B H H1 := ⟨fun a o n e => ⟨fun t => mm.keep e t.no, mm.there e⟩, fun b hb l h => h.mono fun a o e t => mm.keep e t.no, fun T => ⟨mm.tab T1 hu T.1, fun p hp => mm.keep (T.2 p hp) LamX.codeO_ne⟩⟩
  have A1 := A.go g1
  obtain ⟨v, hv, rv⟩ := A1.slot i _ hi
  refine ha Z os σ H1 ho A1 _ fun us ds' H2 g2 r2 e => ?_
  subst e
  have rg := (A1.rg m).go g2
  have nB : c' ∉ B := fun hb => by
    obtain ⟨l, _, _, _, _, _, e1, _⟩ := A1.bag c' hb
    rw [mm.code] at e1
    unfold LamX.CodeO at e1
    cases e1
  have code : H2 c' = some (LamX.CodeO c' q) := g2.one nB mm.code code_nt
  show @SpX (I.ext c' q) K false (pre f (capt i σ)) F post (.ref f :: us) H2 Q X
  rw [capt_of hv]
  refine ⟨er m os E, .fn f [v] [dr] :: ds', @Rg.mk (I.ext c' q) _ _ _ (fun b hb => absurd (show b ∈ ([] : List Addr) from hb) List.not_mem_nil) (fun b hb => absurd (show b ∈ ([] : List Addr) from hb) List.not_mem_nil) rg.ent (tbl_ext rg.tab code),
    .cons (.fn (.cons ((A1.rg m).keep g2 (rp_all rv)) .nil)) r2, h1 f v, fun v' d H' g r' f' p => ?_⟩
  exact k v' d H' ((g1.trans g2).trans (Go.up (go_of g code))) r' (fun hf => ((f' hf).back g2 A1.bag).back g1 A.bag) (h3 f v d p)
end
end Da
/-! The end of a law with tables of code objects, where no repr runs around. -/
namespace Da
open PySem PySem.Spec L2 PyProof.Rows LamX
/-- the tables behind the top: code objects and their tables, all empty -/
structure Tabd (K : PySem.W.Frag) (mg : Str → Option Value) (h : Heap) (ts : List (Addr × Addr)) : Prop where
  at_ : ∀ p ∈ ts, h.get? p.2 = some { cls := .none, data := .fields #[] }
  out : ∀ p ∈ ts, K.lookup p.2 = none
  code : ∀ p ∈ ts, PySem.W.CodeHd h p.1 p.2
  bm : ∃ (bm : Addr) (ob : Obj), mg "__builtins__" = some (.ref bm) ∧ bm ≠ builtinsNs ∧ h.get? bm = some ob ∧ ob.cls = .type "module" ∧ ob.dict = some builtinsNs ∧ ob.data = .plain
def LoneT (K : PySem.W.Frag) (a : Addr) (us : List Value) (ns : List Int) (ts : List (Addr × Addr)) (H : Hp) : Prop :=
  ∀ b u, H b = some u → (b = a ∧ K.lookup a = none ∧ u = .frz { cls := .type "list", data := .seq us.toArray } (.lst (ns.map V.int))) ∨ ((∃ p ∈ ts, p.2 = b) ∧ u = .tbl #[])
section
variable {P : Program} {w : World} {K : PySem.W.Frag} {mg : Str → Option Value} {CX : CXT} {k : Nat} {fa a : Addr} {fd : FuncData} {x : Str} {sp : Sp} {s : Shared} {us : List Value} {ns : List Int} {ts : List (Addr × Addr)}
theorem Tabd.told (S : Top K mg s a us ns) (ST : Tabd K mg s.heap ts) (F : ∀ base : Heap, K.In base → base.Ns mainGlobals mg → (∀ p ∈ ts, TabB base mg p.1 p.2) → FnG P w K mg base CX k fa fd [x] sp)
    (bd : ∀ (t : Shared) (u : Value), BindsTo t fd ⟨[u], []⟩ [(x, u)]) (room : Room k callerA) {H : Hp} (lone : LoneT K a us ns ts H) (told : HOk P w H s.heap) (inT : ∀ p ∈ ts, H p.2 = some (.tbl #[]))
    (go : sp [.ref a] H (fun v _ => v = .bl true) fun _ _ _ => False) (quiet : ∀ e t, CX [] H s (fun _ _ _ => False) e t → False) :
    codeAny (model P w) callerA (.call (.ref fa) ⟨[.ref a], []⟩) (fun r t => r = .ok (.ret (.bool true)) ∧ OldK s.heap t.heap ∧ t.os = s.os ∧ AllBare t.gens) s := by
  have off : ∀ {b : Addr} {o : Obj}, s.heap.get? b = some o → (∀ vs n, o.data ≠ .seq vs n) → o.data ≠ .fields #[] → H b = .none := fun {b o} e n1 n2 => by
    match q : H b with
    | .none => rfl
    | .some u =>
      rcases lone b u q with ⟨rfl, _, _⟩ | ⟨⟨p, hp, rfl⟩, _⟩
      · rw [S.obj] at e
        cases e
        exact absurd rfl (n1 _ _)
      · rw [ST.at_ p hp] at e
        cases e
        exact absurd rfl n2
  have hid : ∀ {b : Addr} {o : Obj}, s.heap.get? b = some o → H b = .none → (hidT s.heap H).get? b = some o := fun e n => hidT_get e n
  have names : ∀ {b : Addr} {m : Str → Option Value}, s.heap.Ns b m → (hidT s.heap H).Ns b m := fun {b m} n => by
    obtain ⟨o, es, ep, e, d, r⟩ := n
    exact ⟨o, es, ep, hid e (off e (fun _ _ z => by rw [d] at z; cases z) fun z => by rw [d] at z; cases z), d, r⟩
  have own : K.In (hidT s.heap H) := fun b o e => hid (S.kin b o e) (by
    match q : H b with
    | .none => rfl
    | .some u =>
      rcases lone b u q with ⟨rfl, no, _⟩ | ⟨⟨p, hp, rfl⟩, _⟩
      · rw [no] at e
        cases e
      · rw [ST.out p hp] at e
        cases e)
  obtain ⟨mb, bi1, bi2⟩ := S.bi
  obtain ⟨mc, lim1, lim2⟩ := S.lim
  have env : Env0 P w K mg (hidT s.heap H) callerA [] s H := {
    frames := rfl
    mod := ⟨own, names S.main, ⟨mb, names bi1, bi2⟩, mc, names lim1, lim2⟩
    bs := fun _ _ e => of_hidT e
    bsz := Nat.le_of_eq (hidT_size _ _)
    funs := trivial
    frf := fun b hb => nomatch hb
    hok := told
    bare := .of_eq S.nog }
  have tabs : ∀ p ∈ ts, TabB (hidT s.heap H) mg p.1 p.2 := fun p hp => by
    have atP := ST.at_ p hp
    have far : mainGlobals ≠ p.2 := fun z => by
      obtain ⟨o, es, ep, e, d, _⟩ := S.main
      rw [z, atP] at e
      cases e
      cases d
    refine ⟨?_, ?_, far⟩
    · obtain ⟨o, vs, file, tf, flags, tg, inF, text, tt, e1, e2, e3, e4, r⟩ := ST.code p hp
      refine ⟨o, vs, file, tf, flags, tg, inF, text, tt, hid e1 (off e1 (fun _ _ z => by rw [e3] at z; cases z) fun z => ?_), e2, e3, e4, r⟩
      rw [e3] at z
      cases z
      simp at e4
    · obtain ⟨bm, ob, b1, b2, b3, b4, b5, b6⟩ := ST.bm
      refine ⟨bm, ob, b1, b2, fun q => ?_, fun q => ?_, hid b3 (off b3 (fun _ _ z => by rw [b6] at z; cases z) fun z => by rw [b6] at z; cases z), b4, b5, b6⟩
      · obtain ⟨o, es, ep, e, d, _⟩ := S.main
        rw [q, e] at b3
        cases b3
        rw [d] at b6
        cases b6
      · rw [q, atP] at b3
        cases b3
        cases b6
  have ran := (F _ own (names S.main) tabs).run callerA rfl [] s H ⟨[.ref a], []⟩ [.ref a] [.ref a] (fun v _ => v = .bl true) (fun _ _ _ => False) room env (bd s (.ref a)) (.cons rfl .nil) go
  refine codeAny_mono ran fun r t got => ?_
  match r, got with
  | .error e, got => exact (quiet e t got).elim
  | .ok (.ret u), ⟨v, H', os, bare, un, told', rel, yes⟩ =>
    have yes : v = .bl true := yes
    subst yes
    have rel : u = Value.bool true := rel
    subst rel
    refine ⟨rfl, ⟨fun b o e => ?_, fun b o e => ?_⟩, os, bare⟩
    · match q : H b with
      | .none => exact .inl (un.keep b o e q (fun z => nomatch z) (by simp))
      | .some u =>
        rcases lone b u q with ⟨_, _, rfl⟩ | ⟨⟨p, hp, rfl⟩, rfl⟩
        · have f1 := (told b _ q).1
          have f2 := (told' b _ (un.frzs b _ _ q)).1
          rw [e] at f1
          cases f1
          exact .inl f2
        · obtain ⟨more, z⟩ := un.tbls p.2 #[] q
          have f2 := told' p.2 _ z
          rw [ST.at_ p hp] at e
          cases e
          exact .inr (.inl ⟨((ST.code p hp).tab (ST.at_ p hp)).isCodeTable, rfl, #[], more, rfl, f2⟩)
    · match q : H b with
      | .none => exact ⟨o, un.keep b o e q (fun z => nomatch z) (by simp)⟩
      | .some u =>
        rcases lone b u q with ⟨_, _, rfl⟩ | ⟨⟨p, hp, rfl⟩, rfl⟩
        · exact ⟨_, (told' b _ (un.frzs b _ _ q)).1⟩
        · obtain ⟨more, z⟩ := un.tbls p.2 #[] q
          exact ⟨_, told' p.2 _ z⟩
theorem Tabd.call (S : Top K mg s a us ns) (ST : Tabd K mg s.heap ts) (F : ∀ base : Heap, K.In base → base.Ns mainGlobals mg → (∀ p ∈ ts, TabB base mg p.1 p.2) → FnG P w K mg base CX k fa fd [x] sp)
    (bd : ∀ (t : Shared) (u : Value), BindsTo t fd ⟨[u], []⟩ [(x, u)]) (room : Room k callerA)
    (go : ∀ H : Hp, (∀ p ∈ ts, H p.2 = some (.tbl #[])) → SqL K H a (ns.map V.int) → sp [.ref a] H (fun v _ => v = .bl true) fun _ _ _ => False) (quiet : ∀ H e t, CX [] H s (fun _ _ _ => False) e t → False) :
    codeAny (model P w) callerA (.call (.ref fa) ⟨[.ref a], []⟩) (fun r t => r = .ok (.ret (.bool true)) ∧ OldK s.heap t.heap ∧ t.os = s.os ∧ AllBare t.gens) s := by
  have rel := vals_ints S.whole
  have same := S.whole.length
  have notA : ∀ p ∈ ts, p.2 ≠ a := fun p hp z => by
    have e := ST.at_ p hp
    rw [z, S.obj] at e
    cases e
  let HT : Hp := fun b => if b ∈ ts.map (·.2) then .some (.tbl #[]) else .none
  have atT : ∀ p ∈ ts, HT p.2 = some (.tbl #[]) := fun p hp => if_pos (List.mem_map.mpr ⟨p, hp, rfl⟩)
  have onlyT : ∀ b u, HT b = some u → (∃ p ∈ ts, p.2 = b) ∧ u = .tbl #[] := fun b u z => by
    by_cases hb : b ∈ ts.map (·.2)
    · have z := (if_pos hb).symm.trans z
      cases z
      obtain ⟨p, hp, e⟩ := List.mem_map.mp hb
      exact ⟨⟨p, hp, e⟩, rfl⟩
    · have z := (if_neg hb).symm.trans z
      cases z
  match hk : K.lookup a with
  | .some o =>
    have e := S.kin a o hk
    rw [S.obj] at e
    cases e
    have told : SqL K HT a (ns.map V.int) := .inr ⟨_, us.toArray, _, hk, rfl, rfl, rfl, by rw [List.size_toArray, same]; exact S.len, by simpa using rel⟩
    refine Tabd.told S ST F bd room (H := HT) (fun b u z => .inr (onlyT b u z)) (fun b u z => ?_) atT (go _ atT told) (quiet _)
    obtain ⟨⟨p, hp, rfl⟩, rfl⟩ := onlyT b u z
    exact ST.at_ p hp
  | .none =>
    let H : Hp := fun b => if b = a then .some (.frz { cls := .type "list", data := .seq us.toArray } (.lst (ns.map V.int))) else HT b
    have atA : H a = .some (.frz { cls := .type "list", data := .seq us.toArray } (.lst (ns.map V.int))) := if_pos rfl
    have atH : ∀ p ∈ ts, H p.2 = some (.tbl #[]) := fun p hp => (if_neg (notA p hp)).trans (atT p hp)
    have lone : LoneT K a us ns ts H := fun b u z => by
      by_cases e : b = a
      · subst e
        rw [atA] at z
        cases z
        exact .inl ⟨rfl, hk, rfl⟩
      · exact .inr (onlyT b u ((if_neg e).symm.trans z))
    refine Tabd.told S ST F bd room lone (fun b u z => ?_) atH (go H atH (.inl (.inr ⟨_, atA⟩))) (quiet H)
    rcases lone b u z with ⟨rfl, _, rfl⟩ | ⟨⟨p, hp, rfl⟩, rfl⟩
    · exact ⟨S.obj, by rw [List.length_map]; exact S.len, us, _, rel, S.obj⟩
    · exact ST.at_ p hp
end
/-- the law, from a promise of its def: ts are the tables of the defs that make lambdas -/
theorem walkT {l : PySem.W.OpenLaw} {n k : Nat} {q : Program} {loose : List Str} {XP : (Str → Option Value) → Heap → Prop} {YP : World → Heap → Prop} {d : DefRec} {K : Params → PySem.W.Frag} {sp : List (Addr × Addr) → PySem.W.Frag → Sp} {x : Str}
    (most : l.most = some n) (few : n ≤ sizeLine) (plain : d.params.defaults = []) (room : Room k callerA) (inK : ∀ (w : World) (h : Heap), YP w h → (K w.params).In h)
    (F : ∀ (w : World) (mg : Str → Option Value) (fa : Addr) (h : Heap), (K w.params).In h → h.Ns mainGlobals mg → mg d.name = some (.ref fa) →
      (∀ d ∈ recsOf q, ∃ (b : Addr) (o : Obj) (fd : FuncData) (c P : Addr), mg d.name = some (.ref b) ∧ h.get? b = some o ∧ o.data = .func fd ∧ fd.code = .ref c ∧ PySem.W.CodeHd h c P ∧ h.get? P = some { cls := .none, data := .fields #[] }) →
      ∃ (fd : FuncData) (ts : List (Addr × Addr)), (∀ p ∈ ts, h.get? p.2 = some { cls := .none, data := .fields #[] } ∧ (K w.params).lookup p.2 = none ∧ PySem.W.CodeHd h p.1 p.2) ∧ (∀ (t : Shared) (u : Value), BindsTo t fd ⟨[u], []⟩ [(x, u)]) ∧
        ∀ base : Heap, (K w.params).In base → base.Ns mainGlobals mg → (∀ p ∈ ts, TabB base mg p.1 p.2) → FnG l.prog w (K w.params) mg base CX0 k fa fd [x] (sp ts (K w.params)))
    (go : ∀ (K : PySem.W.Frag) (ts : List (Addr × Addr)) (H : Hp) (a : Addr) (ns : List Int), ns.length ≤ n → (∀ p ∈ ts, H p.2 = some (.tbl #[])) → SqL K H a (ns.map V.int) → sp ts K [.ref a] H (fun v _ => v = .bl true) fun _ _ _ => False) :
    PySem.W.WalkO q loose XP YP l.row.toRowW d [] (fun f us => PySem.call f us) := by
  refine Att.attach_call most plain fun w s₀ s mg mb fa o pm cd doc a us ns G Y ho hd hcd hmg hobj hints hlen hg => ?_
  obtain ⟨fd, ts, tabs, bd, ok⟩ := F w mg fa _ (inK w _ Y) G.T.g hmg fun d hd => by
    obtain ⟨b, o, fd, c, P, e1, e2, e3, e4, e5, e6⟩ := G.T.tab d hd
    exact ⟨b, o, fd, c, P, e1, e2, e3, e4, .of e5 e6, e6.2⟩
  have S : @Top (K w.params) mg s a us ns := ⟨inK w _ Y, G.T.g, ⟨mb, G.T.b, G.T.builtins⟩, G.T.nolimit, hg, hobj, hints, Nat.le_trans hlen few⟩
  have ST : Tabd (K w.params) mg s.heap ts := ⟨fun p hp => (tabs p hp).1, fun p hp => (tabs p hp).2.1, fun p hp => (tabs p hp).2.2, G.T.bmain⟩
  exact Tabd.call S ST ok bd room (fun H hT h => go _ ts H a ns hlen hT h) fun H e t z => z
end Da
/-! Defs whose code object is known; defs that are handed a function, told by data. -/
namespace Da
open PySem PyProof.Rows L2 LamD
structure FunC (K : PySem.W.Frag) (x qual : Str) (st : Stmt) (f : Addr) (fd : FuncData) (c : Addr) : Prop where
  ex : ∃ (oc : Value) (od : Option Addr) (kV doc pm : Value) (an : Option Addr) (ct : Value) (osl : Array (Option Value)),
    fd = PySem.W.fnOf x qual (defArgs st) (defBody st) (defScope st) .none kV doc pm an (.ref c) ct ∧ K.lookup f = some ⟨oc, od, .func fd, osl⟩ ∧ PySem.W.codeIn K (.ref c) qual = true
theorem funC_of {K : PySem.W.Frag} {x qual : Str} {st : Stmt} {f : Addr} {fd : FuncData} {c : Addr} (F : Fun K x qual st f fd) (h : fd.code = .ref c) : FunC K x qual st f fd c := by
  obtain ⟨oc, od, kV, doc, pm, an, cdv, ct, osl, rfl, lk, hcd⟩ := F.ex
  have h : cdv = .ref c := h
  subst h
  exact ⟨oc, od, kV, doc, pm, an, ct, osl, rfl, lk, hcd⟩
variable [I : Tbs]
section
variable {P : Program} {w : World} {K : PySem.W.Frag} {mg : Str → Option Value} {base : Heap}
theorem okDC {x qual : Str} {st : Stmt} {f c : Addr} {fd : FuncData} {N ps : List Str} {k : Nat} {wb : Bool} {pre : List D → Prop} {F : Bool} {post : List D → D → Prop} (Fu : FunC K x qual st f fd c) (S : FnScope N ps (defScope st)) (len : ∀ ds, pre ds → ds.length = ps.length)
    (hbody : ∀ (A : Around) (outer : List Env) (s : Shared) (H : Hp) (E : XK), Room k (A.deeper (envOfC qual (defScope st) s.heap.objs.size f (.ref c))) →
      ∃ t, PSs (cxOf CX0 P w K mg base N qual (defScope st) f (.ref c) A outer s H E).nox (defBody st) t ∧
        ∀ R ds σ Q, pre ds → Bags (bagsOf wb ds) R H → At K R (bagsOf wb ds) [(bagsOf wb ds, H)] (begin N ds) [] σ H → Tells K R (bagsOf wb ds) H F (post ds) Q → t { nx := fun _ H' => Q .non H', rt := Q } σ H) :
    FnOk P w K mg base CX0 (k + 1) f fd ps (SpX K wb pre F post) := by
  obtain ⟨oc, od, kV, doc, pm, an, ct, osl, rfl, lk, hcd⟩ := Fu.ex
  refine fn_of lk hcd S (fun vs H Q E h => ?_) fun A outer s H vs Q E hr hsp => ?_
  · obtain ⟨R, ds, _, r, p, _⟩ := h
    rw [r.length]
    exact len ds p
  · obtain ⟨R, ds, rg, r, p, q⟩ := hsp
    obtain ⟨t, ht, hq⟩ := hbody A outer s H E hr
    exact ⟨t, ht.nox, hq R ds _ Q p rg.bag (.start rg r) q⟩
theorem okFD {x qual : Str} {st : Stmt} {f : Addr} {fd : FuncData} {N ps : List Str} {k : Nat} {wb : Bool} {pre : List D → Prop} {F : Bool} {post : List D → D → Prop} {FV : List Env → Shared → Hp → Prop} (Fu : Fun K x qual st f fd) (S : FnScope N ps (defScope st)) (len : ∀ ds, pre ds → ds.length = ps.length)
    (hbody : ∀ (cdv : Value) (A : Around) (outer : List Env) (s : Shared) (H : Hp) (E : XK), FV outer s H → Room k (A.deeper (envOfC qual (defScope st) s.heap.objs.size f cdv)) →
      ∃ t, PSs (cxOf CX0 P w K mg base N qual (defScope st) f cdv A outer s H E).nox (defBody st) t ∧
        ∀ R ds σ Q, pre ds → Bags (bagsOf wb ds) R H → At K R (bagsOf wb ds) [(bagsOf wb ds, H)] (begin N ds) [] σ H → Tells K R (bagsOf wb ds) H F (post ds) Q → t { nx := fun _ H' => Q .non H', rt := Q } σ H) :
    FnF P w K mg base (k + 1) f fd ps FV (SpX K wb pre F post) := by
  refine okF Fu S (fun vs H Q E h => ?_) (fun cdv A outer s H vs Q E fv hr h => ?_)
  · obtain ⟨R, ds, _, r, p, _⟩ := h
    rw [r.length]
    exact len ds p
  · obtain ⟨R, ds, rg, r, p, q⟩ := h
    obtain ⟨t, ht, hq⟩ := hbody cdv A outer s H E fv hr
    exact ⟨t, ht, hq R ds _ Q p rg.bag (.start rg r) q⟩
end
section
variable {X : Cx} {k : Nat} {f : Addr} {sp : Sp}
theorem pe_callVD {a : Str} {i : Nat} {e : Expr} {es : List Expr} {t : TA} {E : XK} {p1 p2 : Pos} (F : FunV X.prog X.w X.K X.mg X.base k f sp X.outer X.s_0 X.H_0) (hex : X.ex = []) (hr : Room k X.A)
    (ha : PA X (e :: es) t) (hN : X.N[i]? = some a) (hv : Vis X.env.scope a) (hd : (a == ("__debug__" : Str)) = false := by decide) (hcd : (a == ("__classdict__" : Str)) = false := by decide)
    (he : starEach (e :: es) X.env = (false, eval e X.env) :: starEach es X.env := by rfl) (hpl : (backTo p2 (starEach es X.env)).any (·.1) = false := by rfl) :
    PE X (.Call (.Name a p1) (e :: es) [] p2) (tCallV i f t sp E) := pe_callV F hex hr ha hN hv hd hcd he hpl
end
end Da
namespace Da
open PySem PyProof.Rows L2
/-- where a def's table lies -/
theorem tab_at {K : PySem.W.Frag} {h : Heap} {mg : Str → Option Value} (X : K.In h) {RS : List DefRec}
    (tabs : ∀ d ∈ RS, ∃ (b : Addr) (o : Obj) (fd : FuncData) (c P : Addr), mg d.name = some (.ref b) ∧ h.get? b = some o ∧ o.data = .func fd ∧ fd.code = .ref c ∧ PySem.W.CodeHd h c P ∧ h.get? P = some { cls := .none, data := .fields #[] })
    {nm : Str} (tb : ∃ d ∈ RS, d.name = nm) {f c PA : Addr} {e : FuncData} {x qual : Str} {st : Stmt} {occ : Value} {odc : Option Addr} {vsc : Array Value} {slc : Array (Option Value)} (hm : mg nm = some (.ref f)) (Fu : Fun K x qual st f e) (tc : e.code = .ref c)
    (tl : K.lookup c = some ⟨occ, odc, .fields vsc, slc⟩) (tv : vsc[11]? = some (.ref PA)) (tn : K.lookup PA = none) : h.get? PA = some { cls := .none, data := .fields #[] } ∧ K.lookup PA = none ∧ PySem.W.CodeHd h c PA := by
  obtain ⟨d, hd, rfl⟩ := tb
  obtain ⟨b, o, fd, c', P', q1, q2, q3, q4, q5, q6⟩ := tabs d hd
  rw [hm] at q1
  cases q1
  obtain ⟨oc, od, kV, doc, pm, an, cdv, ct, osl, _, lk, _⟩ := Fu.ex
  rw [X _ _ lk] at q2
  cases q2
  have q3 : Data.func e = .func fd := q3
  cases q3
  rw [tc] at q4
  cases q4
  have code := q5
  obtain ⟨o, vs, file, tf, flags, tg, inF, text, tt, e1, e2, e3, e4, r⟩ := q5
  rw [X _ _ tl] at e1
  cases e1
  have e3 : Data.fields vsc = .fields vs := e3
  cases e3
  rw [tv] at e4
  cases e4
  exact ⟨q6, tn, code⟩
end Da
/-! Lambdas that hang on several names; two lambdas behind two plain arguments. -/
namespace Da
open PySem PyProof.Rows L2 LamD
section
variable {K : PySem.W.Frag} {H : Hp}
/-- what the lambda hangs on, slot by slot -/
def captL (is : List Nat) (σ : L2.St) : List V := is.filterMap fun i => (σ[i]?).join
theorem captL_len (is : List Nat) (σ : L2.St) : (captL is σ).length ≤ is.length := List.length_filterMap_le _ _
theorem captL_at : ∀ {is : List Nat} {σ : L2.St} {cs : List D}, RpAll K H (captL is σ) cs → cs.length = is.length → ∀ (j : Nat) (d : D), (is.zip cs).lookup j = some d → ∃ v, σ[j]? = some (some v) ∧ Rp K H v d
  | [], _, _, _, _, _, _, e => by cases e
  | i :: is, σ, cs, r, hl, j, d, e => by
    cases hs : (σ[i]?).join with
    | none =>
      have e1 : captL (i :: is) σ = captL is σ := List.filterMap_cons_none hs
      rw [e1] at r
      have h1 := r.length
      have h2 := captL_len is σ
      rw [hl, List.length_cons] at h1
      omega
    | some v =>
      have e1 : captL (i :: is) σ = v :: captL is σ := List.filterMap_cons_some hs
      rw [e1] at r
      cases r with
      | @cons _ _ c cs' rv r2 =>
        rw [List.zip_cons_cons, List.lookup_cons] at e
        by_cases hj : j = i
        · subst hj
          rw [beq_self_eq_true] at e
          cases e
          refine ⟨v, ?_, rv⟩
          cases q : σ[j]? with
          | none => rw [q] at hs; cases hs
          | some o =>
            rw [q] at hs
            have hs : o = some v := hs
            rw [hs]
        · rw [show (j == i) = false from by simpa using hj] at e
          exact captL_at r2 (by simpa using hl) j d e
theorem captL_of : ∀ {is : List Nat} {σ : L2.St} {ss : List Sl} {cs : List D}, cs.length = is.length → (∀ p ∈ is.zip cs, ss[p.1]? = some (.dat p.2)) → (∀ (i : Nat) (d : D), ss[i]? = some (.dat d) → ∃ v, σ[i]? = some (some v) ∧ Rp K H v d) → RpAll K H (captL is σ) cs
  | [], _, _, [], _, _, _ => .nil
  | i :: is, σ, ss, c :: cs, hl, hi, hs => by
    obtain ⟨v, e, r⟩ := hs i c (hi (i, c) List.mem_cons_self)
    have e1 : captL (i :: is) σ = v :: captL is σ := List.filterMap_cons_some (by rw [e] <;> rfl)
    rw [e1]
    exact .cons r (captL_of (by simpa using hl) (fun p hp => hi p (List.mem_cons_of_mem _ hp)) hs)
end
section
variable [I : Tbs] {K : PySem.W.Frag} {E B R : List Addr} {ss : List Sl} {m F : Bool} {o0 : Os} {P : D → Prop}
/-- the slots of the lambda's body: those that it hangs on, the parameter comes last -/
def lamSL (n : Nat) (cs : List (Nat × D)) (x : D) : List Sl := ((List.range n).map fun j => match cs.lookup j with
  | some d => Sl.dat d
  | none => Sl.any) ++ [.dat x]
theorem lam_bodyL {n : Nat} {is : List Nat} {te : TE} {H : Hp} {Q : VK} {X : XK} {σ : L2.St} {us : List V} {pre : List D → Prop} {post : List D → D → Prop} (hl : σ.length = n) (h : spFn K pre post (captL is σ) us H Q X) {cd : Prop} (code : cd)
    (two : ∀ ds, pre ds → ∃ x cs, ds = x :: cs ∧ cs.length = is.length)
    (hE : ∀ R x cs, pre (x :: cs) → cs.length = is.length → Ev K R [] false (lamSL n (is.zip cs) x) [] false te (fun y => post (x :: cs) y)) : ∃ v, us = [v] ∧ cd ∧ te (σ ++ [some v]) H Q := by
  obtain ⟨one, R, ds, rg, r, p, k⟩ := h
  obtain ⟨x, cs, rfl, hc⟩ := two ds p
  match us, one with
  | [v], _ =>
    refine ⟨v, rfl, code, ?_⟩
    cases r with
    | cons rx rc =>
      have at_ := captL_at rc hc
      have A : At K R [] [] (lamSL n (is.zip cs) x) [] (σ ++ [some v]) H := {
        len := by unfold lamSL; simp [hl]
        stp := fun z hz => absurd hz List.not_mem_nil
        bag := fun b hb => absurd hb List.not_mem_nil
        bgo := fun z hz => absurd hz List.not_mem_nil
        bE := fun b hb => absurd hb List.not_mem_nil
        bW := fun z hz => absurd hz List.not_mem_nil
        slot := fun j e hj => by
          unfold lamSL at hj
          by_cases hjn : j < n
          · rw [List.getElem?_append_left (by simpa using hjn), List.getElem?_map, List.getElem?_range hjn] at hj
            have hj := Option.some.inj hj
            dsimp only at hj
            cases q : (is.zip cs).lookup j with
            | none => rw [q] at hj; cases hj
            | some d =>
              rw [q] at hj
              cases hj
              obtain ⟨u, e1, e2⟩ := at_ j _ q
              exact ⟨u, by rw [List.getElem?_append_left (by rw [hl]; exact hjn)]; exact e1, e2⟩
          · rw [List.getElem?_append_right (by simp; omega), List.length_map, List.length_range] at hj
            have e0 : j = n := by
              have := (List.getElem?_eq_some_iff.mp hj).1
              rw [List.length_singleton] at this
              omega
            subst e0
            rw [Nat.sub_self] at hj
            cases hj
            exact ⟨v, by rw [List.getElem?_append_right (by omega), hl, Nat.sub_self] <;> rfl, rx⟩
        ownS := fun j p hj => by
          unfold lamSL at hj
          by_cases hjn : j < n
          · rw [List.getElem?_append_left (by simpa using hjn), List.getElem?_map, List.getElem?_range hjn] at hj
            have hj := Option.some.inj hj
            dsimp only at hj
            cases q : (is.zip cs).lookup j <;> rw [q] at hj <;> cases hj
          · rw [List.getElem?_append_right (by simp; omega), List.length_map, List.length_range] at hj
            have e0 : j = n := by
              have := (List.getElem?_eq_some_iff.mp hj).1
              rw [List.length_singleton] at this
              omega
            subst e0
            rw [Nat.sub_self] at hj
            cases hj
        own := fun p od h => absurd h List.not_mem_nil
        nd := List.nodup_nil
        frs := fun z hz => absurd hz List.not_mem_nil
        oE := fun p h => absurd h List.not_mem_nil
        ent := rg.ent
        tab := rg.tab }
      exact hE R x cs p hc [] [] _ H (fun _ h => absurd h List.not_mem_nil) A Q fun v' e H' g r' _ pp => k v' e H' g r' (fun z => nomatch z) pp
/-- x(lambda p: body, args): the slots is are what the lambda hangs on -/
theorem ev_lamCL {Pt : Addr} {q : Str} {t : TA} {is : List Nat} {drs : List D} {ds : List D} {X : XK} {pre : Addr → List V → List D → Prop} {post : List D → D → Prop} (hP : (Pt, q) ∈ I.tabs.1) (hu : ∀ p ∈ I.tabs.1, p.1 = Pt → p.2 = q) (hl : drs.length = is.length) (hi : ∀ p ∈ is.zip drs, ss[p.1]? = some (.dat p.2)) (ha : EaD K E B m ss o0 t ds)
    (h1 : ∀ f vs, pre f vs (.fn f vs drs :: ds)) (h3 : ∀ f vs d, post (.fn f vs drs :: ds) d → P d) :
    Ev K E B m ss o0 F (tLamC Pt q t (fun σ f c' => @SpX (I.ext c' q) K false (pre f (captL is σ)) F post) X) P := fun Z os σ H ho A Q k => by
  refine ⟨A.tab.1 _ hP, fun f c' H1 mm T1 => ?_⟩
  have g1 : Go B H H1 := ⟨fun a o n e => ⟨fun t => mm.keep e t.no, mm.there e⟩, fun b hb l h => h.mono fun a o e t => mm.keep e t.no, fun T => ⟨mm.tab T1 hu T.1, fun p hp => mm.keep (T.2 p hp) LamX.codeO_ne⟩⟩
  have A1 := A.go g1
  have rv := captL_of hl hi A1.slot
  refine ha Z os σ H1 ho A1 _ fun us ds' H2 g2 r2 e => ?_
  subst e
  have rg := (A1.rg m).go g2
  have nB : c' ∉ B := fun hb => by
    obtain ⟨l, _, _, _, _, _, e1, _⟩ := A1.bag c' hb
    rw [mm.code] at e1
    unfold LamX.CodeO at e1
    cases e1
  have code : H2 c' = some (LamX.CodeO c' q) := g2.one nB mm.code code_nt
  show @SpX (I.ext c' q) K false (pre f (captL is σ)) F post (.ref f :: us) H2 Q X
  refine ⟨er m os E, .fn f (captL is σ) drs :: ds', @Rg.mk (I.ext c' q) _ _ _ (fun b hb => absurd (show b ∈ ([] : List Addr) from hb) List.not_mem_nil) (fun b hb => absurd (show b ∈ ([] : List Addr) from hb) List.not_mem_nil) rg.ent (tbl_ext rg.tab code),
    .cons (.fn ((A1.rg m).keepA g2 (rpAll_all rv))) r2, h1 f _, fun v' d H' g r' f' p => ?_⟩
  exact k v' d H' ((g1.trans g2).trans (Go.up (go_of g code))) r' (fun hf => ((f' hf).back g2 A1.bag).back g1 A.bag) (h3 f _ d p)
end
end Da
/-! x(e1, e2, lambda p1: .., lambda p2: ..) -/
namespace LamD
open PySem PySem.Spec PyProof.Rows L2 LamX
section
variable {X : Cx}
def tLamC2 (P : Addr) (q : Str) (t1 t2 : TE) (spF : L2.St → Addr → Addr → Addr → Addr → Sp) (E : XK) : TE := fun σ H Q => t1 σ H fun v1 H1 => t2 σ H1 fun v2 H2 => TabS H2 P q ∧ ∀ f c H3, Made H2 P q c H3 → TabS H3 P q → ∀ g d H4, Made H3 P q d H4 → TabS H4 P q → spF σ f c g d [v1, v2, .ref f, .ref g] H4 Q E
theorem pe_lamC2 {x : Str} {h c P : Addr} {k kf kg : Nat} {fd : FuncData} {ps : List Str} {pa1 pa2 : Arguments} {b1 b2 : Expr} {sc1 sc2 : Scope} {a1 a2 : Str} {t1 t2 : TE} {tb1 tb2 : XK → TE} {E : XK} {e1 e2 : Expr} {p lp1 lp2 pos : Pos} {spV1 spV2 : L2.St → Addr → Addr → Sp} {spF : L2.St → Addr → Addr → Addr → Addr → Sp}
    (hg : Gl X x) (hm : X.mg x = some (.ref h)) (hk : PySem.W.keepIn X.K (.ref h) = true) (hb : Binds X.K fd ps [])
    (F : ∀ σ f c g d, FnF X.prog X.w X.K X.mg X.base k h fd ps (fun outer s H => FunV X.prog X.w X.K X.mg X.base (kf + 1) f (spV1 σ c d) outer s H ∧ FunV X.prog X.w X.K X.mg X.base (kg + 1) g (spV2 σ c d) outer s H) (spF σ f c g d))
    (TB : TabB X.base X.mg c P) (hcode : X.env.code = .ref c) (hr : Room k X.A) (M1 : LamP X.env.scope sc1 X.N a1) (M2 : LamP X.env.scope sc2 X.N a2) (hd1 : defaultsOf pa1 X.env = ([], [])) (hd2 : defaultsOf pa2 X.env = ([], []))
    (hb1 : ∀ (u : Value) (q : Str) (cl : List (Str × Addr)) (pm cv ctv : Value), bindArgs (PySem.W.kla_fn "<lambda>" q pa1 b1 sc1 cl pm cv ctv) ⟨[u], []⟩ = pure [(a1, u)])
    (hb2 : ∀ (u : Value) (q : Str) (cl : List (Str × Addr)) (pm cv ctv : Value), bindArgs (PySem.W.kla_fn "<lambda>" q pa2 b2 sc2 cl pm cv ctv) ⟨[u], []⟩ = pure [(a2, u)])
    (hB1 : ∀ (A : Around) (outer : List Env) (s : Shared) (H : Hp) (E : XK) (f c' : Addr), Room kf (A.deeper (lamEnv X sc1 s.heap.objs.size f c')) → PE (lamCx1 CX0 X A outer s H E sc1 a1 f c') b1 (tb1 E))
    (hB2 : ∀ (A : Around) (outer : List Env) (s : Shared) (H : Hp) (E : XK) (f c' : Addr), Room kg (A.deeper (lamEnv X sc2 s.heap.objs.size f c')) → PE (lamCx1 CX0 X A outer s H E sc2 a2 f c') b2 (tb2 E))
    (hs1 : ∀ (σ : L2.St) c d, σ.length = X.N.length → ∀ vs H Q E, spV1 σ c d vs H Q E → ∃ v, vs = [v] ∧ H c = some (CodeO c (X.env.qual ++ "<lambda>")) ∧ tb1 E (σ ++ [some v]) H Q)
    (hs2 : ∀ (σ : L2.St) c d, σ.length = X.N.length → ∀ vs H Q E, spV2 σ c d vs H Q E → ∃ v, vs = [v] ∧ H d = some (CodeO d (X.env.qual ++ "<lambda>")) ∧ tb2 E (σ ++ [some v]) H Q)
    (h1 : PE X e1 t1) (h2 : PE X e2 t2) (hloc : X.stack = X.env :: X.outer ∧ X.env.frame = some X.env.locals) (hdb : (x == ("__debug__" : Str)) = false := by decide)
    (he1 : starEach (e1 :: e2 :: .Lambda pa1 b1 sc1 lp1 :: .Lambda pa2 b2 sc2 lp2 :: []) X.env = (false, eval e1 X.env) :: starEach (e2 :: .Lambda pa1 b1 sc1 lp1 :: .Lambda pa2 b2 sc2 lp2 :: []) X.env := by rfl)
    (he2 : starEach (e2 :: .Lambda pa1 b1 sc1 lp1 :: .Lambda pa2 b2 sc2 lp2 :: []) X.env = (false, eval e2 X.env) :: starEach (.Lambda pa1 b1 sc1 lp1 :: .Lambda pa2 b2 sc2 lp2 :: []) X.env := by rfl)
    (hpl : (backTo pos (starEach (e2 :: .Lambda pa1 b1 sc1 lp1 :: .Lambda pa2 b2 sc2 lp2 :: []) X.env)).any (·.1) = false := by rfl) :
    PE X (.Call (.Name x p) (e1 :: e2 :: .Lambda pa1 b1 sc1 lp1 :: .Lambda pa2 b2 sc2 lp2 :: []) [] pos) (tLamC2 P (X.env.qual ++ "<lambda>") t1 t2 spF E) := by
  refine ⟨fun pins s σ H Q I hq => ?_⟩
  refine wpAny_Call_Name_kw (ld_glob I hg hm ?_ hdb)
  refine PySem.W.callWith_K (h₀ := X.base) I.ok.mod.kin hk ?_ he1 hpl
  rw [he1, he2]
  show wpAny _ _ (spliced ((false, eval e1 X.env) :: (false, eval e2 X.env) :: (false, eval (.Lambda pa1 b1 sc1 lp1) X.env) :: (false, eval (.Lambda pa2 b2 sc2 lp2) X.env) :: backTo pos (starEach [] X.env))) _ _ s
  refine Calls.spliced_cons (thn (h1.run pins s σ H _ I hq) fun u1 s1 ⟨v1, H1, I1, r1, hq⟩ => ?_)
  refine Calls.spliced_cons (thn (h2.run pins s1 σ H1 _ I1 hq) fun u2 s2 ⟨v2, H2, I2, r2, hq⟩ => ?_)
  obtain ⟨hT, hq⟩ := hq
  refine Calls.spliced_cons (lam_new rfl I2 TB hcode hT hd1 (M1.has I2.ok) fun f cf pm1 ct1 H3 s3 I3 m3 T3 hf hfn hfr => ?_)
  have off : ∀ {f : Addr}, f ∉ frs X.stack → f ≠ X.env.locals ∧ f ∉ X.fs := fun {f} hfr => ⟨fun z => hfr (by rw [hloc.1, z]; unfold frs; rw [List.filterMap_cons, hloc.2]; exact List.mem_cons_self), fun z => hfr (by rw [hloc.1]; unfold frs; rw [List.filterMap_cons, hloc.2]; exact List.mem_cons_of_mem _ z)⟩
  have I3p : Inv X ((f, objL X pa1 b1 sc1 pm1 cf ct1) :: pins) σ H3 s3 := { I3 with
    pin := fun q hq => by
      rcases List.mem_append.mp hq with z | z
      · exact I3.pin q (List.mem_append_left _ z)
      · rcases List.mem_cons.mp z with z | z
        · subst z
          exact ⟨hf, hfn, (off hfr).1, (off hfr).2, fun v z => nomatch z⟩
        · exact I3.pin q (List.mem_append_right _ z) }
  refine Calls.spliced_cons (lam_new rfl I3p TB hcode T3 hd2 (M2.has I3p.ok) fun g cg pm2 ct2 H4 s4 I4 m4 T4 hg2 hgn hgr => ?_)
  have fpin := I4.pin (f, objL X pa1 b1 sc1 pm1 cf ct1) (List.mem_append_right _ List.mem_cons_self)
  have FV1 := funV_make (sp := spV1 σ cf cg) I4 M1 fpin.1 fpin.2.1 hfr hb1 (fun A outer s H E hr2 => hB1 A outer s H E f cf hr2) (hs1 σ cf cg I4.len)
  have FV2 := funV_make (sp := spV2 σ cf cg) I4 M2 hg2 hgn hgr hb2 (fun A outer s H E hr2 => hB2 A outer s H E g cg hr2) (hs2 σ cf cg I4.len)
  have q' : spF σ f cf g cg [v1, v2, .ref f, .ref g] H4 Q E := hq f cf H3 m3 T3 g cg H4 m4 T4
  have rr : Vals [v1, v2, .ref f, .ref g] [u1, u2, .ref f, .ref g] := .cons r1 (.cons r2 (.cons rfl (.cons rfl .nil)))
  have FF := F σ f cf g cg
  have count := rr.length.symm.trans (FF.len _ _ _ _ q')
  have b := hb s4 [u1, u2, .ref f, .ref g] I4.kIn (by rw [List.append_nil]; exact count)
  rw [List.append_nil] at b
  refine Calls.spliced_nil ⟨I4.kIn, wpAny_call (codeAny_mono (FF.run X.A X.stack s4 H4 ⟨[u1, u2, .ref f, .ref g], []⟩ _ _ Q E ⟨FV1, FV2⟩ hr I4.env0 b rr q') fun res s' got => ?_)⟩
  match res, got with
  | .ok (.ret u), got =>
    obtain ⟨v, H', I5, rv, q5⟩ := I4.after got
    exact ⟨v, H', { I5 with
      pin := fun q hq => by
        rcases List.mem_append.mp hq with z | z
        · exact I5.pin q (List.mem_append_left _ z)
        · exact I5.pin q (List.mem_append_right _ (List.mem_cons_of_mem _ z)) }, rv, q5⟩
end
end LamD
namespace Da
open PySem PyProof.Rows L2 LamD
section
variable [I : Tbs] {K : PySem.W.Frag} {E B R : List Addr} {ss : List Sl} {m F : Bool} {o0 : Os} {P : D → Prop}
theorem go_made {Pt c : Addr} {q : Str} {H H1 : Hp} (mm : LamD.Made H Pt q c H1) (T1 : LamX.TabS H1 Pt q) (hu : ∀ p ∈ I.tabs.1, p.1 = Pt → p.2 = q) : Go B H H1 :=
  ⟨fun a o n e => ⟨fun t => mm.keep e t.no, mm.there e⟩, fun b hb l h => h.mono fun a o e t => mm.keep e t.no, fun T => ⟨mm.tab T1 hu T.1, fun p hp => mm.keep (T.2 p hp) LamX.codeO_ne⟩⟩
/-- x(e1, e2, lambda p1: .., lambda p2: ..): the slots is, js are what they hang on -/
theorem ev_lamC2 {Pt : Addr} {q : Str} {t1 t2 : TE} {d1 d2 : D} {is js : List Nat} {drs dss : List D} {X : XK} {pre : Addr → List V → Addr → List V → List D → Prop} {post : List D → D → Prop} (hP : (Pt, q) ∈ I.tabs.1) (hu : ∀ p ∈ I.tabs.1, p.1 = Pt → p.2 = q)
    (hl : drs.length = is.length) (hi : ∀ p ∈ is.zip drs, ss[p.1]? = some (.dat p.2)) (hl2 : dss.length = js.length) (hi2 : ∀ p ∈ js.zip dss, ss[p.1]? = some (.dat p.2)) (ha1 : EvD K E B m ss o0 t1 d1) (ha2 : EvD K E B m ss o0 t2 d2)
    (h1 : ∀ f vs g ws, pre f vs g ws [d1, d2, .fn f vs drs, .fn g ws dss]) (h3 : ∀ f vs g ws d, post [d1, d2, .fn f vs drs, .fn g ws dss] d → P d) :
    Ev K E B m ss o0 F (tLamC2 Pt q t1 t2 (fun σ f c g d => @SpX ((I.ext c q).ext d q) K false (pre f (captL is σ) g (captL js σ)) F post) X) P := fun Z os σ H ho A Q k => by
  refine ha1 Z os σ H ho A _ fun v1 x1 H1 g1 r1 _ e => ?_
  subst e
  have A1 := A.go g1
  refine ha2 Z os σ H1 ho A1 _ fun v2 x2 H2 g2 r2 _ e => ?_
  subst e
  have A2 := A1.go g2
  refine ⟨A2.tab.1 _ hP, fun f c H3 m3 T3 g d H4 m4 T4 => ?_⟩
  have g3 : Go B H2 H3 := go_made m3 T3 hu
  have g4 : Go B H3 H4 := go_made m4 T4 hu
  have A4 := (A2.go g3).go g4
  have rv := captL_of hl hi A4.slot
  have rw2 := captL_of hl2 hi2 A4.slot
  have rg := A4.rg m
  have cd1 : H4 c = some (LamX.CodeO c q) := m4.keep m3.code LamX.codeO_ne
  have cd2 : H4 d = some (LamX.CodeO d q) := m4.code
  show @SpX ((I.ext c q).ext d q) K false (pre f (captL is σ) g (captL js σ)) F post [v1, v2, .ref f, .ref g] H4 Q X
  refine ⟨er m os E, [_, _, .fn f (captL is σ) drs, .fn g (captL js σ) dss], @Rg.mk ((I.ext c q).ext d q) _ _ _ (fun b hb => absurd (show b ∈ ([] : List Addr) from hb) List.not_mem_nil) (fun b hb => absurd (show b ∈ ([] : List Addr) from hb) List.not_mem_nil) rg.ent (@tbl_ext (I.ext c q) _ _ _ (tbl_ext rg.tab cd1) cd2),
    .cons ((A1.rg m).keep (g2.trans (g3.trans g4)) r1) (.cons ((A2.rg m).keep (g3.trans g4) r2) (.cons (.fn (rpAll_all rv)) (.cons (.fn (rpAll_all rw2)) .nil))), h1 f _ g _, fun v' y H' g' r' f' p => ?_⟩
  have gI : Go [] H4 H' := go_of (@go_of (I.ext c q) _ _ _ _ g' cd2) cd1
  have g14 := g1.trans (g2.trans (g3.trans g4))
  exact k v' y H' (g14.trans (Go.up gI)) r' (fun hf => (f' hf).back g14 A.bag) (h3 f _ g _ y p)
end
end Da
set_option maxHeartbeats 8000000
/-! min(a, b, key=len) of two texts -/
namespace Ks
open PySem PySem.Spec PyProof.Rows L2
theorem args_min2 (a b v : Value) : argsOk "min" ⟨[a, b], [(Str.ofString "key", v)]⟩ := by unfold argsOk; kernel_rfl
section
variable {prog : Program} {w : World} {A : Around} {R : Result → Shared → Prop} {s : Shared} {T I S : Addr} {va vb v : Value} {h : Heap} {tk c : Nat}
/-- no item is left -/
theorem min2_end (hh : A.handled = none) (nIS : S ≠ I) {val : Value} (ht : h.IsTuple T #[va, vb]) (hit : h.IsTupleIter I T 2) (hS : h.get? S = some (seqObj "list" #[v, val] c))
    (go : ∀ h' tk', (∀ b o, b ≠ I → b ≠ S → h.get? b = some o → h'.get? b = some o) → R (.ok (.ret v)) { s with heap := h', toks := tk' }) :
    codeAny (model prog w) A (.builtin "min.loop" ⟨[.ref I, .builtin "len", .ref S], []⟩) R { s with heap := h, toks := tk } := by
  refine codeAny_builtin PySem.F.entry_min_loop ?_
  rw [Around.under_plainId PySem.F.plain_min_loop _]
  show wpAny _ A.in1 (seqItems? (.ref S) >>= _) _ _ _
  refine wpAny_bind (wpAny_seqItems hS rfl ?_)
  show wpAny _ A.in1 (tryCatch (pyNext (.ref I)) _ >>= _) _ _ _
  refine wpAny_bind (wpAny_tryCatch (wpAny_pyNext_tuple_end hh hit ht rfl fun h1 e1 => ?_))
  have hS1 := e1 S _ nIS hS
  show wpAny _ A.in1 (updateSeq S (fun _ => #[]) >>= _) _ _ _
  have s1 := Heap.SameBut.update h1 S (Obj.mapSeq fun _ => (#[] : Array Value))
  refine wpAny_bind (wpAny_updateSeq hS1 rfl (wpAny_bind (wpAny_letGo (wpAny_pure ?_))))
  exact go _ _ fun b o n1 n2 e => (s1.2 b n2).trans (e1 b o n1 e)
/-- one item is left -/
theorem min2_last (hh : A.handled = none) (nIS : S ≠ I) (nTI : T ≠ I) (nTS : T ≠ S) {a b : Str} {ta tb t0 : Tok} (fb : ¬ (b.length : Int) ≥ 2 ^ 63) (ht : h.IsTuple T #[.str a ta, .str b tb]) (hit : h.IsTupleIter I T 1) (hS : h.get? S = some (seqObj "list" #[.str a ta, .int a.length t0] c))
    (go : ∀ h' tk', (∀ b o, b ≠ I → b ≠ S → h.get? b = some o → h'.get? b = some o) → R (.ok (.ret (if b.length < a.length then .str b tb else .str a ta))) { s with heap := h', toks := tk' }) :
    codeAny (model prog w) A (.builtin "min.loop" ⟨[.ref I, .builtin "len", .ref S], []⟩) R { s with heap := h, toks := tk } := by
  have hname : (toString "min" ++ toString ".loop" : String) = "min.loop" := by decide
  refine codeAny_builtin PySem.F.entry_min_loop ?_
  rw [Around.under_plainId PySem.F.plain_min_loop _]
  show wpAny _ A.in1 (seqItems? (.ref S) >>= _) _ _ _
  refine wpAny_bind (wpAny_seqItems hS rfl ?_)
  show wpAny _ A.in1 (tryCatch (pyNext (.ref I)) _ >>= _) _ _ _
  refine wpAny_bind (wpAny_tryCatch (wpAny_pyNext_tuple_item hit ht (x := .str b tb) rfl fun h1 it1 s1 => ?_))
  have hS1 : h1.get? S = _ := (s1.2 S nIS).trans hS
  have ht1 : h1.IsTuple T #[.str a ta, .str b tb] := let ⟨o, e, r⟩ := ht; ⟨o, (s1.2 T nTI).trans e, r⟩
  have k1 : ∀ b o, b ≠ I → h.get? b = some o → h1.get? b = some o := fun b o n e => (s1.2 b n).trans e
  show wpAny _ A.in1 (tryCatch (holding [.str b tb] (call (.builtin "len") [.str b tb])) _ >>= _) _ _ _
  refine wpAny_bind (wpAny_tryCatch (wpAny_holding (P.len_str fb ?_)))
  show wpAny _ A.in1 (tryCatch (holding [.str b tb, .int b.length _] (richCompare .Lt (.int b.length _) (.int a.length t0) >>= _)) _ >>= _) _ _ _
  refine wpAny_bind (wpAny_tryCatch (wpAny_holding (wpAny_bind (CmpOf.ints_lt (prog := prog) (w := w) (A := A.in1) (P := fun i v => ∃ t, v = .int (if i = 0 then (a.length : Int) else b.length) t) (fun i => if i = 0 then (a.length : Int) else b.length) (fun i v h => h) 1 0 _ _ _ _ _ ⟨_, rfl⟩ ⟨_, rfl⟩ ?_))))
  refine wpAny_bind (wpAny_holding (wpAny_truthy_bool ?_))
  refine wpAny_bind (wpAny_letGo (wpAny_pure ?_))
  split
  · rename_i hc
    have lt : b.length < a.length := by simpa using hc
    rw [if_pos lt] at go
    obtain ⟨c2, hc2⟩ : ∃ c2, (h1.update S (Obj.mapSeq fun _ => #[.str b tb, .int b.length (tk + 1)])).get? S = some (seqObj "list" #[.str b tb, .int b.length (tk + 1)] c2) := ⟨_, get?_update_seq hS1 fun _ => #[.str b tb, .int b.length (tk + 1)]⟩
    have u1 := Heap.SameBut.update h1 S (Obj.mapSeq fun _ => #[.str b tb, .int b.length (tk + 1)])
    refine wpAny_bind (wpAny_updateSeq hS1 rfl (wpAny_bind (wpAny_letGo ?_)))
    rw [hname]
    exact wpAny_pure ⟨plainId_quiet PySem.F.plain_min_loop _, min2_end (s := s) hh nIS (let ⟨o, e, r⟩ := ht1; ⟨o, (u1.2 T nTS).trans e, r⟩) (let ⟨o, e, r⟩ := it1; ⟨o, (u1.2 I nIS.symm).trans e, r⟩) hc2 fun h' tk' kp => go h' tk' fun b o n1 n2 e => kp b o n1 n2 ((u1.2 b n2).trans (k1 b o n1 e))⟩
  · rename_i hc
    have lt : ¬ b.length < a.length := by simpa using hc
    rw [if_neg lt] at go
    refine wpAny_bind (wpAny_letGo ?_)
    rw [hname]
    exact wpAny_pure ⟨plainId_quiet PySem.F.plain_min_loop _, min2_end (s := s) hh nIS ht1 it1 hS1 fun h' tk' kp => go h' tk' fun b o n1 n2 e => kp b o n1 n2 (k1 b o n1 e)⟩
/-- both are left -/
theorem min2_first (hh : A.handled = none) (nIS : S ≠ I) (nTI : T ≠ I) (nTS : T ≠ S) {a b : Str} {ta tb : Tok} (fa : ¬ (a.length : Int) ≥ 2 ^ 63) (fb : ¬ (b.length : Int) ≥ 2 ^ 63) (ht : h.IsTuple T #[.str a ta, .str b tb]) (hit : h.IsTupleIter I T 0) (hS : h.get? S = some (seqObj "list" #[] c))
    (go : ∀ h' tk', (∀ b o, b ≠ I → b ≠ S → h.get? b = some o → h'.get? b = some o) → R (.ok (.ret (if b.length < a.length then .str b tb else .str a ta))) { s with heap := h', toks := tk' }) :
    codeAny (model prog w) A (.builtin "min.loop" ⟨[.ref I, .builtin "len", .ref S], []⟩) R { s with heap := h, toks := tk } := by
  have hname : (toString "min" ++ toString ".loop" : String) = "min.loop" := by decide
  refine codeAny_builtin PySem.F.entry_min_loop ?_
  rw [Around.under_plainId PySem.F.plain_min_loop _]
  show wpAny _ A.in1 (seqItems? (.ref S) >>= _) _ _ _
  refine wpAny_bind (wpAny_seqItems hS rfl ?_)
  show wpAny _ A.in1 (tryCatch (pyNext (.ref I)) _ >>= _) _ _ _
  refine wpAny_bind (wpAny_tryCatch (wpAny_pyNext_tuple_item hit ht (x := .str a ta) rfl fun h1 it1 s1 => ?_))
  have hS1 : h1.get? S = _ := (s1.2 S nIS).trans hS
  have ht1 : h1.IsTuple T #[.str a ta, .str b tb] := let ⟨o, e, r⟩ := ht; ⟨o, (s1.2 T nTI).trans e, r⟩
  have k1 : ∀ b o, b ≠ I → h.get? b = some o → h1.get? b = some o := fun b o n e => (s1.2 b n).trans e
  show wpAny _ A.in1 (tryCatch (holding [.str a ta] (call (.builtin "len") [.str a ta])) _ >>= _) _ _ _
  refine wpAny_bind (wpAny_tryCatch (wpAny_holding (P.len_str fa ?_)))
  obtain ⟨c2, hc2⟩ : ∃ c2, (h1.update S (Obj.mapSeq fun _ => #[.str a ta, .int a.length (tk + 1)])).get? S = some (seqObj "list" #[.str a ta, .int a.length (tk + 1)] c2) := ⟨_, get?_update_seq hS1 fun _ => #[.str a ta, .int a.length (tk + 1)]⟩
  have u1 := Heap.SameBut.update h1 S (Obj.mapSeq fun _ => #[.str a ta, .int a.length (tk + 1)])
  show wpAny _ A.in1 (updateSeq S (fun _ => #[.str a ta, .int a.length (tk + 1)]) >>= _) _ _ _
  refine wpAny_bind (wpAny_updateSeq hS1 rfl ?_)
  rw [hname]
  exact wpAny_pure ⟨plainId_quiet PySem.F.plain_min_loop _, min2_last (s := s) hh nIS nTI nTS fb (let ⟨o, e, r⟩ := ht1; ⟨o, (u1.2 T nTS).trans e, r⟩) (let ⟨o, e, r⟩ := it1; ⟨o, (u1.2 I nIS.symm).trans e, r⟩) hc2 fun h' tk' kp => go h' tk' fun b o n1 n2 e => kp b o n1 n2 ((u1.2 b n2).trans (k1 b o n1 e))⟩
end
section
variable {prog : Program} {w : World} {A : Around} {E : Value → Shared → Prop} {s : Shared} {Q : Value → Shared → Prop}
theorem call_min2len (hh : A.handled = none) {a b : Str} {ta tb : Tok} (fa : ¬ (a.length : Int) ≥ 2 ^ 63) (fb : ¬ (b.length : Int) ≥ 2 ^ 63)
    (go : ∀ h' tk', (∀ b o, s.heap.get? b = some o → h'.get? b = some o) → Q (if b.length < a.length then .str b tb else .str a ta) { s with heap := h', toks := tk' }) :
    wpAny (model prog w) A (call (.builtin "min") [.str a ta, .str b tb] [(Str.ofString "key", .builtin "len")]) Q E s := by
  have hname : (toString "min" ++ toString ".loop" : String) = "min.loop" := by decide
  refine kmb_tree PySem.F.kind_min PySem.F.plain_min PySem.F.entry_min (args_min2 _ _ _) ?_
  show wpAny _ A.in1 (Builtin.Builtins.bindParams "min" ["key", "default"] 0 ⟨[], [(Str.ofString "key", .builtin "len")]⟩ >>= _) _ _ s
  refine wpAny_bind (wpAny_of_eq (show Builtin.Builtins.bindParams "min" ["key", "default"] 0 ⟨[], [(Str.ofString "key", .builtin "len")]⟩ = pure [some (.builtin "len"), none] from rfl) ?_)
  show wpAny _ A.in1 (newTuple [.str a ta, .str b tb] >>= _) _ _ s
  refine wpAny_bind (wpAny_newTuple ?_ (show (2 : Nat) ≤ sizeLine by decide))
  have gT : (s.heap.push { cls := .type "tuple", data := .seq [Value.str a ta, .str b tb].toArray }).get? s.heap.objs.size = some { cls := .type "tuple", data := .seq [Value.str a ta, .str b tb].toArray } := Heap.get?_push_size _ rfl
  refine wpAny_bind (wpAny_pyIter_tuple (items := #[.str a ta, .str b tb]) ⟨_, gT, rfl, _, rfl⟩ ?_)
  refine wpAny_bind (wpAny_newList ?_ (Nat.zero_le _))
  rw [hname]
  generalize hg1 : s.heap.push { cls := .type "tuple", data := .seq [Value.str a ta, .str b tb].toArray } = g1 at *
  have z1 : g1.objs.size = s.heap.objs.size + 1 := by rw [← hg1]; exact Heap.size_push ..
  generalize hg2 : g1.push { cls := .type "tuple_iterator", data := .fields #[.ref s.heap.objs.size, .int 0 0] } = g2 at *
  have z2 : g2.objs.size = g1.objs.size + 1 := by rw [← hg2]; exact Heap.size_push ..
  have gI : g2.get? g1.objs.size = some { cls := .type "tuple_iterator", data := .fields #[.ref s.heap.objs.size, .int 0 0] } := by rw [← hg2]; exact Heap.get?_push_size _ rfl
  have k0 : ∀ b o, s.heap.get? b = some o → g1.get? b = some o := fun b o e => by rw [← hg1]; exact Heap.get?_push_of_some _ e
  have k1 : ∀ b o, g1.get? b = some o → g2.get? b = some o := fun b o e => by rw [← hg2]; exact Heap.get?_push_of_some _ e
  refine wpAny_pure ⟨plainId_quiet PySem.F.plain_min_loop _, min2_first (s := s) (c := 0) (T := s.heap.objs.size) (I := g1.objs.size) (S := g2.objs.size) hh (Nat.ne_of_gt (by omega)) (Nat.ne_of_lt (by omega)) (Nat.ne_of_lt (by omega)) fa fb ⟨_, Heap.get?_push_of_some _ (k1 _ _ gT), rfl, _, rfl⟩ ⟨_, Heap.get?_push_of_some _ gI, rfl, rfl⟩ (Heap.get?_push_size _ rfl) fun h' tk' kp => ?_⟩
  exact go h' tk' fun b o e => kp b o (fun z => absurd (Heap.lt_size e) (by rw [z]; exact Nat.not_lt.mpr (by omega))) (fun z => absurd (Heap.lt_size e) (by rw [z]; exact Nat.not_lt.mpr (by omega))) (Heap.get?_push_of_some _ (k1 _ _ (k0 _ _ e)))
end
end Ks
namespace Da
open PySem PySem.Spec PyProof.Rows L2
/-- the shorter of two texts, the first where they are as long -/
def shorter (a b : Str) : Str := if b.length < a.length then b else a
def tMinLen (t : TA) : TE := fun σ H Q => t σ H fun vs H1 => ∃ a b : Str, vs = [.str a, .str b] ∧ ¬ (a.length : Int) ≥ 2 ^ 63 ∧ ¬ (b.length : Int) ≥ 2 ^ 63 ∧ Q (.str (shorter a b)) H1
theorem pe_minLen {X : Cx} {e1 e2 : Expr} {t : TA} {p p2 kpos pos : Pos} (calm : X.calm = true) (hg : Gl X "min") (hm : X.mg "min" = none) (hgl : Gl X "len") (hml : X.mg "len" = none) (ha : PA X (e1 :: e2 :: []) t)
    (he : backTo pos (starEach (e1 :: e2 :: []) X.env) = (false, eval e1 X.env) :: backTo pos (starEach (e2 :: []) X.env) := by rfl) (hpl : (backTo pos (starEach (e1 :: e2 :: []) X.env)).any (·.1) = false := by rfl) :
    PE X (.Call (.Name "min" p) (e1 :: e2 :: []) [⟨some "key", .Name "len" p2, kpos⟩] pos) (tMinLen t) := by
  refine ⟨fun pins s σ H Q I h => ?_⟩
  refine wpAny_Call_Name_kw (ld_blt I hg hm (u := .builtin "min") (by rfl) ?_)
  refine PyProof.Rows.callWith_kw (thn (ha.run pos pins s σ H _ I h) fun us s1 ⟨vs, H1, I1, r1, q1⟩ => ?_) he hpl rfl rfl
  show wpAny _ _ (evalAll [do let v ← eval (.Name "len" p2) X.env; standAt pos; pure v]) _ _ s1
  refine wpAny_evalAll_cons (wpAny_bind (ld_blt I1 hgl hml (u := .builtin "len") (by rfl) (wpAny_bind (wpAny_standAt (wpAny_pure (wpAny_evalAll_nil ?_))))))
  obtain ⟨a, b, rfl, fa, fb, q⟩ := q1
  cases r1 with
  | cons ra r1 =>
    cases r1 with
    | cons rb r1 =>
      cases r1
      obtain ⟨ta, rfl⟩ := ra
      obtain ⟨tb, rfl⟩ := rb
      show wpAny _ _ (call (.builtin "min") [.str a ta, .str b tb] [(Str.ofString "key", .builtin "len")]) _ _ s1
      refine Ks.call_min2len (I1.ok.hd calm) fa fb fun h' tk' kp => ?_
      refine ⟨.str (shorter a b), H1, I1.kept kp, ?_, q⟩
      unfold shorter
      split
      · exact ⟨tb, rfl⟩
      · exact ⟨ta, rfl⟩
section
variable [I : Tbs] {K : PySem.W.Frag} {E B R : List Addr} {ss : List Sl} {m F : Bool} {o0 : Os} {P : D → Prop}
theorem ev_minLen {t : TA} {a b : List Nat} (ha : EaD K E B m ss o0 t [.str a, .str b]) (la : a.length ≤ 1000000) (lb : b.length ≤ 1000000) : EvD K E B m ss o0 (tMinLen t) (.str (if b.length < a.length then b else a)) := fun Z os σ H ho A Q q =>
  ha Z os σ H ho A _ fun vs ds H1 g r e => by
    subst e
    cases r with
    | cons r1 r =>
      cases r with
      | cons r2 r =>
        cases r
        cases r1
        cases r2
        refine ⟨mk a, mk b, rfl, by rw [mk_len]; omega, by rw [mk_len]; omega, q _ _ H1 g ?_ (fun z => nomatch z) rfl⟩
        unfold shorter
        rw [mk_len, mk_len]
        split
        · exact .str b
        · exact .str a
end
end Da
/-! loops over triples -/
namespace Da
open PySem L2
variable [Tbs]
section
variable {K : PySem.W.Frag} {E B R : List Addr} {Z : List (List Addr × Hp)} {ss : List Sl} {os : Os} {σ : L2.St} {H H' : Hp} {m F : Bool} {o0 : Os} {te ta tb : TE} {P P' PA PB : D → Prop} {Dn : Ends}
theorem three_names {i j l : Nat} {v : V} {a b c : D} {Q : L2.St → Hp → Prop} (A : At K E B Z ss os σ H) (r : Rp K (era H (ads os ++ E)) v (.tup [a, b, c])) (k : ∀ x y z, At K E B Z (((ss.set i (.dat a)).set j (.dat b)).set l (.dat c)) os (((σ.set i (some x)).set j (some y)).set l (some z)) H → Q (((σ.set i (some x)).set j (some y)).set l (some z)) H) : gTup K 3 (gCons (gName i) (gCons (gName j) (gCons (gName l) gNil))) v σ H Q := by
  cases r with
  | tup h1 h2 =>
    cases h2 with
    | cons r1 h2 =>
      cases h2 with
      | cons r2 h2 =>
        cases h2 with
        | cons r3 h2 =>
          cases h2
          exact ⟨_, _, rfl, (era_sub _ _).t h1, rfl, _, _, rfl, _, _, rfl, _, _, rfl, rfl, k _ _ _ (((A.set r1).set r2).set r3)⟩
/-- for a, b, c in triples -/
theorem s_for3 {wi : TI} {i1 j1 l1 : Nat} {tb : TS} {PI : List D → Prop} (A : At K E B Z ss os σ H) (h : EvIE K E B ss os wi PI) (pr : ∀ ds, PI ds → ∀ d ∈ ds, ∃ a b c, d = .tup [a, b, c]) (J : List D → Nat → List Sl → Os → Prop) (h0 : ∀ ds, PI ds → J ds 0 ss os)
    (ho : ∀ ds i ss' os', J ds i ss' os' → ads os' = ads os)
    (hs : ∀ ds z (i : Nat) a b c ss' os' σ' H', PI ds → ds[i]? = some (.tup [a, b, c]) → J ds i ss' os' → At K E B (z :: Z) (((ss'.set i1 (.dat a)).set j1 (.dat b)).set l1 (.dat c)) os' σ' H' →
      tb { Dn with nx := fun σ H => ∃ ss os, J ds (i + 1) ss os ∧ At K E B (z :: Z) ss os σ H, ct := fun σ H => ∃ ss os, J ds (i + 1) ss os ∧ At K E B (z :: Z) ss os σ H, bk := Dn.nx } σ' H')
    (hd : ∀ ds ss' os' σ' H', PI ds → J ds ds.length ss' os' → At K E B Z ss' os' σ' H' → Dn.nx σ' H') : tFor wi (gTup K 3 (gCons (gName i1) (gCons (gName j1) (gCons (gName l1) gNil)))) tb Dn σ H :=
  h Z os σ H (fun _ z => z) A _ fun I ds H1 g it p => by
    have A1 := (A.go g).mark
    have sub : ∀ {ss' : List Sl} {os' : Os} {σ' : L2.St} {H' : Hp}, At K E B ((ads os ++ E, H1) :: Z) ss' os' σ' H' → ∀ a o, a ∉ ads os ++ E → H1 a = some o → NT o → H' a = some o := fun A' a o n e t => (A'.stp _ List.mem_cons_self a o n e).1 t
    refine ⟨fun i mm σ H => mm = ds.length - i ∧ i ≤ ds.length ∧ ∃ ss' os', J ds i ss' os' ∧ At K E B ((ads os ++ E, H1) :: Z) ss' os' σ H, ⟨ds.length, by simp, Nat.zero_le _, ss, os, h0 ds p, A1⟩, ?_⟩
    rintro i mm σ' H' ⟨rfl, hi, ss', os', hj, A'⟩
    have same := ho ds i ss' os' hj
    obtain ⟨f1, f2, f3⟩ := it H' (sub A') (fun a h => A'.there a (by rw [same]; exact h))
    by_cases hlt : i < ds.length
    · refine .inr ⟨f1 i hlt, fun σ H => ∃ ss os', J ds (i + 1) ss os' ∧ At K E B ((ads os ++ E, H1) :: Z) ss os' σ H, fun σ2 H2 ⟨s2, o2, j2, A2⟩ => ⟨ds.length - (i + 1), by omega, rfl, hlt, s2, o2, j2, A2⟩, fun x H2 y => ?_⟩
      obtain ⟨sb, d, hd1, r⟩ := f3 i x H2 hlt y
      obtain ⟨a, b, c, rfl⟩ := pr ds p d (List.mem_of_getElem? hd1)
      refine three_names (A'.go (.of sb)) (by rw [same]; exact r _ (fun _ h => h) (fun a h => .inl h) (fun a h => A'.there a (by rw [same]; exact h))) fun u v y A2 => ?_
      exact hs ds (ads os ++ E, H1) i a b c ss' os' _ H2 p hd1 hj A2
    · have : i = ds.length := by omega
      subst this
      exact .inl ⟨f2 _ (Nat.le_refl _), hd ds ss' os' σ' H' p hj A'.unmark⟩
end
end Da
/-! a dict whose keys are pairs of texts -/
namespace Da
open PySem L2
variable [Tbs]
section
variable {K : PySem.W.Frag} {E B R : List Addr} {Z : List (List Addr × Hp)} {ss : List Sl} {os : Os} {σ : L2.St} {H H' : Hp} {m F : Bool} {o0 : Os} {te ta tb : TE} {P P' PA PB : D → Prop} {Dn : Ends} {D : Addr}
theorem s_dicT0 {i : Nat} (A : At K E B Z ss os σ H) (k : ∀ D σ' H', D ∉ ads os → D ∉ E → H D = none → At K (D :: E) B Z (ss.set i (.dat (.raw (.ref D)))) os σ' H' → H' D = some (.dT []) → Dn.nx σ' H') : tAsg tDNewT (gName i) Dn σ H :=
  fun D nD => k D _ _ (fun z => A.tracked z nD) (fun z => A.ent D z nD) nD ((A.lay nD).set (.raw _)) upd_same
/-- (x, y) in seen -/
theorem t_dinT {i j l : Nat} {x y : List Nat} {kvs : List (List Key × V)} {Q : Bool → Hp → Prop} (A : At K (D :: E) B Z ss os σ H) (nB : D ∉ B) (hi : ss[i]? = some (.dat (.str x))) (hj : ss[j]? = some (.dat (.str y))) (hl : ss[l]? = some (.dat (.raw (.ref D)))) (hD : H D = some (.dT kvs))
    (q : ∀ H', At K (D :: E) B Z ss os σ H' → H' D = some (.dT kvs) → Q (valV kvs [.inr (mk x), .inr (mk y)]).isSome H') : tB (tDIn (tTup (tCons (tVar i) (tCons (tVar j) tNil))) (tVar l)) σ H Q := by
  obtain ⟨v1, e1, r1⟩ := A.slot i _ hi
  obtain ⟨v2, e2, r2⟩ := A.slot j _ hj
  obtain ⟨v3, e3, r3⟩ := A.slot l _ hl
  cases r1; cases r2; cases r3
  refine ⟨_, e1, _, e2, by show (2 : Nat) ≤ sizeLine; decide, fun p hp => ⟨_, e3, ?_⟩⟩
  have nD : D ≠ p := fun z => by rw [z, hp] at hD; cases hD
  have hD2 : upd H p (.tup [.str (mk x), .str (mk y)]) D = some (.dT kvs) := (upd_ne nD).trans hD
  exact ⟨D, _, rfl, DGet.t (k := [.inr (mk x), .inr (mk y)]) hD2 upd_same, _, rfl, q _ (A.go (.new hp)) hD2⟩
/-- seen[(x, y)] = True -/
theorem s_dputT {i j l : Nat} {x y : List Nat} {b : Bool} {kvs : List (List Key × V)} (A : At K (D :: E) B Z ss os σ H) (hz : ∀ z, z ∈ Z → D ∈ z.1 ∨ z.2 D = none) (hi : ss[i]? = some (.dat (.str x))) (hj : ss[j]? = some (.dat (.str y))) (hl : ss[l]? = some (.dat (.raw (.ref D)))) (hD : H D = some (.dT kvs)) (few : kvs.length ≤ 1000000)
    (k : ∀ H', At K (D :: E) B Z ss os σ H' → H' D = some (.dT (putK kvs [.inr (mk x), .inr (mk y)] (.bl b))) → Dn.nx σ H') : sDPut (tVar l) (tTup (tCons (tVar i) (tCons (tVar j) tNil))) (tC (.bl b)) Dn σ H := by
  obtain ⟨v1, e1, r1⟩ := A.slot i _ hi
  obtain ⟨v2, e2, r2⟩ := A.slot j _ hj
  obtain ⟨v3, e3, r3⟩ := A.slot l _ hl
  cases r1; cases r2; cases r3
  refine ⟨_, e3, _, e1, _, e2, by show (2 : Nat) ≤ sizeLine; decide, fun p hp => ?_⟩
  have nD : D ≠ p := fun z => by rw [z, hp] at hD; cases hD
  have hD2 : upd H p (.tup [.str (mk x), .str (mk y)]) D = some (.dT kvs) := (upd_ne nD).trans hD
  have A2 := A.go (.new hp (o := .tup [.str (mk x), .str (mk y)]))
  exact ⟨D, _, rfl, DPut.t (k := [.inr (mk x), .inr (mk y)]) hD2 upd_same (Nat.lt_of_le_of_lt few (by decide)), k _ (A2.writeO (fun xs z => by rw [hD2] at z; cases z) hz fun t => tabs_upd t hD2 trivial fun q => by intro z; cases z) upd_same⟩
end
end Da
/-! zip of two texts; insert; the place of a sign in a text -/
namespace Da
open PySem PySem.Spec L2 PyProof.Rows
variable [Tbs]
/-- the signs of two texts, pair by pair -/
def ItzS (x y : Str) : It := ⟨fun i _ => i < x.cps.size ∧ i < y.cps.size, fun i H v H' => ∃ T c d, v = .ref T ∧ H T = none ∧ H' = upd H T (.tup [.str ⟨#[c]⟩, .str ⟨#[d]⟩]) ∧ x.cps[i]? = some c ∧ y.cps[i]? = some d, fun i _ => x.cps.size ≤ i ∨ y.cps.size ≤ i⟩
theorem turn_zipS {P : Program} {w : World} {K : PySem.W.Frag} {elts : List Expr} {kk : Nat} {tpos : Pos} {z TI TO i1 i2 : Addr} (S : ZipSep2 z TI TO i1 i2 [i1] [i2]) (x y : Str) (t1 t2 : Tok) :
    Turn P w K (.Tuple elts kk tpos) (ItzS x y) [z, TI, TO, i1, i2] z (fun i h => IsZip h z TI TO .none ∧ IsTupOf2 h TI (.ref i1) (.ref i2) ∧ (∃ a b, IsTupOf2 h TO a b) ∧ h.IsStrIter i1 (strIterType x) x t1 i ∧ h.IsStrIter i2 (strIterType y) y t2 i ∧ i ≤ x.cps.size ∧ i ≤ y.cps.size) where
  mem := List.mem_cons_self
  obj := fun i h st b hb => by
    obtain ⟨hz, hTI, ⟨a, c, hTO⟩, ⟨o1, g1, _, d1⟩, ⟨o2, g2, _, d2⟩, _⟩ := st
    simp only [List.mem_cons, List.not_mem_nil, or_false] at hb
    rcases hb with rfl | rfl | rfl | rfl | rfl
    · exact ⟨_, hz, fun v q => nomatch q⟩
    · exact ⟨_, hTI, fun v q => nomatch q⟩
    · exact ⟨_, hTO, fun v q => nomatch q⟩
    · exact ⟨o1, g1, fun v q => by rw [d1] at q; cases q⟩
    · exact ⟨o2, g2, fun v q => by rw [d2] at q; cases q⟩
  keep := fun i h h' st stay => by
    obtain ⟨hz, hTI, ⟨a, c, hTO⟩, ⟨o1, g1, r1⟩, ⟨o2, g2, r2⟩, le⟩ := st
    exact ⟨stay z (by simp) _ hz, stay TI (by simp) _ hTI, ⟨a, c, stay TO (by simp) _ hTO⟩, ⟨o1, stay i1 (by simp) _ g1, r1⟩, ⟨o2, stay i2 (by simp) _ g2, r2⟩, le⟩
  item := by
    intro X hP hw hK calm i pins s σ H E I far st go
    subst hP hw hK
    obtain ⟨hz, hTI, ⟨a, c, hTO⟩, s1, s2, le⟩ := st
    obtain ⟨go1, go2⟩ := go
    have big : ∀ b ∈ [z, TI, TO, i1, i2], b < s.heap.objs.size := fun b hb => by
      simp only [List.mem_cons, List.not_mem_nil, or_false] at hb
      rcases hb with rfl | rfl | rfl | rfl | rfl
      · exact Heap.lt_size hz
      · exact Heap.lt_size hTI
      · exact Heap.lt_size hTO
      · obtain ⟨_, g, _⟩ := s1; exact Heap.lt_size g
      · obtain ⟨_, g, _⟩ := s2; exact Heap.lt_size g
    refine wpAny_pyNext_zipD2_item (St1 := fun i h => h.IsStrIter i1 (strIterType x) x t1 i) (St2 := fun i h => h.IsStrIter i2 (strIterType y) y t2 i) S (Draws.text (A := X.A.in1) (I.ok.hd calm) i1 x t1) (Draws.text (A := X.A.in1) (I.ok.hd calm) i2 y t2) hz hTI hTO s1 s2 go1 go2 fun x1 x2 h1 tk p1 p2 hz1 hTO1 s1' s2' pair size stay => ?_
    obtain ⟨c1, u1, at1, rfl⟩ := p1
    obtain ⟨c2, u2, at2, rfl⟩ := p2
    refine ⟨_, rfl, wpAny_letOwnedTupleGo_zip (s := { s with heap := h1, toks := tk }) hz1 fun h2 hz2 same => ?_⟩
    have ne : ∀ {b}, b ∈ [z, TI, TO, i1, i2] → b ≠ s.heap.objs.size := fun h => Nat.ne_of_lt (big _ h)
    have pair2 : h2.get? s.heap.objs.size = some { cls := .type "tuple", data := .seq #[.str ⟨#[c1]⟩ u1, .str ⟨#[c2]⟩ u2] } := (same.2 _ (Ne.symm (ne (by simp)))).trans pair
    have new : ObjOk X.prog X.w (upd H s.heap.objs.size (.tup [.str ⟨#[c1]⟩, .str ⟨#[c2]⟩])) h2 s.heap.objs.size (.tup [.str ⟨#[c1]⟩, .str ⟨#[c2]⟩]) :=
      ⟨by show 2 ≤ sizeLine; decide, [.str ⟨#[c1]⟩ u1, .str ⟨#[c2]⟩ u2], .cons ⟨_, rfl⟩ (.cons ⟨_, rfl⟩ .nil), ⟨_, pair2, rfl, _, rfl⟩⟩
    have I1 : Inv X pins σ (upd H s.heap.objs.size (.tup [.str ⟨#[c1]⟩, .str ⟨#[c2]⟩])) { s with heap := h2, toks := tk } :=
      I.turnedNew (ch := [z, TI, TO, i1, i2]) (fun b o hb got => (same.2 b fun q => hb (by simp [q])).trans (stay b o (fun q => hb (by simp [q])) (fun q => hb (by simp [q])) (fun q => hb (by simp [q])) (fun q => hb (by simp [q])) got)) far (Nat.le_refl _) new
    refine ⟨.ref s.heap.objs.size, _, I1, rfl, ⟨_, c1, c2, rfl, I.hok.fresh (Nat.le_refl _), rfl, at1, at2⟩, ⟨hz2, ?_, ⟨_, _, (same.2 TO S.TOz).trans hTO1⟩, ?_, ?_, go1, go2⟩, fun b hb => ?_⟩
    · exact (same.2 TI S.TIz).trans (stay TI _ S.TIz S.TITO S.TIi1 S.TIi2 hTI)
    · obtain ⟨o, g, r⟩ := s1'
      exact ⟨o, (same.2 i1 (fun q => S.zf1 (by rw [q]; simp))).trans g, r⟩
    · obtain ⟨o, g, r⟩ := s2'
      exact ⟨o, (same.2 i2 (fun q => S.zf2 (by rw [q]; simp))).trans g, r⟩
    · rw [upd_ne (ne hb)]
      exact (far b hb).1
  done := by
    intro X hP hw hK calm i pins s σ H E I far st stop
    subst hP hw hK
    obtain ⟨hz, hTI, ⟨a, c, hTO⟩, s1, s2, le1, le2⟩ := st
    have stop : x.cps.size ≤ i ∨ y.cps.size ≤ i := stop
    refine wpAny_pyNext_zipD2_end (St1 := fun i h => h.IsStrIter i1 (strIterType x) x t1 i) (St2 := fun i h => h.IsStrIter i2 (strIterType y) y t2 i) S (Draws.text (A := X.A.in1) (I.ok.hd calm) i1 x t1) (Draws.text (A := X.A.in1) (I.ok.hd calm) i2 y t2) hz hTI hTO s1 s2 le1 le2 (by omega) fun h1 tk stay => ⟨rfl, I.turnedL (ch := [z, TI, TO, i1, i2]) (fun b o hb got => stay b o (fun q => hb (by simp [q])) (fun q => hb (by simp [q])) (fun q => hb (by simp [q])) (fun q => hb (by simp [q])) got) far⟩
  self := fun A i s Q E st h => wpAny_pyIter_zip st.1 h
def iZipS (ta : TA) : TI := fun σ H R => ta σ H fun vs H1 => ∃ x y : Str, vs = [.str x, .str y] ∧ R (ItzS x y) H1
theorem pi_zipS {X : Cx} {e e2 : Expr} {ta : TA} {p pos tpos : Pos} {elts : List Expr} {kk : Nat} (hg : Gl X "zip") (hm : X.mg "zip" = none) (ha : PA X [e, e2] ta)
    (hs : starEach [e, e2] X.env = (false, eval e X.env) :: starEach [e2] X.env := by rfl) (hpl : (backTo pos (starEach [e2] X.env)).any (·.1) = false := by rfl) :
    PI X (.Tuple elts kk tpos) (.Call (.Name "zip" p) [e, e2] [] pos) (iZipS ta) := .mk fun pins s σ H R I h => by
  refine Call_ (ld_blt I hg hm PyProof.Rows.boot_zip (PyProof.Rows.callWith_type1 (thn (ha.run pos pins s σ H _ I h) fun us s1 ⟨vs, H1, I1, r1, q1⟩ => ?_) hs hpl))
  obtain ⟨x, y, ex, q⟩ := q1
  subst ex
  cases r1 with
  | cons r rr =>
    cases rr with
    | cons r' rr =>
      cases rr
      obtain ⟨t1, rfl⟩ := r
      obtain ⟨t2, rfl⟩ := r'
      refine zip_begins2 (begins_text x t1) (begins_text y t2) trivial trivial fun h' hz hTI hTO h1 h2 hsz hk => wpAny_pyIter_zip hz ?_
      have sep := zip_sep2 (N := s1.heap.objs.size) (fp1 := []) (fp2 := []) (fun _ h => nomatch h) (fun _ h => nomatch h)
      have I2 : Inv X pins σ H1 { s1 with heap := h' } := I1.kept (t' := s1.toks) hk
      refine ⟨s1.heap.objs.size + 4, _, _, ItzS x y, H1, rfl, I2, turn_zipS sep x y t1 t2, ⟨hz, hTI, ⟨_, _, hTO⟩, ⟨_, h1, rfl, rfl⟩, ⟨_, h2, rfl, rfl⟩, Nat.zero_le _, Nat.zero_le _⟩, fun b hb => ?_, q⟩
      have le : s1.heap.objs.size ≤ b := by
        simp only [List.mem_cons, List.not_mem_nil, or_false] at hb
        rcases hb with rfl | rfl | rfl | rfl | rfl
        · exact Nat.le_add_right _ _
        · exact Nat.le_add_right _ _
        · exact Nat.le_add_right _ _
        · exact Nat.le_refl _
        · exact Nat.le_add_right _ _
      exact I1.fpOk le (I1.hok.fresh le)
section
variable {K : PySem.W.Frag} {E B R : List Addr} {Z : List (List Addr × Hp)} {ss : List Sl} {os : Os} {σ : L2.St} {H H' : Hp} {m F : Bool} {o0 : Os} {te ta tb : TE} {P P' PA PB : D → Prop} {Dn : Ends}
def zipSD (x y : List Nat) : List D := (x.zip y).map fun p => .tup [.str [p.1], .str [p.2]]
theorem zipSD_len (x y : List Nat) : (zipSD x y).length = min x.length y.length := by
  unfold zipSD
  rw [List.length_map, List.length_zip]
theorem ei_zipS {t : TA} {x y : List Nat} (h : EaD K E B true ss o0 t [.str x, .str y]) : EvIE K E B ss o0 (iZipS t) (fun z => z = zipSD x y) := fun Z os σ H i A R q => h Z os σ H i A _ fun vs es H1 g r e => by
  subst e
  cases r with
  | cons r1 r =>
    cases r with
    | cons r2 r =>
      cases r
      cases r1; cases r2
      refine ⟨_, _, rfl, q _ _ H1 g (fun H2 st pr => ?_) rfl⟩
      have len := zipSD_len x y
      have sx : (mk x).cps.size = x.length := mk_len x
      have sy : (mk y).cps.size = y.length := mk_len y
      refine ⟨fun i hi => ?_, fun i hi => ?_, fun i v H3 hi yl => ?_⟩
      · show i < (mk x).cps.size ∧ i < (mk y).cps.size
        rw [sx, sy]
        omega
      · show (mk x).cps.size ≤ i ∨ (mk y).cps.size ≤ i
        rw [sx, sy]
        omega
      · obtain ⟨T, c, d, rfl, nT, rfl, h1, h2⟩ := yl
        have e1 : x[i]? = some c := by
          have : (mk x).cps.toList[i]? = some c := by rw [← h1]; simp
          exact this
        have e2 : y[i]? = some d := by
          have : (mk y).cps.toList[i]? = some d := by rw [← h2]; simp
          exact this
        refine ⟨fun b o e => by rw [upd_ne (ne_of_none e nT)]; exact e, .tup [.str [c], .str [d]], ?_, fun R' _ h2 h3 => .tup (xs := [.str (mk [c]), .str (mk [d])]) (.inl (.inl ?_)) (.cons (.str _) (.cons (.str _) .nil))⟩
        · unfold zipSD
          rw [List.getElem?_map, (List.getElem?_zip_eq_some (z := (c, d))).mpr ⟨e1, e2⟩] <;> rfl
        · rw [era_in (fun z => h3 T z nT)]
          exact upd_same
/-- found.insert(at, x) -/
theorem s_ins {i : Nat} {p : Addr} {ds : List D} {ti : TE} {PI : D → Prop} (A : At K E B Z ss ((p, .lst ds) :: os) σ H) (hi : ss[i]? = some (.own p)) (hz : ds.length ≤ 1000000) (h1 : Ev K E B true ss ((p, .lst ds) :: os) false ti PI) (hp : ∀ d, PI d → ∃ k : Nat, d = .int (k : Nat) ∧ k ≤ 1000000) (h2 : Ev K E B true ss ((p, .lst ds) :: os) F te P)
    (k : ∀ (j : Nat) d σ' H', P d → At K E B Z ss ((p, .lst (ds.take j ++ [d] ++ ds.drop j)) :: os) σ' H' → Dn.nx σ' H') : tDrop (tBM K "list" (fun x vs H Q => ∃ (l : Addr) (xs : List V) (i : Int) (y : V), x = .ref l ∧ vs = [.int i, y] ∧ H l = some (.lst xs) ∧ xs.length < sizeLine ∧ 0 ≤ i ∧ i < 2 ^ 63 ∧ Q .non (upd H l (.lst (xs.take i.toNat ++ [y] ++ xs.drop i.toNat)))) (tVar i) (tCons ti (tCons te tNil))) Dn σ H := by
  obtain ⟨vs, e1, r⟩ := A.own p _ List.mem_cons_self
  refine ⟨.ref p, A.ownS i p hi, .inl ⟨rfl, vs, .inl (.inl e1)⟩, ?_⟩
  refine h1 Z _ σ H (fun _ z => z) A _ fun v d H1 g1 rv _ pd => ?_
  obtain ⟨j, rfl, hj⟩ := hp d pd
  cases rv
  have A1 := A.go g1
  refine h2 Z _ σ H1 (fun _ z => z) A1 _ fun v d H2 g2 rv2 _ pd2 => ?_
  have A2 := A1.go g2
  obtain ⟨vs', e', r'⟩ := A2.own p _ List.mem_cons_self
  have tk : ∀ {H : Hp} {vs : List V} {ds : List D}, RpAll K H vs ds → ∀ j : Nat, RpAll K H (vs.take j) (ds.take j) ∧ RpAll K H (vs.drop j) (ds.drop j) := fun {H vs ds} r => by
    intro j
    induction j generalizing vs ds with
    | zero => exact ⟨.nil, r⟩
    | succ j ih =>
      cases r with
      | nil => exact ⟨.nil, .nil⟩
      | cons h r => exact ⟨.cons h (ih r).1, (ih r).2⟩
  refine ⟨p, vs', _, v, rfl, rfl, e', ?_, by omega, by omega, k j d σ _ pd2 (A2.put (((tk r' j).1.append (.cons rv2 .nil)).append (tk r' j).2))⟩
  rw [r'.length]
  exact Nat.lt_of_le_of_lt hz (by decide)
end
end Da
/-! ints: set(a list or a tuple), sorted(..), walked; pairs sorted -/
namespace Ks
open PySem PySem.Spec PyProof.Rows L2
section
variable {P : Program} {w : World} {A : Around} {E : Value → Shared → Prop} {s : Shared}
set_option maxHeartbeats 8000000 in
theorem call_setKT {l : Addr} {items : Array Value} (ks : List Key) {Q : Value → Shared → Prop} (calm : A.handled = none) (il : s.heap.IsTuple l items) (len : items.size = ks.length) (is : ∀ (i : Nat) (v : Value), items[i]? = some v → ∃ k, ks[i]? = some k ∧ (mixKind P w).is k v = true) (room : ks.length + 1 < scanBound)
    (q : ∀ (g : Heap) (t : Nat), Lot P w g s.heap.objs.size (allK ks) → (∀ b o, s.heap.get? b = some o → g.get? b = some o) → Q (.ref s.heap.objs.size) { s with heap := g, toks := t }) :
    wpAny (model P w) A (call (.type "set") [.ref l]) Q E s := by
  obtain ⟨c, tl, mro⟩ := F.called_set.mro
  have f1 := F.called_set.made
  have f2 := F.called_set.sub
  refine wpAny_call (codeAny_of_tree ?_)
  show wpAny _ _ (callAny (.type "set") _) _ _ _
  refine wpAny_pure ⟨Code.quiet_builtin _ (by decide +kernel), codeAny_builtin F.entry_type_call ?_⟩
  rw [Around.under_plain (weight_type_call_type "set" [.ref l] []) rfl]
  have f3 := F.called_set.notType
  have f4 := F.called_set.canCreate
  have f5 := F.typeCall_set_1 (.ref l)
  repeat (any_goals (first | assumption | wp_step))
  generalize hB : (s.heap.push (bare w)) = hb at *
  have made : ∀ {B : Around} {Q1 : Value → Shared → Prop}, Q1 (.ref s.heap.objs.size) { s with heap := hb } → codeAny (model P w) B (.call (.builtin "set.__new__") ⟨[.type "set", .ref l], []⟩) (wants Q1 E) s := fun {B Q1} h => code_set_led1 (.ref l) (by rw [hB]; exact h)
  refine codeAny_mono (made (Q1 := fun o s1 => o = .ref s.heap.objs.size ∧ s1 = { s with heap := hb }) ⟨rfl, rfl⟩) fun r s1 hr => ?_
  match r, hr with
  | .error e, hr => exact hr
  | .ok (.ret obj), ⟨e1, e2⟩ =>
    subst e1; subst e2
    have oS : hb.get? s.heap.objs.size = some (bare w) := by rw [← hB]; exact Heap.get?_push_size _ rfl
    have tS : Shared.TypeIs { s with heap := hb } (.ref s.heap.objs.size) "set" := ⟨_, oS, rfl⟩
    have f6 := F.called_set.init.lookup
    have f7 := F.called_set.init.bind (.ref s.heap.objs.size)
    repeat (any_goals (first | assumption | wp_step))
    refine codeAny_mono (codeAny_call_builtin (R := wants (fun r s2 => r = .none ∧ ∃ g t, s2 = { s with heap := g, toks := t } ∧ Lot P w g s.heap.objs.size (allK ks) ∧ ∀ b o, s.heap.get? b = some o → g.get? b = some o) E) F.called_set.init.plain F.entry_set_init (check_set_init_1 tS ?_)) fun r2 s2 h2 => ?_
    · obtain ⟨⟨cl, di, da, sl⟩, ol, ocl, nl, oda⟩ := il
      simp only at ocl oda
      subst ocl; subst oda
      have up : ∀ {b o}, s.heap.get? b = some o → hb.get? b = some o := fun {b o} e => by rw [← hB]; exact Heap.get?_push_of_some _ e
      have ol1 := up ol
      have u1 := F.sub_tuple_set
      have u2 := F.sub_tuple_frozenset
      have u3 : (Value.type "tuple" == Value.type "dict") = false := by decide
      have il1 : hb.IsTuple l items := ⟨_, ol1, rfl, nl, rfl⟩
      unfold Builtin.«set.__init__» noKeywords Builtin.Frozenset.updateFrom
      generalize hPI : pyIter = PI
      wp_walk
      subst hPI
      refine wpAny_pyIter_tuple il1 (wpAny_bind (wpAny_runValue ?_))
      have lS : l < s.heap.objs.size := Heap.lt_size ol
      have sz : hb.objs.size = s.heap.objs.size + 1 := by rw [← hB]; exact Heap.size_push ..
      have c3 : A.in1.in1.in1.handled = none := by simp [calm]
      have offS : s.heap.objs.size ∉ [hb.objs.size, l] := fun m => by
        rw [sz] at m
        simp only [List.mem_cons, List.not_mem_nil, or_false] at m
        exact m.elim (fun e => absurd e (Nat.ne_of_lt (Nat.lt_succ_self _))) fun e => absurd e (Nat.ne_of_gt lS)
      refine upd_keys ((Walks.tuple c3 _ l (by rw [sz]; exact Nat.ne_of_lt (Nat.lt_succ_of_lt lS)) items).toS) offS ks len room is (items.size - 0) 0 _ (by omega) (Nat.zero_le _) ⟨⟨_, Heap.get?_push_size _ rfl, rfl, rfl⟩, il1.push _⟩ ?z0 fun s' mv z' => ?zR
      case z0 =>
        have e0 : allK (ks.take 0) = [] := rfl
        rw [e0]
        have := lot_bare (P := P) (w := w) (h := s.heap)
        rw [hB] at this
        exact this.at fun o e => Heap.get?_push_of_some _ e
      case zR =>
        obtain ⟨g, gs, dr, tk, os⟩ := s'
        obtain rfl : gs = s.gens := mv.gens
        obtain rfl : dr = s.drawn := mv.drawn
        obtain rfl : os = s.os := mv.os
        show wpAny _ _ _ _ _ _
        refine wpAny_pure ?_
        show wpAny _ _ (ret Value.none) _ _ _
        refine wpAny_pure ⟨rfl, g, tk, rfl, z', fun b o e => ?_⟩
        have hb0 := Heap.lt_size e
        refine mv.heap b o (fun m => ?_) (Heap.get?_push_of_some _ (up e))
        simp only [List.mem_cons, List.not_mem_nil, or_false] at m
        rcases m with m | m
        · exact absurd m (Nat.ne_of_lt hb0)
        · rw [sz] at m
          exact absurd m (Nat.ne_of_lt (Nat.lt_succ_of_lt hb0))
    · match r2, h2 with
      | .error e, h2 => exact h2
      | .ok (.ret r), ⟨e1, g, t, e2, z, kp⟩ =>
        subst e1; subst e2
        repeat (any_goals (first | assumption | wp_step))
        exact q g t z kp
/-- what a tuple is collected to -/
theorem collect_tup {l : Addr} {vs : List Value} {Q : List Value → Shared → Prop} (hl : s.heap.IsTuple l vs.toArray)
    (h : Q vs { s with heap := (s.heap.push (seqObj "list" #[] 0)).update s.heap.objs.size (Obj.mapSeq (· ++ vs.toArray)) }) (hsz : vs.length ≤ sizeLine) :
    wpAny (model P w) A (collect (.ref l)) Q E s := by
  obtain ⟨o, ho, hc, n, hd⟩ := id hl
  unfold collect
  refine wpAny_bind (wpAny_runValue (codeAny_builtin entry_proto_collect' ?_))
  show wpAny _ _ (do again (.builtin "list.__iadd__" ⟨[← newList [], .ref l], []⟩)) _ _ s
  refine wpAny_bind (wpAny_newList (wpAny_pure ⟨Code.quiet_builtin _ (by decide +kernel), codeAny_builtin entry_list_iadd' ?_⟩))
  show wpAny _ _ (Builtin.List.listExtendWith (.ref s.heap.objs.size) (.ref l) (.ref s.heap.objs.size)) _ _ { s with heap := s.heap.push (seqObj "list" #[] 0) }
  unfold Builtin.List.listExtendWith
  have ho' : (s.heap.push (seqObj "list" #[] 0)).get? l = some o := Heap.get?_push_of_some _ ho
  refine wpAny_bind (wpAny_typeOf (T := "tuple") ⟨o, ho', hc⟩ ?_)
  have ht : (Value.type "tuple" == Value.type "tuple") = true := by rfl
  rw [if_pos (by rw [ht]; simp)]
  refine wpAny_bind (listItems_at ho' hd ?_)
  refine wpAny_bind (listItems_at (xs := #[]) (n := 0) (Heap.get?_push_size _ rfl) rfl ?_)
  rw [if_neg (by simp)]
  refine wpAny_bind (listUpdate_at (xs := #[]) (n := 0) (Heap.get?_push_size _ rfl) rfl ?_ (Nat.zero_le _) (by show (#[] ++ vs.toArray).size ≤ sizeLine + 1; simp only [Array.size_append, List.size_toArray, List.length_nil]; omega))
  refine wpAny_pure ?_
  show wpAny (model P w) A (do
      let o ← load s.heap.objs.size
      match o.data with
      | .seq xs _ => pure xs.toList
      | _ => unsupported "internal:collect") Q E { s with heap := (s.heap.push (seqObj "list" #[] 0)).update s.heap.objs.size (Obj.mapSeq (· ++ vs.toArray)) }
  refine wpAny_bind (wpAny_load (get?_update_seq (Heap.get?_push_size _ rfl) _) ?_)
  show wpAny _ _ (pure ((#[] : Array Value) ++ vs.toArray).toList) Q E _
  rw [show ((#[] : Array Value) ++ vs.toArray).toList = vs by simp]
  exact wpAny_pure h
/-- sorted(a tuple) -/
theorem sorted_ordT {l : Addr} {vs : List Value} {ltv : Value → Value → Bool} {Q : Value → Shared → Prop} (O : SrtO.Swo ltv) (hl : s.heap.IsTuple l vs.toArray) (hz : vs.length ≤ sizeLine)
    (hS : 2 ≤ vs.length → ∀ (h₁ : Heap) (a : Addr), h₁.get? a = some (seqObj "list" vs.toArray 0) → (∀ b o, s.heap.get? b = some o → b ≠ a ∧ h₁.get? b = some o) → SrtO.SortableO P w A.in1.in1 { s with heap := h₁ } a vs ltv)
    (h : ∀ out : List Value, SrtO.Srtd ltv out → SrtO.Stb ltv out vs → Q (.ref (s.heap.objs.size + 1)) { s with heap := sortedAll s.heap vs out.toArray }) :
    wpAny (model P w) A (call (.builtin "sorted") [.ref l]) Q E s := by
  refine Calls.call_function_entry kind_sorted plain_sorted entry_sorted (args_sorted1 _) ?_
  unfold Builtin.«sorted»
  refine wpAny_bind (m := checkCount "sorted" 1 1 _) (wpAny_pure ?_)
  refine wpAny_bind (collect_tup hl ?_ hz)
  refine wpAny_bind (wpAny_newList ?_ hz)
  have hsz : ((s.heap.push (seqObj "list" #[] 0)).update s.heap.objs.size (Obj.mapSeq (· ++ vs.toArray))).objs.size = s.heap.objs.size + 1 := by
    rw [Heap.size_update, size_push']
  have hoL : (((s.heap.push (seqObj "list" #[] 0)).update s.heap.objs.size (Obj.mapSeq (· ++ vs.toArray))).push (seqObj "list" vs.toArray 0)).get? (s.heap.objs.size + 1) = some (seqObj "list" vs.toArray 0) := by
    rw [← hsz]; exact Heap.get?_push_size _ rfl
  have keep : ∀ b o, s.heap.get? b = some o → b ≠ s.heap.objs.size + 1 ∧ (((s.heap.push (seqObj "list" #[] 0)).update s.heap.objs.size (Obj.mapSeq (· ++ vs.toArray))).push (seqObj "list" vs.toArray 0)).get? b = some o := fun b o q => by
    have hlt : b < s.heap.objs.size := Heap.lt_size q
    refine ⟨Nat.ne_of_lt (Nat.lt_succ_of_lt hlt), Heap.get?_push_of_some _ ?_⟩
    rw [Heap.get?_update_ne _ _ _ _ (Nat.ne_of_lt hlt)]
    exact Heap.get?_push_of_some _ q
  show wpAny _ _ _ _ _ { s with heap := ((s.heap.push (seqObj "list" #[] 0)).update s.heap.objs.size (Obj.mapSeq (· ++ vs.toArray))).push (seqObj "list" vs.toArray 0) }
  rw [hsz]
  refine wpAny_bind (wpAny_holding (wpAny_call_entry slot_list_sort ⟨_, hoL, rfl⟩ entry_list_sort (SrtO.list_sort_ord O hoL hz (fun h2 => hS h2 _ _ hoL keep) fun out hs hb => ⟨_, rfl, ?_⟩) (args_list_sort _)))
  exact wpAny_pure ⟨_, rfl, h out hs hb⟩
theorem ints_item {vs : List Value} {ns : List Int} (h : IntsAre vs ns) (i : Nat) (v : Value) (e : vs[i]? = some v) : ∃ n t, v = .int n t ∧ ns[i]? = some n := by
  induction h generalizing i with
  | nil => cases e
  | cons n t r ih =>
    cases i with
    | zero => cases e; exact ⟨n, t, rfl, rfl⟩
    | succ i => exact ih i e
end
section
variable {X : Cx}
/-- a list or a tuple of ints -/
def SqI (K : PySem.W.Frag) (H : Hp) (l : Addr) (xs : List Int) : Prop := SqL K H l (xs.map V.int) ∨ SqT K H l (xs.map V.int)
/-- set(ints) -/
def rSetI (K : PySem.W.Frag) (P : Program) (w : World) : List V → Hp → VK → Prop := fun vs H Q => ∃ (l : Addr) (xs : List Int), vs = [V.ref l] ∧ SqI K H l xs ∧ xs.length + 1 < scanBound ∧
  ∀ D, H D = none → Q (.ref D) (upd H D (LotO P w D (allK (xs.map .inl))))
theorem cr_setI (calm : X.calm = true) : CallR X (.type "set") (rSetI X.K X.prog X.w) := by
  intro pins s σ H vs us Q I r h
  obtain ⟨l, xs, rfl, hs, room, q⟩ := h
  rw [Vals.ref1 r]
  rcases hs with hs | hs
  · obtain ⟨its, rv, hl, hz⟩ := I.list hs
    have st := rv.ints
    have len : its.toArray.size = (xs.map fun x => (.inl x : Key)).length := by
      rw [List.length_map, List.size_toArray, ← rv.length, List.length_map]
    refine call_setK (P := X.prog) (w := X.w) (xs.map .inl) (I.ok.hd calm) hl.isList len (fun i v hv => ?_) (by rw [List.length_map]; exact room) fun g t z kp => ?_
    · rw [List.getElem?_toArray] at hv
      obtain ⟨x, t, e1, e2⟩ := ints_item st i v hv
      refine ⟨.inl x, ?_, by rw [e1]; exact mixKind_int _ _ _ _⟩
      rw [List.getElem?_map, e2] <;> rfl
    · exact ⟨.ref _, upd H s.heap.objs.size (LotO X.prog X.w s.heap.objs.size _), I.laid (t' := t) kp (Nat.le_refl _) (lotO_ok z), rfl, q _ (I.hok.fresh (Nat.le_refl _))⟩
  · obtain ⟨its, rv, hl, hz⟩ := I.tuple hs
    have st := rv.ints
    have len : its.toArray.size = (xs.map fun x => (.inl x : Key)).length := by
      rw [List.length_map, List.size_toArray, ← rv.length, List.length_map]
    refine call_setKT (P := X.prog) (w := X.w) (xs.map .inl) (I.ok.hd calm) (show s.heap.IsTuple l its.toArray from hl) len (fun i v hv => ?_) (by rw [List.length_map]; exact room) fun g t z kp => ?_
    · rw [List.getElem?_toArray] at hv
      obtain ⟨x, t, e1, e2⟩ := ints_item st i v hv
      refine ⟨.inl x, ?_, by rw [e1]; exact mixKind_int _ _ _ _⟩
      rw [List.getElem?_map, e2] <;> rfl
    · exact ⟨.ref _, upd H s.heap.objs.size (LotO X.prog X.w s.heap.objs.size _), I.laid (t' := t) kp (Nat.le_refl _) (lotO_ok z), rfl, q _ (I.hok.fresh (Nat.le_refl _))⟩
/-- sorted(ints) -/
def rSrtI (K : PySem.W.Frag) : List V → Hp → VK → Prop := fun vs H Q => ∃ (a : Addr) (ns : List Int), vs = [V.ref a] ∧ SqI K H a ns ∧
  ∀ (ns' : List Int) (p : Addr), ns'.Perm ns → ns'.Pairwise (· ≤ ·) → H p = none → Q (.ref p) (upd H p (.lst (ns'.map V.int)))
theorem cr_srtI : CallR X (.builtin "sorted") (rSrtI X.K) := by
  intro pins s σ H vs us Q I r h
  obtain ⟨a, ns, rfl, hs, q⟩ := h
  rcases hs with hs | hs
  · exact cr_sortedI pins s σ H _ us Q I r ⟨a, ns, rfl, hs, q⟩
  · obtain ⟨its, rv, hl, hz⟩ := I.tuple hs
    rw [Vals.ref1 r]
    have hi := rv.ints
    refine sorted_ordT SrtO.swo_int (show s.heap.IsTuple a its.toArray from hl) (by rw [← rv.length]; exact hz) (fun h2 h₁ a' _ _ => SrtO.ints_sortable hi h2) fun out h1 h2 => ?_
    obtain ⟨k1, k2, k3⟩ := SrtO.ints_out hi h1 h2
    obtain ⟨ep, he'⟩ := PyProof.Rows.sortedAll_at s.heap its out.toArray
    have hlen : ((out.map SrtO.iv).map V.int).length ≤ sizeLine := by
      rw [List.length_map, k2.length_eq]
      rw [List.length_map] at hz
      exact hz
    exact ⟨.ref _, upd H (s.heap.objs.size + 1) (.lst ((out.map SrtO.iv).map V.int)), I.laid (t' := s.toks) (fun _ _ => PyProof.Rows.sortedAll_old) (Nat.le_succ _) ⟨hlen, out, ep, vals_of_ints k1, he'⟩, rfl, q _ _ k2 k3 (I.hok.fresh (Nat.le_succ _))⟩
/-- a list or a tuple, walked -/
def iSeq (K : PySem.W.Frag) (tl : TE) : TI := fun σ H R => tl σ H fun x H1 => ∃ a, x = .ref a ∧ (((∃ xs, SqL K H1 a xs) ∧ R (Itl K a) H1) ∨ ((∃ xs, SqT K H1 a xs) ∧ R (Itt K a) H1))
theorem pi_seq {tg l : Expr} {tl : TE} (hl : PE X l tl) : PI X tg l (iSeq X.K tl) := by
  refine ⟨fun pins s σ H R I h => ?_⟩
  refine thn (hl.run pins s σ H _ I h) fun v s1 ⟨x, H1, I1, r1, q1⟩ => ?_
  obtain ⟨a, e, q⟩ := q1
  subst e
  cases r1
  rcases q with ⟨⟨xs, hq⟩, q⟩ | ⟨⟨xs, hq⟩, q⟩
  · obtain ⟨its, rv, p, hz⟩ := I1.list hq
    refine wpAny_pyIter_list p.isList ?_
    refine ⟨s1.heap.objs.size, [s1.heap.objs.size], _, _, H1, rfl, I1.kept (t' := s1.toks) fun b o e => Heap.get?_push_of_some _ e, turn_list a _, ⟨_, Heap.get?_push_size _ rfl, rfl, rfl⟩, fun b hb => ?_, q⟩
    have e : b = s1.heap.objs.size := by simpa using hb
    subst e
    exact I1.fpOk (Nat.le_refl _) (I1.hok.fresh (Nat.le_refl _))
  · obtain ⟨its, rv, p, hz⟩ := I1.tuple hq
    refine wpAny_pyIter_tuple (show s1.heap.IsTuple a its.toArray from p) ?_
    refine ⟨s1.heap.objs.size, [s1.heap.objs.size], _, _, H1, rfl, I1.kept (t' := s1.toks) fun b o e => Heap.get?_push_of_some _ e, turn_tuple a _, ⟨_, Heap.get?_push_size _ rfl, rfl, rfl⟩, fun b hb => ?_, q⟩
    have e : b = s1.heap.objs.size := by simpa using hb
    subst e
    exact I1.fpOk (Nat.le_refl _) (I1.hok.fresh (Nat.le_refl _))
end
end Ks
namespace Ks
open PySem PySem.Spec PyProof.Rows L2
/-- a pair as it is sorted -/
def encP (b : Int × List Nat) : PyData := .tuple [.int b.1, .str ⟨b.2.toArray⟩]
def leP : Int × List Nat → Int × List Nat → Bool := PySem.W.dataLe false encP
theorem leP_fst {a b : Int × List Nat} (h : leP a b = true) : a.1 ≤ b.1 := by
  unfold leP at h
  rw [PySem.W.dataLe_eq] at h
  have h : (!PySem.W.dataLt (encP b) (encP a)) = true := h
  unfold encP at h
  rw [PySem.W.dataLt_pair (by simp [PySem.W.alike]) (by simp [PySem.W.alike]), PySem.W.dataLt_int] at h
  rcases Int.lt_or_le b.1 a.1 with q | q
  · have ne : b.1 ≠ a.1 := by omega
    simp [PyData.eqv, ne, q] at h
  · exact q
def srtP (l : List (Int × List Nat)) : List (Int × List Nat) := l.mergeSort leP
theorem srtP_is {l m : List (Int × List Nat)} (p : m.Perm l) (up : m.Pairwise fun a b => a.1 < b.1) : srtP l = m := by
  unfold srtP
  have pw : (l.mergeSort leP).Pairwise fun a b => a.1 ≤ b.1 := (PySem.W.sort_pairwise (PySem.W.sortLe_total (PyProof.Rows.listOrd PyProof.Rows.itemOrd) false fun b => PySem.W.keyToks (encP b)) l).imp fun {a b} h => leP_fst h
  have pm : (l.mergeSort leP).Perm m := (List.mergeSort_perm l leP).trans p.symm
  refine List.Perm.eq_of_pairwise (le := fun a b => a.1 ≤ b.1) (fun a b ha hb h1 h2 => ?_) pw (up.imp fun {a b} h => Int.le_of_lt h) pm
  have ha' : a ∈ m := pm.mem_iff.mp ha
  obtain ⟨i, hi, rfl⟩ := List.mem_iff_getElem.mp ha'
  obtain ⟨j, hj, rfl⟩ := List.mem_iff_getElem.mp hb
  rcases Nat.lt_trichotomy i j with q | q | q
  · have := List.pairwise_iff_getElem.mp up i j hi hj q
    omega
  · subst q; rfl
  · have := List.pairwise_iff_getElem.mp up j i hj hi q
    omega
/-- v is such a pair -/
def IsPr (K : PySem.W.Frag) (H : Hp) (v : V) (b : Int × List Nat) : Prop := ∃ t, v = .ref t ∧ SqT K H t [.int b.1, .str ⟨b.2.toArray⟩]
inductive Prs (K : PySem.W.Frag) (H : Hp) : List V → List (Int × List Nat) → Prop
  | nil : Prs K H [] []
  | cons {v : V} {b : Int × List Nat} {vs : List V} {bs : List (Int × List Nat)} : IsPr K H v b → Prs K H vs bs → Prs K H (v :: vs) (b :: bs)
theorem Prs.len {K : PySem.W.Frag} {H : Hp} {vs : List V} {bs : List (Int × List Nat)} (h : Prs K H vs bs) : vs.length = bs.length := by
  induction h with
  | nil => rfl
  | cons _ _ ih => rw [List.length_cons, List.length_cons, ih]
/-- sorted(pairs) -/
def rSrtP (K : PySem.W.Frag) : List V → Hp → VK → Prop := fun vs H Q => ∃ (a : Addr) (ys : List V) (l : List (Int × List Nat)) (G : Hp), vs = [V.ref a] ∧ SqL K H a ys ∧ (∀ a xs, SqT K G a xs → SqT K H a xs) ∧ Prs K G ys l ∧ ∀ zs p, Prs K G zs (srtP l) → H p = none → Q (.ref p) (upd H p (.lst zs))
section
variable {X : Cx}
theorem cr_srtP (hu : X.A.units + 64 < cLine) : CallR X (.builtin "sorted") (rSrtP X.K) := by
  intro pins s σ H vs us Q I r h
  obtain ⟨a, ys, l, G, rfl, hs, up, pr, q⟩ := h
  obtain ⟨its, rv, hl, hz⟩ := I.list hs
  rw [Vals.ref1 r]
  have each : PySem.W.EachIs (fun v b => (∃ t, v = Value.ref t ∧ SqT X.K G t [.int b.1, .str ⟨b.2.toArray⟩]) ∧ ∃ as, Reads s.heap v (encP b) as) its l := by
    clear hl hz hs q
    induction pr generalizing its with
    | nil => cases rv; exact .nil
    | cons h _ ih =>
      obtain ⟨t, rfl, ht⟩ := h
      cases rv with
      | cons r1 r2 =>
        cases r1
        refine .cons ⟨⟨t, rfl, ht⟩, ?_⟩ (ih _ r2)
        obtain ⟨it2, rv2, ⟨o, h1, h2, n, h3⟩, _⟩ := I.tuple (up _ _ ht)
        obtain ⟨u1, u2, rfl, q1, q2⟩ := vals2 rv2
        obtain ⟨t1, rfl⟩ := q1
        obtain ⟨t2, rfl⟩ := q2
        exact ⟨_, .tuple h1 h2 h3 (.cons (.int _ _) (.cons (.str _ _) .nil))⟩
  have len : l.length = its.length := by rw [← pr.len]; exact rv.length
  refine PySem.W.sorted_data (enc := encP) (R := fun v b => ∃ t, v = Value.ref t ∧ SqT X.K G t [.int b.1, .str ⟨b.2.toArray⟩]) hl.isList (each.mono fun _ _ h => h.1) (each.mono fun _ _ h => h.2) (PySem.W.AllAlike.of fun b b' => by simp [encP, PySem.W.alike, PySem.W.alikeAll]) (PySem.W.Sortable.tuples fun b => ⟨_, _, rfl⟩) (by rw [← pr.len]; exact hz)
    (fun b _ => by
      have e : (encP b).depth ≤ 1 := by simp [encP, PyData.depth, PyData.depthAll]
      omega) fun out ho eo => ?_
  have back : ∀ {out : List Value} {bs : List (Int × List Nat)}, PySem.W.EachIs (fun v b => ∃ t, v = Value.ref t ∧ SqT X.K G t [.int b.1, .str ⟨b.2.toArray⟩]) out bs → ∃ zs, Vals zs out ∧ Prs X.K G zs bs := fun e => by
    induction e with
    | nil => exact ⟨[], .nil, .nil⟩
    | cons h _ ih =>
      obtain ⟨t, rfl, ht⟩ := h
      obtain ⟨zs, z1, z2⟩ := ih
      exact ⟨.ref t :: zs, .cons rfl z1, .cons ⟨t, rfl, ht⟩ z2⟩
  obtain ⟨zs, z1, z2⟩ := back eo
  obtain ⟨n, hn⟩ := sortedAll_at s.heap its out.toArray
  have few : zs.length ≤ sizeLine := by
    have : zs.length = out.length := z1.length
    rw [this, ho, ← pr.len]
    exact hz
  exact ⟨.ref _, upd H (s.heap.objs.size + 1) (.lst zs), I.laid (t' := s.toks) (fun _ _ => sortedAll_old) (Nat.le_succ _) ⟨few, out, n, z1, hn⟩, rfl, q _ _ z2 (I.hok.fresh (Nat.le_succ _))⟩
end
end Ks
/-! zip of two lists, walked -/
namespace Da
open PySem PySem.Spec L2 PyProof.Rows
variable [Tbs]
/-- the items of two lists, pair by pair -/
def ItzL (K : PySem.W.Frag) (a b : Addr) (N : Nat) : It := ⟨fun i H => i < N ∧ ∃ xs ys x y, SqL K H a xs ∧ SqL K H b ys ∧ xs[i]? = some x ∧ ys[i]? = some y,
  fun i H v H' => ∃ T x y, v = .ref T ∧ H T = none ∧ H' = upd H T (.tup [x, y]) ∧ (∀ xs, SqL K H a xs → xs[i]? = some x) ∧ (∀ ys, SqL K H b ys → ys[i]? = some y),
  fun i H => N ≤ i ∧ ∃ xs ys, SqL K H a xs ∧ SqL K H b ys ∧ N = min xs.length ys.length⟩
theorem turn_zipL {P : Program} {w : World} {K : PySem.W.Frag} {elts : List Expr} {kk : Nat} {tpos : Pos} {z TI TO i1 i2 a b : Addr} {N : Nat} (S : ZipSep2 z TI TO i1 i2 [i1, a] [i2, b]) (na : a ≠ i1) (nb : b ≠ i2) :
    Turn P w K (.Tuple elts kk tpos) (ItzL K a b N) [z, TI, TO, i1, i2] z (fun i h => IsZip h z TI TO .none ∧ IsTupOf2 h TI (.ref i1) (.ref i2) ∧ (∃ a b, IsTupOf2 h TO a b) ∧ h.IsListIter i1 a i ∧ h.IsListIter i2 b i ∧ i ≤ N) where
  mem := List.mem_cons_self
  obj := fun i h st b hb => by
    obtain ⟨hz, hTI, ⟨a, c, hTO⟩, ⟨o1, g1, _, d1⟩, ⟨o2, g2, _, d2⟩, _⟩ := st
    simp only [List.mem_cons, List.not_mem_nil, or_false] at hb
    rcases hb with rfl | rfl | rfl | rfl | rfl
    · exact ⟨_, hz, fun v q => nomatch q⟩
    · exact ⟨_, hTI, fun v q => nomatch q⟩
    · exact ⟨_, hTO, fun v q => nomatch q⟩
    · exact ⟨o1, g1, fun v q => by rw [d1] at q; cases q⟩
    · exact ⟨o2, g2, fun v q => by rw [d2] at q; cases q⟩
  keep := fun i h h' st stay => by
    obtain ⟨hz, hTI, ⟨a, c, hTO⟩, ⟨o1, g1, r1⟩, ⟨o2, g2, r2⟩, le⟩ := st
    exact ⟨stay z (by simp) _ hz, stay TI (by simp) _ hTI, ⟨a, c, stay TO (by simp) _ hTO⟩, ⟨o1, stay i1 (by simp) _ g1, r1⟩, ⟨o2, stay i2 (by simp) _ g2, r2⟩, le⟩
  item := by
    intro X hP hw hK calm i pins s σ H E I far st go
    subst hP hw hK
    obtain ⟨hz, hTI, ⟨a', c, hTO⟩, s1, s2, le⟩ := st
    obtain ⟨lt, xs, ys, x, y, hq1, hq2, hx, hy⟩ := go
    obtain ⟨its1, rv1, p1, hz1⟩ := I.list hq1
    obtain ⟨its2, rv2, p2, hz2⟩ := I.list hq2
    obtain ⟨u1, hu1, ru1⟩ := rv1.get hx
    obtain ⟨u2, hu2, ru2⟩ := rv2.get hy
    have lt1 : i < its1.toArray.size := by
      have := (List.getElem?_eq_some_iff.mp hu1).1
      simpa using this
    have lt2 : i < its2.toArray.size := by
      have := (List.getElem?_eq_some_iff.mp hu2).1
      simpa using this
    have big : ∀ b ∈ [z, TI, TO, i1, i2], b < s.heap.objs.size := fun b hb => by
      simp only [List.mem_cons, List.not_mem_nil, or_false] at hb
      rcases hb with rfl | rfl | rfl | rfl | rfl
      · exact Heap.lt_size hz
      · exact Heap.lt_size hTI
      · exact Heap.lt_size hTO
      · obtain ⟨_, g, _⟩ := s1; exact Heap.lt_size g
      · obtain ⟨_, g, _⟩ := s2; exact Heap.lt_size g
    refine wpAny_pyNext_zipD2_item (St1 := fun i h => h.IsListIter i1 a i ∧ h.IsList a its1.toArray) (St2 := fun i h => h.IsListIter i2 b i ∧ h.IsList b its2.toArray) S (Draws.list (A := X.A.in1) (I.ok.hd calm) i1 a na its1.toArray) (Draws.list (A := X.A.in1) (I.ok.hd calm) i2 b nb its2.toArray) hz hTI hTO ⟨s1, p1.isList⟩ ⟨s2, p2.isList⟩ lt1 lt2 fun x1 x2 h1 tk p1 p2 hz1 hTO1 s1' s2' pair size stay => ?_
    obtain rfl : u1 = x1 := by
      have p1 : its1[i]? = some x1 := by simpa using p1
      rw [hu1] at p1
      exact Option.some.inj p1
    obtain rfl : u2 = x2 := by
      have p2 : its2[i]? = some x2 := by simpa using p2
      rw [hu2] at p2
      exact Option.some.inj p2
    refine ⟨_, rfl, wpAny_letOwnedTupleGo_zip (s := { s with heap := h1, toks := tk }) hz1 fun h2 hz2 same => ?_⟩
    have ne : ∀ {b}, b ∈ [z, TI, TO, i1, i2] → b ≠ s.heap.objs.size := fun h => Nat.ne_of_lt (big _ h)
    have pair2 : h2.get? s.heap.objs.size = some { cls := .type "tuple", data := .seq #[u1, u2] } := (same.2 _ (Ne.symm (ne (by simp)))).trans pair
    have new : ObjOk X.prog X.w (upd H s.heap.objs.size (.tup [x, y])) h2 s.heap.objs.size (.tup [x, y]) :=
      ⟨by show 2 ≤ sizeLine; decide, [u1, u2], .cons ru1 (.cons ru2 .nil), ⟨_, pair2, rfl, _, rfl⟩⟩
    have I1 : Inv X pins σ (upd H s.heap.objs.size (.tup [x, y])) { s with heap := h2, toks := tk } :=
      I.turnedNew (ch := [z, TI, TO, i1, i2]) (fun b o hb got => (same.2 b fun q => hb (by simp [q])).trans (stay b o (fun q => hb (by simp [q])) (fun q => hb (by simp [q])) (fun q => hb (by simp [q])) (fun q => hb (by simp [q])) got)) far (Nat.le_refl _) new
    refine ⟨.ref s.heap.objs.size, _, I1, rfl, ⟨_, x, y, rfl, I.hok.fresh (Nat.le_refl _), rfl, fun zs hs => by rw [I.list_inj hs hq1]; exact hx, fun zs hs => by rw [I.list_inj hs hq2]; exact hy⟩, ⟨hz2, ?_, ⟨_, _, (same.2 TO S.TOz).trans hTO1⟩, ?_, ?_, lt⟩, fun b hb => ?_⟩
    · exact (same.2 TI S.TIz).trans (stay TI _ S.TIz S.TITO S.TIi1 S.TIi2 hTI)
    · obtain ⟨⟨o, g, r⟩, _⟩ := s1'
      exact ⟨o, (same.2 i1 (fun q => S.zf1 (by rw [q]; simp))).trans g, r⟩
    · obtain ⟨⟨o, g, r⟩, _⟩ := s2'
      exact ⟨o, (same.2 i2 (fun q => S.zf2 (by rw [q]; simp))).trans g, r⟩
    · rw [upd_ne (ne hb)]
      exact (far b hb).1
  done := by
    intro X hP hw hK calm i pins s σ H E I far st stop
    subst hP hw hK
    obtain ⟨hz, hTI, ⟨a', c, hTO⟩, s1, s2, le⟩ := st
    obtain ⟨ge, xs, ys, hq1, hq2, e⟩ := stop
    obtain ⟨its1, rv1, p1, hz1⟩ := I.list hq1
    obtain ⟨its2, rv2, p2, hz2⟩ := I.list hq2
    have l1 : its1.toArray.size = xs.length := by rw [List.size_toArray]; exact rv1.length.symm
    have l2 : its2.toArray.size = ys.length := by rw [List.size_toArray]; exact rv2.length.symm
    refine wpAny_pyNext_zipD2_end (St1 := fun i h => h.IsListIter i1 a i ∧ h.IsList a its1.toArray) (St2 := fun i h => h.IsListIter i2 b i ∧ h.IsList b its2.toArray) S (Draws.list (A := X.A.in1) (I.ok.hd calm) i1 a na its1.toArray) (Draws.list (A := X.A.in1) (I.ok.hd calm) i2 b nb its2.toArray) hz hTI hTO ⟨s1, p1.isList⟩ ⟨s2, p2.isList⟩ (by omega) (by omega) (by omega) fun h1 tk stay => ⟨rfl, I.turnedL (ch := [z, TI, TO, i1, i2]) (fun b o hb got => stay b o (fun q => hb (by simp [q])) (fun q => hb (by simp [q])) (fun q => hb (by simp [q])) (fun q => hb (by simp [q])) got) far⟩
  self := fun A i s Q E st h => wpAny_pyIter_zip st.1 h
def iZipL (K : PySem.W.Frag) (ta : TA) : TI := fun σ H R => ta σ H fun vs H1 => ∃ (a b : Addr) (N : Nat), vs = [.ref a, .ref b] ∧ (∃ xs, SqL K H1 a xs) ∧ (∃ ys, SqL K H1 b ys) ∧ R (ItzL K a b N) H1
theorem pi_zipL {X : Cx} {e e2 : Expr} {ta : TA} {p pos tpos : Pos} {elts : List Expr} {kk : Nat} (hg : Gl X "zip") (hm : X.mg "zip" = none) (ha : PA X [e, e2] ta)
    (hs : starEach [e, e2] X.env = (false, eval e X.env) :: starEach [e2] X.env := by rfl) (hpl : (backTo pos (starEach [e2] X.env)).any (·.1) = false := by rfl) :
    PI X (.Tuple elts kk tpos) (.Call (.Name "zip" p) [e, e2] [] pos) (iZipL X.K ta) := .mk fun pins s σ H R I h => by
  refine Call_ (ld_blt I hg hm PyProof.Rows.boot_zip (PyProof.Rows.callWith_type1 (thn (ha.run pos pins s σ H _ I h) fun us s1 ⟨vs, H1, I1, r1, q1⟩ => ?_) hs hpl))
  obtain ⟨a, b, N, ex, ⟨xs, hq1⟩, ⟨ys, hq2⟩, q⟩ := q1
  subst ex
  obtain ⟨u1, u2, rfl, r, r'⟩ := vals2 r1
  cases r
  cases r'
  obtain ⟨its1, rv1, p1, hz1⟩ := I1.list hq1
  obtain ⟨its2, rv2, p2, hz2⟩ := I1.list hq2
  have la : a < s1.heap.objs.size := by obtain ⟨o, g, _⟩ := p1.isList; exact Heap.lt_size g
  have lb : b < s1.heap.objs.size := by obtain ⟨o, g, _⟩ := p2.isList; exact Heap.lt_size g
  refine zip_begins2 (begins_list a its1.toArray) (begins_list b its2.toArray) p1.isList p2.isList fun h' hz hTI hTO h1 h2 hsz hk => wpAny_pyIter_zip hz ?_
  have sep := zip_sep2 (N := s1.heap.objs.size) (fp1 := [a]) (fp2 := [b]) (fun x h => by simp at h; subst h; exact la) (fun x h => by simp at h; subst h; exact lb)
  have I2 : Inv X pins σ H1 { s1 with heap := h' } := I1.kept (t' := s1.toks) hk
  refine ⟨s1.heap.objs.size + 4, _, _, ItzL X.K a b N, H1, rfl, I2, turn_zipL sep (Nat.ne_of_lt la) (Nat.ne_of_lt (Nat.lt_succ_of_lt lb)), ⟨hz, hTI, ⟨_, _, hTO⟩, ⟨_, h1, rfl, rfl⟩, ⟨_, h2, rfl, rfl⟩, Nat.zero_le _⟩, fun b hb => ?_, q⟩
  have le : s1.heap.objs.size ≤ b := by
    simp only [List.mem_cons, List.not_mem_nil, or_false] at hb
    rcases hb with rfl | rfl | rfl | rfl | rfl
    · exact Nat.le_add_right _ _
    · exact Nat.le_add_right _ _
    · exact Nat.le_add_right _ _
    · exact Nat.le_refl _
    · exact Nat.le_add_right _ _
  exact I1.fpOk le (I1.hok.fresh le)
section
variable {K : PySem.W.Frag} {E B R : List Addr} {Z : List (List Addr × Hp)} {ss : List Sl} {os : Os} {σ : L2.St} {H H' : Hp} {m F : Bool} {o0 : Os} {te ta tb tc : TE} {P P' PA PB : D → Prop} {Dn : Ends}
def zipLD (x y : List Int) : List D := (x.zip y).map fun p => .tup [.int p.1, .int p.2]
theorem zipLD_len (x y : List Int) : (zipLD x y).length = min x.length y.length := by
  unfold zipLD
  rw [List.length_map, List.length_zip]
theorem ei_zipL {t : TA} {x y : List Int} (h : EaD K E B true ss o0 t [.lst (x.map .int), .lst (y.map .int)]) : EvIE K E B ss o0 (iZipL K t) (fun z => z = zipLD x y) := fun Z os σ H i A R q => h Z os σ H i A _ fun vs es H1 g r e => by
  subst e
  cases r with
  | cons r1 r =>
    cases r with
    | cons r2 r =>
      cases r
      cases r1 with
      | lst h1 k1 =>
        cases r2 with
        | lst h2 k2 =>
          rw [RpAll.ints k1] at h1
          rw [RpAll.ints k2] at h2
          rename_i a _ b _
          refine ⟨_, _, min x.length y.length, rfl, ⟨_, .inl (.inl (era_sub _ _ _ _ h1))⟩, ⟨_, .inl (.inl (era_sub _ _ _ _ h2))⟩, q _ _ H1 g (fun H2 st pr => ?_) rfl⟩
          have len := zipLD_len x y
          have sub : Sub (era H1 (ads os ++ E)) H2 := fun b o e t => by
            obtain ⟨n, e⟩ := era_some e
            exact st b o n e t
          have hS1 : SqL K H2 _ (x.map V.int) := sub.l (.inl (.inl h1))
          have hS2 : SqL K H2 _ (y.map V.int) := sub.l (.inl (.inl h2))
          refine ⟨fun i hi => ?_, fun i hi => ⟨by omega, _, _, hS1, hS2, ?_⟩, fun i v H3 hi yl => ?_⟩
          · have b1 : i < x.length := by omega
            have b2 : i < y.length := by omega
            exact ⟨by omega, _, _, .int x[i], .int y[i], hS1, hS2, by rw [List.getElem?_map, List.getElem?_eq_getElem b1] <;> rfl, by rw [List.getElem?_map, List.getElem?_eq_getElem b2] <;> rfl⟩
          · rw [List.length_map, List.length_map]
          · obtain ⟨T, c, d, rfl, nT, rfl, e1, e2⟩ := yl
            have e1 := e1 _ hS1
            have e2 := e2 _ hS2
            rw [List.getElem?_map] at e1 e2
            cases q1 : x[i]? with
            | none => rw [q1] at e1; cases e1
            | some n =>
              cases q2 : y[i]? with
              | none => rw [q2] at e2; cases e2
              | some k =>
                rw [q1] at e1
                rw [q2] at e2
                cases e1
                cases e2
                refine ⟨fun b o e => by rw [upd_ne (ne_of_none e nT)]; exact e, .tup [.int n, .int k], ?_, fun R' _ h2 h3 => .tup (xs := [.int n, .int k]) (.inl (.inl ?_)) (.cons (.int _) (.cons (.int _) .nil))⟩
                · unfold zipLD
                  rw [List.getElem?_map, (List.getElem?_zip_eq_some (z := (n, k))).mpr ⟨q1, q2⟩] <;> rfl
                · rw [era_in (fun z => h3 T z nT)]
                  exact upd_same
end
end Da
/-! ints in a list or a tuple, told by data -/
namespace Da
open PySem PySem.Spec L2 PyProof.Rows Ks
variable [Tbs]
section
variable {P : Program} {w : World} {K : PySem.W.Frag} {E B : List Addr} {ss : List Sl} {o0 : Os} {m F : Bool} {te ta tb tc : TE}
/-- a list (b) or a tuple of ints -/
def iD (b : Bool) (ns : List Int) : D := if b then .lst (ns.map .int) else .tup (ns.map .int)
theorem sqI_of {H : Hp} {R : List Addr} {v : V} {b : Bool} {ns : List Int} (r : Rp K (era H R) v (iD b ns)) : ∃ a, v = .ref a ∧ SqI K H a ns := by
  cases b with
  | true =>
    have r : Rp K (era H R) v (.lst (ns.map .int)) := r
    cases r with
    | lst h1 h2 =>
      rw [RpAll.ints h2] at h1
      exact ⟨_, rfl, .inl (.inl (.inl (era_sub _ _ _ _ h1)))⟩
  | false =>
    have r : Rp K (era H R) v (.tup (ns.map .int)) := r
    cases r with
    | tup h1 h2 =>
      rw [RpAll.ints h2] at h1
      exact ⟨_, rfl, .inr ((era_sub _ _).t h1)⟩
theorem ei_seq {b : Bool} {ns : List Int} (h : EvD K E B true ss o0 te (iD b ns)) : EvID K E B ss o0 (iSeq K te) (ns.map .int) := fun Z os σ H i A R q => h Z os σ H i A _ fun v d H1 g r _ e => by
  subst e
  cases b with
  | true =>
    have r : Rp K (era H1 (er true os E)) v (.lst (ns.map .int)) := r
    cases r with
    | lst h1 h2 => exact ⟨_, rfl, .inl ⟨⟨_, .inl (.inl (era_sub _ _ _ _ h1))⟩, q _ _ H1 g (itd_list (.inl (.inl h1)) h2) rfl⟩⟩
  | false =>
    have r : Rp K (era H1 (er true os E)) v (.tup (ns.map .int)) := r
    cases r with
    | tup h1 h2 => exact ⟨_, rfl, .inr ⟨⟨_, (era_sub _ _).t h1⟩, q _ _ H1 g (itd_tup h1 h2) rfl⟩⟩
theorem c_lenI {b : Bool} {ns : List Int} : OpA K B (fun xs H Q => ∃ p ys, xs = [.ref p] ∧ (SqL K H p ys ∨ SqT K H p ys) ∧ Q (.int ys.length) H) [iD b ns] false (fun x => x = .int ns.length) := by
  cases b with
  | true =>
    have := c_len (K := K) (B := B) (ds := ns.map D.int)
    rw [List.length_map] at this
    exact this
  | false =>
    have := c_lenT (K := K) (B := B) (ds := ns.map D.int)
    rw [List.length_map] at this
    exact this
theorem allI_len {ns : List Int} (nd : ns.Nodup) : (allK (ns.map .inl)).length = ns.length := by
  obtain ⟨h1, h2, h3⟩ := allK_facts (ns.map .inl)
  have nd2 : (ns.map (Sum.inl : Int → Key)).Nodup := List.Pairwise.map _ (S := (· ≠ ·)) (fun a b h z => h (Sum.inl.inj z)) nd
  have pm : (allK (ns.map .inl)).Perm (ns.map .inl) := (List.perm_ext_iff_of_nodup h1 nd2).mpr h3
  rw [pm.length_eq, List.length_map]
/-- len(set(ns)), ns without repeats -/
theorem ev_lenSetI {b : Bool} {ns : List Int} (h : EvD K E B m ss o0 te (iD b ns)) (few : ns.length ≤ 4000) (nd : ns.Nodup) :
    EvD K E B m ss o0 (tCB (rLenLot P w) (tCons (tCB (rSetI K P w) (tCons te tNil)) tNil)) (.int ns.length) := fun Z os σ H io A Q q => by
  refine h Z os σ H io A _ fun v d H1 g r _ e => ?_
  subst e
  obtain ⟨a, rfl, hs⟩ := sqI_of r
  refine ⟨_, ns, rfl, hs, by show ns.length + 1 < 4096; omega, fun D nD => ?_⟩
  refine ⟨D, _, rfl, upd_same, ?_⟩
  exact q _ (.int _) _ (g.trans (Go.new nD)) (.int _) (fun z => absurd z (by simp)) (by rw [allI_len nd])
def srtI (ns : List Int) : List Int := ns.mergeSort fun a b => decide (a ≤ b)
theorem srtI_perm (ns : List Int) : (srtI ns).Perm ns := List.mergeSort_perm _ _
theorem srtI_up (ns : List Int) : (srtI ns).Pairwise (· ≤ ·) := by
  have := List.pairwise_mergeSort (le := fun (a b : Int) => decide (a ≤ b)) (fun a b c h1 h2 => by simp at *; omega) (fun a b => by simp; omega) ns
  exact this.imp fun {a b} h => by simpa using h
theorem srtI_is {ns ms : List Int} (p : ms.Perm ns) (up : ms.Pairwise (· ≤ ·)) : ms = srtI ns :=
  List.Perm.eq_of_pairwise (le := fun a b => a ≤ b) (fun a b _ _ h1 h2 => Int.le_antisymm h1 h2) up (srtI_up ns) (p.trans (srtI_perm ns).symm)
theorem c_srtI {b : Bool} {ns : List Int} : OpA K B (rSrtI K) [iD b ns] true (fun d => d = .lst ((srtI ns).map .int)) := fun R H vs A r Q q => by
  cases r with
  | cons r1 r =>
    cases r
    obtain ⟨a, rfl, hs⟩ := sqI_of r1
    refine ⟨_, ns, rfl, hs, fun ys p pm up np => ?_⟩
    have e := srtI_is pm up
    subst e
    exact q _ _ _ (Go.new np) (.lst (A.new np) (RpAll.of_ints _)) (fun _ => New.laid A np (RpAll.of_ints _)) rfl
def prD (b : Int × List Nat) : D := .tup [.int b.1, .str b.2]
theorem prs_of {H : Hp} : ∀ {ys : List V} {l : List (Int × List Nat)}, RpAll K H ys (l.map prD) → Prs K H ys l
  | [], [], .nil => .nil
  | _ :: _, _ :: _, .cons r t => by
    refine .cons ?_ (prs_of t)
    have r : Rp K H _ (.tup [_, _]) := r
    cases r with
    | tup h1 h2 =>
      cases h2 with
      | cons a1 h2 =>
        cases h2 with
        | cons a2 h2 =>
          cases h2
          cases a1
          cases a2
          exact ⟨_, rfl, h1⟩
theorem rps_of {H : Hp} : ∀ {ys : List V} {l : List (Int × List Nat)}, Prs K H ys l → RpAll K H ys (l.map prD)
  | [], [], .nil => .nil
  | _ :: _, _ :: _, .cons ⟨t, e, h⟩ r => by
    subst e
    exact .cons (.tup h (.cons (.int _) (.cons (.str _) .nil))) (rps_of r)
theorem c_srtP {l : List (Int × List Nat)} : OpA K B (rSrtP K) [.lst (l.map prD)] true (fun d => d = .lst ((srtP l).map prD)) := fun R H vs A r Q q => by
  cases r with
  | cons r1 r =>
    cases r
    cases r1 with
    | lst h1 h2 =>
      have pr := prs_of h2
      refine ⟨_, _, l, era H R, rfl, .inl (.inl (era_sub _ _ _ _ h1)), fun a xs h => (era_sub _ _).t h, pr, fun zs p pz np => ?_⟩
      have rz := rps_of pz
      exact q _ _ _ (Go.new np) (.lst (A.new np) (rz.mono fun a o e _ => by
        obtain ⟨n, e⟩ := era_some e
        rw [era_in n, upd_ne (ne_of_none e np)]
        exact e)) (fun _ => New.laid A np rz) rfl
/-- tuple(xs) -/
theorem c_tupL {ds : List D} : OpA K B (fun xs H Q => ∃ p ys, xs = [.ref p] ∧ ((SqL K H p ys ∧ ∀ l, H l = none → Q (.ref l) (upd H l (.tup ys))) ∨ (SqT K H p ys ∧ Q (.ref p) H))) [.lst ds] false (fun d => d = .tup ds) := fun R H vs A r Q q => by
  cases r with
  | cons r1 r =>
    cases r
    cases r1 with
    | lst h1 h2 =>
      refine ⟨_, _, rfl, .inl ⟨.inl (.inl (era_sub _ _ _ _ h1)), fun p np => ?_⟩⟩
      refine q _ _ _ (Go.new np) (.tup (A.sqT np) (h2.mono fun a o e _ => ?_)) (fun z => absurd z (by simp)) rfl
      obtain ⟨n, e⟩ := era_some e
      rw [era_in n, upd_ne (ne_of_none e np)]
      exact e
/-- isinstance(x, (list, tuple)) -/
theorem kit_lt {K : PySem.W.Frag} {b : Bool} : PySem.W.kitAny K (.type (if b then "list" else "tuple")) [.type "list", .type "tuple"] = some true := by
  cases b with
  | true => exact kitAny_cons (b := true) (kit_ty (by decide +kernel)) (fun z => absurd z (by simp)) (fun _ => rfl)
  | false => exact kitAny_cons (b := false) (kit_ty (by decide +kernel)) (fun _ => kitAny_cons (b := true) (kit_ty (by decide +kernel)) (fun z => absurd z (by simp)) (fun _ => rfl)) (fun z => absurd z (by simp))
theorem ev_isiT {b : Bool} {ns : List Int} (h : EvD K E B m ss o0 te (iD b ns)) :
    EvD K E B m ss o0 (tCB (rIsiT K) (tCons te (tCons (tTup (tCons (tC (.ty "list")) (tCons (tC (.ty "tuple")) tNil))) tNil))) (.bl true) := fun Z os σ H io A Q q => by
  refine h Z os σ H io A _ fun v d H1 g r _ e => ?_
  subst e
  refine ⟨by show 2 ≤ sizeLine; decide, fun p np => ?_⟩
  have ty : TyX K H1 v (.type (if b then "list" else "tuple")) := r.ty (by cases b <;> rfl)
  have ty2 : TyX K (upd H1 p (.tup [.ty "list", .ty "tuple"])) v (.type (if b then "list" else "tuple")) := by
    cases b with
    | true =>
      have r : Rp K _ v (.lst (ns.map .int)) := r
      cases r with
      | lst h1 h2 => exact .base (.lst (by rw [upd_ne (ne_of_none (era_sub _ _ _ _ h1) np)]; exact era_sub _ _ _ _ h1))
    | false =>
      have r : Rp K _ v (.tup (ns.map .int)) := r
      cases r with
      | tup h1 h2 =>
        rcases (era_sub _ _).t h1 with (e | ⟨o, e⟩) | ⟨o, its, n, e1, e2, _⟩
        · exact .base (.tup (by rw [upd_ne (ne_of_none e np)]; exact e))
        · exact .fTuple (o := o) (by rw [upd_ne (ne_of_none e np)]; exact e)
        · exact .kTuple e1 e2
  exact ⟨_, _, _, _, [.type "list", .type "tuple"], true, rfl, upd_same, .cons (.ty _) (.cons (.ty _) .nil), ty2, kit_lt, q _ (.bl true) _ (g.trans (Go.new np)) (.bl true) (fun z => absurd z (by simp)) rfl⟩
/-- a <= b < c -/
theorem ev_chain {i j k : Int} (h1 : EvD K E B m ss o0 ta (.int i)) (h2 : EvD K E B m ss o0 tb (.int j)) (h3 : EvD K E B m ss o0 tc (.int k)) :
    EvD K E B m ss o0 (tChain (rI0 fun i j => .bl (decide (i ≤ j))) (rI0 fun i j => .bl (decide (i < j))) ta tb tc) (.bl (decide (i ≤ j) && decide (j < k))) := fun Z os σ H io A Q q => by
  refine h1 Z os σ H io A _ fun v d H1 g1 r1 _ e => ?_
  subst e
  cases r1
  refine h2 Z os σ H1 io (A.go g1) _ fun v d H2 g2 r2 _ e => ?_
  subst e
  cases r2
  refine ⟨i, j, rfl, rfl, _, rfl, ?_⟩
  have A2 := (A.go g1).go g2
  by_cases c : i ≤ j
  · rw [if_pos (by simpa using c)]
    refine h3 Z os σ H2 io A2 _ fun v d H3 g3 r3 _ e => ?_
    subst e
    cases r3
    exact ⟨j, k, rfl, rfl, q _ (.bl _) _ ((g1.trans g2).trans g3) (.bl _) (fun z => absurd z (by simp)) (by simp [c])⟩
  · rw [if_neg (by simpa using c)]
    exact q _ (.bl _) _ (g1.trans g2) (.bl _) (fun z => absurd z (by simp)) (by simp [c])
end
end Da
/-! defs that raise an own exception with one whole number, told by data; what an except suite asks of it -/
namespace Ks
open PySem PySem.Spec PyProof.Rows L2
section
variable {prog : Program} {w : World} {A : Around} {E : Value → Shared → Prop} {K : PySem.W.Frag}
/-- isinstance(x, C), x's class C itself -/
theorem same_answers {x c : Value} {H : Heap → Prop} (ty : ∀ (M : Model) (h : Heap), H h → PySem.W.Looks M h (typeOf x) c) : Answers (fun s => H s.heap) x c true := by
  intro dep tk prog w A R s hs
  obtain ⟨h0, g, d, tt, os⟩ := s
  obtain ⟨p, hq⟩ := hs
  have LT := ty (model prog w) h0 p
  unfold Builtin.«isinstance.nested»
  refine wpAny_bind (LT.at ?_)
  rw [if_pos (beq_self_eq_true c)]
  first
    | exact hq tt
    | exact wpAny_bind (wpAny_rule (hq tt))
    | exact wpAny_bind (wpAny_rule (wpAny_pure (hq tt)))
end
/-- isinstance(e, D), e the exception that the suite holds, of the class at D itself -/
def rIsJ (cls : Value) (D a : Addr) : List V → Hp → VK → Prop := fun xs H Q => xs = [.ref a, .ref D] ∧ cls = .ref D ∧ Q (.bl true) H
theorem call_isJ {X : Cx} {a D : Addr} {oe : Obj} {cls : Value} {d : Option Addr} {pn : List (Addr × Obj)} (hz : Zc cls d oe) : CallR (X.suite a ((a, oe) :: pn)) (.builtin "isinstance") (rIsJ cls D a) := by
  intro pins s σ H xs us Q I r h
  obtain ⟨rfl, rfl, q⟩ := h
  obtain ⟨u1, u2, rfl, r1, r2⟩ := vals2 r
  cases r1
  cases r2
  obtain ⟨hget, _⟩ := I.pin (a, oe) (List.mem_append.mpr (.inl List.mem_cons_self))
  have an : Answers (fun s => s.heap.get? a = some oe) (.ref a) (.ref D) true := same_answers (H := fun h => h.get? a = some oe) fun M h p A Q E s k q => wpAny_typeOf_ref (k _ _ p) (by rw [hz.1]; exact q)
  exact call_isinstance (S := fun _ R s => (s.heap.get? a = some oe) ∧ ∀ tk, R (.ok (.ret (.bool true))) { s with toks := tk })
    (fun prog w A R s hs => isinstance_outer (an 0 _ prog w A R s hs) (fun z => nomatch z)) ⟨hget, fun tk => ⟨.bl true, H, I.kept (t' := tk) fun _ _ z => z, rfl, q⟩⟩
end Ks
namespace Da
open PySem PySem.Spec L2 PyProof.Rows
variable [Tbs]
/-- an own __init__ of one field -/
def spInit (K : PySem.W.Frag) (fld : Str) : Sp := fun vs H Q _ => ∃ (a C : Addr) (y : V), vs = [.ref a, y] ∧ H a = some (exo a C none) ∧ OexC K C ∧ PySem.W.findIn K (.ref C) fld = some none ∧
  ∀ dx, H dx = none → dx ≠ a → Q .non (upd (upd H dx (exd dx [(fld, y)])) a (exo a C (some dx)))
/-- a def that may raise the class at C with a whole number -/
def SpR (K : PySem.W.Frag) (w : Bool) (pre : List D → Prop) (F : Bool) (post : List D → D → Prop) (C : Addr) (fld : Str) (ex : List D → Int → Prop) : Sp := fun vs H Q E => ∃ R ds, Rg (bagsOf w ds) R H ∧ RpAll K (era H R) vs ds ∧ pre ds ∧
  (∀ v d H', Go (bagsOf w ds) H H' → Rp K (era H' R) v d → (F = true → New K H H' R v d) → post ds d → Q v H') ∧
  ∀ i dx H', Go (bagsOf w ds) H H' → H' dx = some (.xd [(fld, .int i)]) → ex ds i → E (.ref C) (some dx) H'
section
variable {P : Program} {w : World} {K : PySem.W.Frag} {mg : Str → Option Value} {base : Heap}
theorem okDX {x qual : Str} {st : Stmt} {f C : Addr} {fd : FuncData} {N ps : List Str} {k : Nat} {wb : Bool} {pre : List D → Prop} {F : Bool} {post : List D → D → Prop} {fld : Str} {ex : List D → Int → Prop} (Fu : Fun K x qual st f fd) (S : FnScope N ps (defScope st)) (len : ∀ ds, pre ds → ds.length = ps.length)
    (hbody : ∀ (cdv : Value) (A : Around) (outer : List Env) (s : Shared) (H : Hp) (E : XK), Room k (A.deeper (envOfC qual (defScope st) s.heap.objs.size f cdv)) →
      ∃ t, PSs (cxOf (L2.CX P w) P w K mg base N qual (defScope st) f cdv A outer s H E) (defBody st) t ∧
        ∀ R ds σ Q, pre ds → Bags (bagsOf wb ds) R H → At K R (bagsOf wb ds) [(bagsOf wb ds, H)] (begin N ds) [] σ H → Tells K R (bagsOf wb ds) H F (post ds) Q →
          (∀ i dx H', Go (bagsOf wb ds) H H' → H' dx = some (.xd [(fld, .int i)]) → ex ds i → E (.ref C) (some dx) H') → t { nx := fun _ H' => Q .non H', rt := Q } σ H) :
    FnOk P w K mg base (L2.CX P w) (k + 1) f fd ps (SpR K wb pre F post C fld ex) := by
  refine Fu.okX S (fun vs H Q E h => ?_) (fun cdv A outer s H vs Q E hr h => ?_)
  · obtain ⟨R, ds, _, r, p, _⟩ := h
    rw [r.length]
    exact len ds p
  · obtain ⟨R, ds, rg, r, p, q, qx⟩ := h
    obtain ⟨t, ht, hq⟩ := hbody cdv A outer s H E hr
    exact ⟨t, ht, hq R ds _ Q p rg.bag (.start rg r) q qx⟩
end
section
variable {P : Program} {w : World} {K : PySem.W.Frag} {E B : List Addr} {Z : List (List Addr × Hp)} {ss : List Sl} {os o0 : Os} {σ : L2.St} {H H0 : Hp} {m F : Bool} {te : TE} {C : Addr} {fld : Str}
/-- raise C(i) -/
theorem s_raiseI {i : Int} {EX : XK} (A : At K E B Z ss os σ H) (hz : (B, H0) ∈ Z) (T : OexC K C) (hf : PySem.W.findIn K (.ref C) fld = some none) (h : EvD K E B false ss os te (.int i))
    (k : ∀ dx H', Go B H0 H' → H' dx = some (.xd [(fld, .int i)]) → EX (.ref C) (some dx) H') : tMkO C (spInit K fld) [] (tCons te tNil) σ H (fun cls d H' => EX cls d H') := by
  refine h Z os σ H (fun _ z => z) A _ fun v d H1 g r _ e => ?_
  subst e
  cases r
  refine ⟨by show (1 : Nat) ≤ 1000; decide, fun a na => ⟨a, C, .int i, rfl, upd_same, T, hf, fun dx nd ne => ⟨rfl, dx, [(fld, .int i)], upd_same, ?_, ?_, k dx _ ?_ upd_same⟩⟩⟩
  · rw [upd_ne ne]
    exact upd_same
  · rw [upd_ne ne] at nd
    exact nd
  · refine ((A.toGo hz).trans g).trans (Go.of fun x o e => ?_)
    have nx : x ≠ a := ne_of_none e na
    have n1 : H1 dx = none := by
      rw [upd_ne ne] at nd
      exact nd
    have nd2 : x ≠ dx := ne_of_none e n1
    rw [upd_ne nd2, del_ne nx, upd_ne nx, upd_ne nd2, upd_ne nx]
    exact e
/-- a call that may raise -/
theorem ev_callR {pre : List D → Prop} {post : List D → D → Prop} {wb : Bool} {ex : List D → Int → Prop} {t : TA} {ds : List D} {W : WX} (A : At K E B Z ss os σ H) (hi : ∀ x, x ∈ o0 → x ∈ os) (ha : EaD K E B m ss o0 t ds) (h1 : pre ds) (h2 : ∀ b, b ∈ bagsOf wb ds → b ∈ B) {Q : VK}
    (q : ∀ v d H', Go B H H' → Rp K (era H' (er m os E)) v d → post ds d → Q v H') (qx : ∀ i dx H', Go B H H' → H' dx = some (.xd [(fld, .int i)]) → ex ds i → W (.ref C) (some dx) σ H') :
    tCallS (SpR K wb pre F post C fld ex) (WE W) t σ H Q := by
  refine ha Z os σ H hi A _ fun vs ds' H1 g1 r1 e => ?_
  subst e
  have rg := (A.rg m).go g1
  have up : ∀ {H' : Hp}, Go (bagsOf wb ds') H1 H' → Go B H1 H' := fun {H'} g => ⟨fun a o n e => g.stp a o (fun z => n (h2 a z)) e, fun b hb l hg => by
      by_cases hw : b ∈ bagsOf wb ds'
      · exact g.bag b hw l hg
      · have hl : l ∉ bagsOf wb ds' := fun z => by
          obtain ⟨l', _, h'⟩ := rg.bag l (h2 l z)
          exact hg.ne h' rfl
        obtain ⟨x, c, k, ns, e1, e2, rr⟩ := hg
        exact ⟨x, c, k, ns, g.one hw e1 trivial, g.one hl e2 trivial, rr⟩, g.tab⟩
  exact ⟨er m os E, ds', ⟨fun b hb => rg.bE b (h2 b hb), fun b hb => rg.bag b (h2 b hb), rg.ent, rg.tab⟩, r1, h1, fun v d H' g r f p => q v d H' (g1.trans (up g)) r p, fun i dx H' g e x => qx i dx H' (g1.trans (up g)) e x⟩
end
end Da
/-! enumerate(zip(two lists)): the pairs that zip gives are kept, so that from the second turn on it makes new ones -/
namespace Da
open PySem PySem.Spec L2 PyProof.Rows
variable [Tbs]
/-- a zip, whatever it gave out before -/
abbrev ZCell (h : Heap) (z TI TO : Addr) (mark : Value) (f : Bool) : Prop :=
  h.get? z = some { cls := .type "zip", dict := none, data := .fields #[mark, .bool f, .bool false, .ref TI, .ref TO], slots := #[] }
def ZAny (h : Heap) (z TI TO : Addr) : Prop := ∃ mark f, ZCell h z TI TO mark f ∧ (mark = .none ∨ ∃ T : Addr, mark = rawInt T)
section
variable {prog : Program} {w : World} {A : Around} {E : Value → Shared → Prop} {s : Shared} {z TI TO i1 i2 l1 l2 : Addr}
theorem zip_free_step {j1 j2 : Nat} {xs ys : Array Value} {x y a b mark : Value} {f : Bool} {Q : Value → Shared → Prop} (D : ZipApart z TI TO i1 i2 l1 l2)
    (zc : ZCell s.heap z TI TO mark f) (free : ∀ Q : Bool → Shared → Prop, Q true s → wpAny (model prog w) A (Builtin.SmallTypes.ownedTupleIsFree (.ref z)) Q E s)
    (tin : IsPair s.heap TI (.ref i1) (.ref i2)) (tout : IsPair s.heap TO a b)
    (w1 : s.heap.IsListIter i1 l1 j1) (w2 : s.heap.IsListIter i2 l2 j2) (g1 : s.heap.IsList l1 xs) (g2 : s.heap.IsList l2 ys) (e1 : xs[j1]? = some x) (e2 : ys[j2]? = some y)
    (fin : ∀ h', ZCell h' z TI TO (rawInt s.heap.objs.size) false → IsPair h' TO x y → h'.IsListIter i1 l1 (j1 + 1) → h'.IsListIter i2 l2 (j2 + 1) → IsPair h' s.heap.objs.size x y → h'.objs.size = s.heap.objs.size + 1 →
      (∀ c o, c ≠ z → c ≠ TO → c ≠ i1 → c ≠ i2 → s.heap.get? c = some o → h'.get? c = some o) → Q (.ref s.heap.objs.size) { s with heap := h' }) :
    wpAny (model prog w) A (Builtin.«zip.__next__» ⟨[.ref z], []⟩) (fun r s' => ∃ v, r = .done (.ret v) ∧ Q v s') E s := by
  show wpAny _ _ (field (.ref z) 2 >>= _) _ _ _
  refine wpAny_bind (wpAny_field zc rfl (x := .bool false) rfl ?_)
  show wpAny _ _ (field (.ref z) 3 >>= _) _ _ _
  refine wpAny_bind (wpAny_field zc rfl (x := .ref TI) rfl ?_)
  refine wpAny_bind (wpAny_seqItems tin rfl ?_)
  refine wpAny_bind (free _ ?_)
  simp only [if_true]
  refine wpAny_bind (wpAny_rule ?_)
  refine wpAny_bind (wpAny_field zc rfl (x := .ref TO) rfl ?_)
  refine wpAny_bind (wpAny_setField_rec zc (by simp) fun m1 c1 n1 => ?_)
  replace c1 : ZCell m1 z TI TO .ellipsis f := c1
  refine wpAny_bind ?_
  simp only [List.zipIdx_cons, List.zipIdx_nil, List.forIn_cons, List.forIn_nil]
  refine wpAny_bind (wpAny_bind (wpAny_onRaise ?_))
  show wpAny _ _ (Builtin.SmallTypes.nextOf (.ref i1) >>= _) _ _ _
  refine wpAny_bind (wpAny_nextOf_list_item (w1.extBut n1.extBut D.i1z) (g1.extBut n1.extBut D.l1z) e1 fun m2 w1' n2 => wpAny_pure ?_)
  have t2 : IsPair m2 TO a b := n2.extBut _ _ D.TOi1 (n1.extBut _ _ D.TOz tout)
  refine wpAny_bind (wpAny_seqItems t2 rfl ?_)
  refine wpAny_bind (wpAny_updateSeq_pair t2 fun m3 t3 n3 => ?_)
  replace t3 : IsPair m3 TO x b := t3
  refine wpAny_bind (wpAny_letGo (wpAny_pure ?_))
  refine wpAny_bind (wpAny_bind (wpAny_onRaise ?_))
  show wpAny _ _ (Builtin.SmallTypes.nextOf (.ref i2) >>= _) _ _ _
  refine wpAny_bind (wpAny_nextOf_list_item (((w2.extBut n1.extBut D.i2z).extBut n2.extBut D.i12.symm).extBut n3.extBut D.TOi2.symm) (((g2.extBut n1.extBut D.l2z).extBut n2.extBut D.l2i1).extBut n3.extBut D.l2TO) e2 fun m4 w2' n4 => wpAny_pure ?_)
  have t4 : IsPair m4 TO x b := n4.extBut _ _ D.TOi2 t3
  refine wpAny_bind (wpAny_seqItems t4 rfl ?_)
  refine wpAny_bind (wpAny_updateSeq_pair t4 fun m5 t5 n5 => ?_)
  replace t5 : IsPair m5 TO x y := t5
  refine wpAny_bind (wpAny_letGo (wpAny_pure (wpAny_pure ?_)))
  refine wpAny_bind (wpAny_seqItems t5 rfl ?_)
  refine wpAny_bind (wpAny_newTuple ?_)
  have size : m5.objs.size = s.heap.objs.size := by rw [n5.1, n4.1, n3.1, n2.1, n1.1]
  have c5 : ZCell m5 z TI TO .ellipsis f := n5.extBut _ _ D.TOz.symm (n4.extBut _ _ D.i2z.symm (n3.extBut _ _ D.TOz.symm (n2.extBut _ _ D.i1z.symm c1)))
  have rest : ∀ c o, c ≠ z → c ≠ TO → c ≠ i1 → c ≠ i2 → s.heap.get? c = some o → m5.get? c = some o := fun c o q1 q2 q3 q4 e =>
    n5.extBut _ _ q2 (n4.extBut _ _ q4 (n3.extBut _ _ q2 (n2.extBut _ _ q3 (n1.extBut _ _ q1 e))))
  have w1f : m5.IsListIter i1 l1 (j1 + 1) := ((w1'.extBut n3.extBut D.TOi1.symm).extBut n4.extBut D.i12).extBut n5.extBut D.TOi1.symm
  have w2f : m5.IsListIter i2 l2 (j2 + 1) := w2'.extBut n5.extBut D.TOi2.symm
  have lz : z < m5.objs.size := Heap.lt_size c5
  show wpAny _ _ (Builtin.SmallTypes.ownedTupleHandOut (.ref z) (.ref m5.objs.size) >>= _) _ _ _
  refine wpAny_bind ?_
  unfold Builtin.SmallTypes.ownedTupleHandOut
  have c6 : ZCell (m5.push { cls := .type "tuple", data := .seq #[x, y] }) z TI TO .ellipsis f := Heap.get?_push_of_some _ c5
  refine wpAny_bind (wpAny_setField_rec c6 (by simp) fun m7 c7 n7 => ?_)
  replace c7 : ZCell m7 z TI TO (rawInt m5.objs.size) f := c7
  refine wpAny_setField_rec c7 (by simp) fun m8 c8 n8 => ?_
  replace c8 : ZCell m8 z TI TO (rawInt m5.objs.size) false := c8
  have on : ∀ c o, c ≠ z → m5.get? c = some o → m8.get? c = some o := fun c o q e => n8.extBut _ _ q (n7.extBut _ _ q (Heap.get?_push_of_some _ e))
  have p8 : IsPair m8 m5.objs.size x y := n8.extBut _ _ (Nat.ne_of_gt lz) (n7.extBut _ _ (Nat.ne_of_gt lz) (Heap.get?_push_size _ rfl))
  have s8 : m8.objs.size = m5.objs.size + 1 := by rw [n8.1, n7.1, Heap.size_push]
  rw [size] at c8 p8 s8
  refine wpAny_pure ⟨_, rfl, ?_⟩
  show Q (.ref m5.objs.size) _
  rw [size]
  exact fin m8 c8 (on _ _ D.TOz t5) (w1f.at fun o e => on _ o D.i1z e) (w2f.at fun o e => on _ o D.i2z e) p8 s8 fun c o q1 q2 q3 q4 e => on c o q1 (rest c o q1 q2 q3 q4 e)
theorem zip_free_end {j1 j2 : Nat} {xs ys : Array Value} {a b mark : Value} {f : Bool} {Q : Fin → Shared → Prop} (calm : A.handled = none) (D : ZipApart z TI TO i1 i2 l1 l2)
    (zc : ZCell s.heap z TI TO mark f) (free : ∀ Q : Bool → Shared → Prop, Q true s → wpAny (model prog w) A (Builtin.SmallTypes.ownedTupleIsFree (.ref z)) Q E s)
    (tin : IsPair s.heap TI (.ref i1) (.ref i2)) (tout : IsPair s.heap TO a b)
    (w1 : s.heap.IsListIter i1 l1 j1) (w2 : s.heap.IsListIter i2 l2 j2) (g1 : s.heap.IsList l1 xs) (g2 : s.heap.IsList l2 ys) (stop : xs[j1]? = none ∨ ys[j2]? = none)
    (fin : ∀ h' e, (∀ c o, c ≠ z → c ≠ TO → c ≠ i1 → c ≠ i2 → s.heap.get? c = some o → h'.get? c = some o) → (∃ o, h'.get? e = some o ∧ o.cls = .type "StopIteration") → E (.ref e) { s with heap := h' }) :
    wpAny (model prog w) A (Builtin.«zip.__next__» ⟨[.ref z], []⟩) Q E s := by
  show wpAny _ _ (field (.ref z) 2 >>= _) _ _ _
  refine wpAny_bind (wpAny_field zc rfl (x := .bool false) rfl ?_)
  show wpAny _ _ (field (.ref z) 3 >>= _) _ _ _
  refine wpAny_bind (wpAny_field zc rfl (x := .ref TI) rfl ?_)
  refine wpAny_bind (wpAny_seqItems tin rfl ?_)
  refine wpAny_bind (free _ ?_)
  simp only [if_true]
  refine wpAny_bind (wpAny_rule ?_)
  refine wpAny_bind (wpAny_field zc rfl (x := .ref TO) rfl ?_)
  refine wpAny_bind (wpAny_setField_rec zc (by simp) fun m1 c1 n1 => ?_)
  replace c1 : ZCell m1 z TI TO .ellipsis f := c1
  refine wpAny_bind ?_
  simp only [List.zipIdx_cons, List.zipIdx_nil, List.forIn_cons, List.forIn_nil]
  refine wpAny_bind (wpAny_bind (wpAny_onRaise ?_))
  show wpAny _ _ (Builtin.SmallTypes.nextOf (.ref i1) >>= _) _ _ _
  cases e1 : xs[j1]? with
  | none =>
    refine wpAny_bind (wpAny_nextOf_list_end calm (w1.extBut n1.extBut D.i1z) (g1.extBut n1.extBut D.l1z) e1 fun m2 e n2 he => ?_)
    obtain ⟨oe, ge, ce⟩ := he
    have c2 : ZCell m2 z TI TO .ellipsis f := n2 _ _ D.i1z.symm c1
    have ez : e ≠ z := fun q => by subst q; rw [c2] at ge; cases ge; simp at ce
    refine wpAny_setField_rec c2 (by simp) fun m3 _ n3 => ?_
    exact fin m3 e (fun c o q1 q2 q3 q4 g => n3.extBut _ _ q1 (n2 _ _ q3 (n1.extBut _ _ q1 g))) ⟨oe, n3.extBut _ _ ez ge, ce⟩
  | some x =>
    have e2 : ys[j2]? = none := by rcases stop with h | h; rw [e1] at h; cases h; exact h
    refine wpAny_bind (wpAny_nextOf_list_item (w1.extBut n1.extBut D.i1z) (g1.extBut n1.extBut D.l1z) e1 fun m2 w1' n2 => wpAny_pure ?_)
    have t2 : IsPair m2 TO a b := n2.extBut _ _ D.TOi1 (n1.extBut _ _ D.TOz tout)
    refine wpAny_bind (wpAny_seqItems t2 rfl ?_)
    refine wpAny_bind (wpAny_updateSeq_pair t2 fun m3 t3 n3 => ?_)
    refine wpAny_bind (wpAny_letGo (wpAny_pure ?_))
    refine wpAny_bind (wpAny_bind (wpAny_onRaise ?_))
    show wpAny _ _ (Builtin.SmallTypes.nextOf (.ref i2) >>= _) _ _ _
    refine wpAny_bind (wpAny_nextOf_list_end calm (((w2.extBut n1.extBut D.i2z).extBut n2.extBut D.i12.symm).extBut n3.extBut D.TOi2.symm) (((g2.extBut n1.extBut D.l2z).extBut n2.extBut D.l2i1).extBut n3.extBut D.l2TO) e2 fun m4 e n4 he => ?_)
    obtain ⟨oe, ge, ce⟩ := he
    have c4 : ZCell m4 z TI TO .ellipsis f := n4 _ _ D.i2z.symm (n3.extBut _ _ D.TOz.symm (n2.extBut _ _ D.i1z.symm c1))
    have ez : e ≠ z := fun q => by subst q; rw [c4] at ge; cases ge; simp at ce
    refine wpAny_setField_rec c4 (by simp) fun m5 _ n5 => ?_
    exact fin m5 e (fun c o q1 q2 q3 q4 g => n5.extBut _ _ q1 (n4 _ _ q4 (n3.extBut _ _ q2 (n2.extBut _ _ q3 (n1.extBut _ _ q1 g))))) ⟨oe, n5.extBut _ _ ez ge, ce⟩
theorem zip_free {mark : Value} {f : Bool} (zc : ZCell s.heap z TI TO mark f) (dead : mark = .none ∨ ∃ T : Addr, mark = rawInt T ∧ s.heap.get? T = none) (Q : Bool → Shared → Prop) (q : Q true s) :
    wpAny (model prog w) A (Builtin.SmallTypes.ownedTupleIsFree (.ref z)) Q E s := by
  unfold Builtin.SmallTypes.ownedTupleIsFree
  rcases dead with rfl | ⟨T, rfl, gone⟩
  · exact wpAny_bind (wpAny_field zc rfl (x := .none) rfl (wpAny_pure q))
  · refine wpAny_bind (wpAny_field zc rfl (x := rawInt T) rfl ?_)
    show wpAny _ _ (loadIfAlive ((T : Int).toNat) >>= _) _ _ _
    rw [Int.toNat_natCast]
    have q' : (fun (o : Option Obj) (s : Shared) => o = none ∧ Q true s) (s.heap.get? T) s := ⟨gone, q⟩
    refine wpAny_bind (m := loadIfAlive T) (wpAny_mono (Q := fun (o : Option Obj) (s : Shared) => o = none ∧ Q true s) (fun _ _ _ => q') (fun o s h => ?_) fun _ _ h => h)
    obtain ⟨rfl, h⟩ := h
    exact wpAny_pure h
theorem zip_any_step {j1 j2 : Nat} {xs ys : Array Value} {x y : Value} {Q : Value → Shared → Prop} (D : ZipApart z TI TO i1 i2 l1 l2)
    (za : ZAny s.heap z TI TO) (tin : IsPair s.heap TI (.ref i1) (.ref i2)) (tout : ∃ a b, IsPair s.heap TO a b)
    (w1 : s.heap.IsListIter i1 l1 j1) (w2 : s.heap.IsListIter i2 l2 j2) (g1 : s.heap.IsList l1 xs) (g2 : s.heap.IsList l2 ys) (e1 : xs[j1]? = some x) (e2 : ys[j2]? = some y)
    (fin : ∀ h', ZAny h' z TI TO → (∃ a b, IsPair h' TO a b) → h'.IsListIter i1 l1 (j1 + 1) → h'.IsListIter i2 l2 (j2 + 1) → IsPair h' s.heap.objs.size x y → h'.objs.size = s.heap.objs.size + 1 →
      (∀ c o, c ≠ z → c ≠ TO → c ≠ i1 → c ≠ i2 → s.heap.get? c = some o → h'.get? c = some o) → Q (.ref s.heap.objs.size) { s with heap := h' }) :
    wpAny (model prog w) A (Builtin.«zip.__next__» ⟨[.ref z], []⟩) (fun r s' => ∃ v, r = .done (.ret v) ∧ Q v s') E s := by
  obtain ⟨mark, f, zc, hm⟩ := za
  obtain ⟨a, b, tout⟩ := tout
  have free : (mark = .none ∨ ∃ T : Addr, mark = rawInt T ∧ s.heap.get? T = none) → wpAny (model prog w) A (Builtin.«zip.__next__» ⟨[.ref z], []⟩) (fun r s' => ∃ v, r = .done (.ret v) ∧ Q v s') E s := fun dead =>
    zip_free_step D zc (zip_free zc dead) tin tout w1 w2 g1 g2 e1 e2 fun h' c t v1 v2 p sz k => fin h' ⟨_, _, c, .inr ⟨_, rfl⟩⟩ ⟨_, _, t⟩ v1 v2 p sz k
  rcases hm with rfl | ⟨T, rfl⟩
  · exact free (.inl rfl)
  · cases hT : s.heap.get? T with
    | none => exact free (.inr ⟨T, rfl, hT⟩)
    | some oT => exact zip_next_item_held D zc hT tin w1 w2 g1 g2 e1 e2 fun h' c v1 v2 p sz k => fin h' ⟨_, _, c, .inr ⟨_, rfl⟩⟩ ⟨_, _, k _ _ D.TOz D.TOi1 D.TOi2 tout⟩ v1 v2 p sz fun c o q1 q2 q3 q4 g => k c o q1 q3 q4 g
theorem zip_any_end {j1 j2 : Nat} {xs ys : Array Value} {Q : Fin → Shared → Prop} (calm : A.handled = none) (D : ZipApart z TI TO i1 i2 l1 l2)
    (za : ZAny s.heap z TI TO) (tin : IsPair s.heap TI (.ref i1) (.ref i2)) (tout : ∃ a b, IsPair s.heap TO a b)
    (w1 : s.heap.IsListIter i1 l1 j1) (w2 : s.heap.IsListIter i2 l2 j2) (g1 : s.heap.IsList l1 xs) (g2 : s.heap.IsList l2 ys) (stop : xs[j1]? = none ∨ ys[j2]? = none)
    (fin : ∀ h' e, (∀ c o, c ≠ z → c ≠ TO → c ≠ i1 → c ≠ i2 → s.heap.get? c = some o → h'.get? c = some o) → (∃ o, h'.get? e = some o ∧ o.cls = .type "StopIteration") → E (.ref e) { s with heap := h' }) :
    wpAny (model prog w) A (Builtin.«zip.__next__» ⟨[.ref z], []⟩) Q E s := by
  obtain ⟨mark, f, zc, hm⟩ := za
  obtain ⟨a, b, tout⟩ := tout
  have free : (mark = .none ∨ ∃ T : Addr, mark = rawInt T ∧ s.heap.get? T = none) → wpAny (model prog w) A (Builtin.«zip.__next__» ⟨[.ref z], []⟩) Q E s := fun dead =>
    zip_free_end calm D zc (zip_free zc dead) tin tout w1 w2 g1 g2 stop fin
  rcases hm with rfl | ⟨T, rfl⟩
  · exact free (.inl rfl)
  · cases hT : s.heap.get? T with
    | none => exact free (.inr ⟨T, rfl, hT⟩)
    | some oT => exact zip_next_end_held calm D zc hT tin w1 w2 g1 g2 stop fun h' e k he => fin h' e (fun c o q1 q2 q3 q4 g => k c o q1 q3 q4 g) he

/-- the parts of an enumerate over a zip -/
structure EZ (h : Heap) (e z TI TO i1 i2 l1 l2 : Addr) (i : Nat) : Prop where
  en : ∃ old, IsEnum h e z ((i : Nat) : Int) old
  za : ZAny h z TI TO
  tin : IsPair h TI (.ref i1) (.ref i2)
  tout : ∃ a b, IsPair h TO a b
  w1 : h.IsListIter i1 l1 i
  w2 : h.IsListIter i2 l2 i
structure EApart (e z TI TO i1 i2 : Addr) : Prop where
  z : z ≠ e
  TI : TI ≠ e
  TO : TO ≠ e
  i1 : i1 ≠ e
  i2 : i2 ≠ e
theorem nextOf_zip {e : Addr} {Q : Value → Shared → Prop} (za : ZAny s.heap z TI TO)
    (h : wpAny (model prog w) A.in1 (Builtin.«zip.__next__» ⟨[.ref z], []⟩) (fun r s' => ∃ v, r = .done (.ret v) ∧ Q v s') E s) : wpAny (model prog w) A (Builtin.SmallTypes.nextOf (.ref z)) Q E s := by
  obtain ⟨mark, f, zc, _⟩ := za
  have ty : s.TypeIs (.ref z) "zip" := ⟨_, zc, rfl⟩
  unfold Builtin.SmallTypes.nextOf
  refine wpAny_bind (wpAny_callSpecial?_slot (name := Str.ofString "__next__") ty F.slot_zip_next (wpAny_call_entry F.slot_zip_next ty F.entry_zip_next (wpAny_mono h (fun r s' ⟨v, e, q⟩ => ⟨v, e, wpAny_pure q⟩) fun _ _ h => h) (F.args_zip_next_1 _)))
theorem enum_zip_step {e : Addr} {j : Nat} {xs ys : Array Value} {x y : Value} {Q : Value → Shared → Prop} (D : ZipApart z TI TO i1 i2 l1 l2) (ne : EApart e z TI TO i1 i2) (S : EZ s.heap e z TI TO i1 i2 l1 l2 j)
    (g1 : s.heap.IsList l1 xs) (g2 : s.heap.IsList l2 ys) (e1 : xs[j]? = some x) (e2 : ys[j]? = some y)
    (fin : ∀ h', IsEnumOut h' e z ((j + 1 : Nat) : Int) (.ref s.heap.objs.size) (s.heap.objs.size + 1) → ZAny h' z TI TO → IsPair h' TI (.ref i1) (.ref i2) → (∃ a b, IsPair h' TO a b) → h'.IsListIter i1 l1 (j + 1) → h'.IsListIter i2 l2 (j + 1) →
      IsPair h' s.heap.objs.size x y → IsPair h' (s.heap.objs.size + 1) (.int j s.toks) (.ref s.heap.objs.size) → (∀ c o, c ≠ e → c ≠ z → c ≠ TO → c ≠ i1 → c ≠ i2 → s.heap.get? c = some o → h'.get? c = some o) →
      Q (.ref (s.heap.objs.size + 1)) { s with heap := h', toks := s.toks + 1 }) :
    wpAny (model prog w) A (Builtin.«enumerate.__next__» ⟨[.ref e], []⟩) (fun r s' => ∃ v, r = .done (.ret v) ∧ Q v s') E s := by
  obtain ⟨⟨old, he⟩, za, tin, tout, w1, w2⟩ := S
  have le : e < s.heap.objs.size := Heap.lt_size he
  show wpAny _ _ (field (.ref e) 2 >>= _) _ _ _
  refine wpAny_bind (wpAny_field he rfl (x := .ref z) rfl ?_)
  refine wpAny_bind (nextOf_zip (e := e) za (zip_any_step D za tin tout w1 w2 g1 g2 e1 e2 fun m1 za1 tout1 v1 v2 p1 sz1 k1 => ?_))
  have k1' : ∀ c o, c ≠ z → c ≠ TO → c ≠ i1 → c ≠ i2 → s.heap.get? c = some o → m1.get? c = some o := k1
  have he1 : IsEnum m1 e z ((j : Nat) : Int) old := k1 _ _ ne.z.symm ne.TO.symm ne.i1.symm ne.i2.symm he
  have tin1 : IsPair m1 TI (.ref i1) (.ref i2) := k1 _ _ D.TIz D.TITO D.TIi1 D.TIi2 tin
  show wpAny _ _ (field (.ref e) 3 >>= _) _ _ { s with heap := m1 }
  refine wpAny_bind (wpAny_field he1 rfl (x := rawInt ((j : Nat) : Int)) rfl ?_)
  show wpAny _ _ (field (.ref e) 4 >>= _) _ _ { s with heap := m1 }
  refine wpAny_bind (wpAny_field he1 rfl (x := .none) rfl ?_)
  show wpAny _ _ (mkInt ((j : Nat) : Int) >>= _) _ _ { s with heap := m1 }
  refine wpAny_bind (wpAny_mkInt ?_)
  show wpAny _ _ (setField (.ref e) 3 (rawInt (((j : Nat) : Int) + 1)) >>= _) _ _ { s with heap := m1, toks := s.toks + 1 }
  refine wpAny_bind (wpAny_setField_rec he1 (by simp) fun m2 he2 n2 => ?_)
  replace n2 : Heap.SameBut e m1 m2 := n2
  replace he2 : IsEnum m2 e z (((j : Nat) : Int) + 1) old := he2
  show wpAny _ _ (setField (.ref e) 4 .none >>= _) _ _ { s with heap := m2, toks := s.toks + 1 }
  refine wpAny_bind (wpAny_setField_rec he2 (by simp) fun m3 he3 n3 => ?_)
  replace n3 : Heap.SameBut e m2 m3 := n3
  replace he3 : IsEnum m3 e z (((j : Nat) : Int) + 1) old := he3
  show wpAny _ _ (newTuple [.int j s.toks, .ref s.heap.objs.size] >>= _) _ _ { s with heap := m3, toks := s.toks + 1 }
  refine wpAny_bind (wpAny_newTuple ?_)
  have s3 : m3.objs.size = s.heap.objs.size + 1 := by rw [n3.1, n2.1, sz1]
  have he4 : IsEnum (m3.push { cls := .type "tuple", data := .seq #[.int j s.toks, .ref s.heap.objs.size] }) e z (((j : Nat) : Int) + 1) old := Heap.get?_push_of_some _ he3
  have p4 : (m3.push { cls := .type "tuple", data := .seq #[.int j s.toks, .ref s.heap.objs.size] }).get? (s.heap.objs.size + 1) = some { cls := .type "tuple", data := .seq #[.int j s.toks, .ref s.heap.objs.size] } := by
    rw [← s3]
    exact Heap.get?_push_size _ rfl
  have on4 : ∀ c o, c ≠ e → m1.get? c = some o → (m3.push { cls := .type "tuple", data := .seq #[.int j s.toks, .ref s.heap.objs.size] }).get? c = some o := fun c o q g => Heap.get?_push_of_some _ (n3.extBut _ _ q (n2.extBut _ _ q g))
  generalize m3.push { cls := .type "tuple", data := .seq #[.int j s.toks, .ref s.heap.objs.size] } = m4 at he4 p4 on4
  show wpAny _ _ (Builtin.SmallTypes.ownedTupleIsFree (.ref e) >>= _) _ _ { s with heap := m4, toks := s.toks + 1 }
  rw [s3]
  refine wpAny_bind ?_
  unfold Builtin.SmallTypes.ownedTupleIsFree
  refine wpAny_bind (wpAny_field he4 rfl (x := .none) rfl (wpAny_pure ?_))
  simp only [if_true]
  refine wpAny_bind (wpAny_rule ?_)
  refine wpAny_bind (wpAny_field he4 rfl (x := old) rfl ?_)
  refine wpAny_bind (wpAny_setField_rec he4 (by simp) fun m5 he5 n5 => ?_)
  replace n5 : Heap.SameBut e m4 m5 := n5
  replace he5 : IsEnum m5 e z (((j : Nat) : Int) + 1) (.ref s.heap.objs.size) := he5
  show wpAny _ _ (Builtin.SmallTypes.ownedTupleHandOut (.ref e) (.ref (s.heap.objs.size + 1)) >>= _) _ _ { s with heap := m5, toks := s.toks + 1 }
  refine wpAny_bind ?_
  unfold Builtin.SmallTypes.ownedTupleHandOut
  refine wpAny_bind (wpAny_setField_rec he5 (by simp) fun m6 he6 n6 => ?_)
  replace n6 : Heap.SameBut e m5 m6 := n6
  replace he6 : IsEnumOut m6 e z (((j : Nat) : Int) + 1) (.ref s.heap.objs.size) (s.heap.objs.size + 1) := he6
  refine wpAny_setField_rec he6 (by simp) fun m7 he7 n7 => ?_
  replace n7 : Heap.SameBut e m6 m7 := n7
  replace he7 : IsEnumOut m7 e z (((j : Nat) : Int) + 1) (.ref s.heap.objs.size) (s.heap.objs.size + 1) := he7
  have on : ∀ c o, c ≠ e → m1.get? c = some o → m7.get? c = some o := fun c o q g => n7.extBut _ _ q (n6.extBut _ _ q (n5.extBut _ _ q (on4 c o q g)))
  have lt : ∀ {c o}, s.heap.get? c = some o → c ≠ e → m1.get? c = some o → m7.get? c = some o := fun _ q g => on _ _ q g
  have up : ((j + 1 : Nat) : Int) = ((j : Nat) : Int) + 1 := by omega
  refine wpAny_bind (wpAny_letGo (wpAny_pure ⟨_, rfl, fin m7 (by rw [up]; exact he7) ?_ (on _ _ ne.TI tin1) ?_ (v1.at fun o g => on _ o ne.i1 g) (v2.at fun o g => on _ o ne.i2 g) (on _ _ (Nat.ne_of_gt le) p1) ?_ fun c o q1 q2 q3 q4 q5 g => on c o q1 (k1' c o q2 q3 q4 q5 g)⟩))
  · obtain ⟨mark, f, zc, hm⟩ := za1
    exact ⟨mark, f, on _ _ ne.z zc, hm⟩
  · obtain ⟨a, b, t⟩ := tout1
    exact ⟨a, b, on _ _ ne.TO t⟩
  · have far : s.heap.objs.size + 1 ≠ e := Nat.ne_of_gt (Nat.lt_succ_of_lt le)
    exact n7.extBut _ _ far (n6.extBut _ _ far (n5.extBut _ _ far p4))
theorem next_enum_zip {e : Addr} {j : Nat} {xs ys : Array Value} {x y : Value} {Q : Option Value → Shared → Prop} (D : ZipApart z TI TO i1 i2 l1 l2) (ne : EApart e z TI TO i1 i2) (S : EZ s.heap e z TI TO i1 i2 l1 l2 j)
    (g1 : s.heap.IsList l1 xs) (g2 : s.heap.IsList l2 ys) (e1 : xs[j]? = some x) (e2 : ys[j]? = some y)
    (fin : ∀ h', IsEnumOut h' e z ((j + 1 : Nat) : Int) (.ref s.heap.objs.size) (s.heap.objs.size + 1) → ZAny h' z TI TO → IsPair h' TI (.ref i1) (.ref i2) → (∃ a b, IsPair h' TO a b) → h'.IsListIter i1 l1 (j + 1) → h'.IsListIter i2 l2 (j + 1) →
      IsPair h' s.heap.objs.size x y → IsPair h' (s.heap.objs.size + 1) (.int j s.toks) (.ref s.heap.objs.size) → (∀ c o, c ≠ e → c ≠ z → c ≠ TO → c ≠ i1 → c ≠ i2 → s.heap.get? c = some o → h'.get? c = some o) →
      Q (some (.ref (s.heap.objs.size + 1))) { s with heap := h', toks := s.toks + 1 }) : wpAny (model prog w) A (pyNext (.ref e)) Q E s := by
  have ty : s.TypeIs (.ref e) "enumerate" := by obtain ⟨_, he⟩ := S.en; exact ⟨_, he, rfl⟩
  unfold pyNext
  exact wpAny_bind (wpAny_attempt (wpAny_callSpecial?_slot (name := Str.ofString "__next__") ty F.slot_enumerate_next (wpAny_call_entry F.slot_enumerate_next ty F.entry_enumerate_next
    (enum_zip_step D ne S g1 g2 e1 e2 fun h' a1 a2 a3 a4 a5 a6 a7 a8 a9 => wpAny_pure (fin h' a1 a2 a3 a4 a5 a6 a7 a8 a9)) (F.args_enumerate_next_1 _))))
theorem next_enum_zip_end {e : Addr} {j : Nat} {xs ys : Array Value} {Q : Option Value → Shared → Prop} (calm : A.handled = none) (D : ZipApart z TI TO i1 i2 l1 l2) (ne : EApart e z TI TO i1 i2) (S : EZ s.heap e z TI TO i1 i2 l1 l2 j)
    (g1 : s.heap.IsList l1 xs) (g2 : s.heap.IsList l2 ys) (stop : xs[j]? = none ∨ ys[j]? = none)
    (fin : ∀ h', (∀ c o, c ≠ e → c ≠ z → c ≠ TO → c ≠ i1 → c ≠ i2 → s.heap.get? c = some o → h'.get? c = some o) → Q none { s with heap := h' }) : wpAny (model prog w) A (pyNext (.ref e)) Q E s := by
  obtain ⟨⟨old, he⟩, za, tin, tout, w1, w2⟩ := S
  have ty : s.TypeIs (.ref e) "enumerate" := ⟨_, he, rfl⟩
  unfold pyNext
  refine wpAny_bind (wpAny_attempt (wpAny_callSpecial?_slot (name := Str.ofString "__next__") ty F.slot_enumerate_next (wpAny_call_entry F.slot_enumerate_next ty F.entry_enumerate_next ?_ (F.args_enumerate_next_1 _))))
  show wpAny _ _ (field (.ref e) 2 >>= _) _ _ _
  refine wpAny_bind (wpAny_field he rfl (x := .ref z) rfl ?_)
  refine wpAny_bind (nextOf_zip (e := e) za (zip_any_end calm D za tin tout w1 w2 g1 g2 stop fun h' x k hx => ?_))
  obtain ⟨o, go, hc⟩ := hx
  refine wpAny_bind (wpAny_isInstance (T := "StopIteration") (b := true) ⟨o, go, hc⟩ isSubtype_stop ?_)
  exact wpAny_pure (fin _ fun c o _ q2 q3 q4 q5 g => k c o q2 q3 q4 q5 g)
theorem new_enum_zip (z TI TO : Addr) (f0 : Value) :
    Meets (Builtin.«enumerate.__new__» ⟨[.type "enumerate", .ref z], []⟩) (fun _ R s => IsZip s.heap z TI TO f0 ∧
      R (.ok (.ret (.ref s.heap.objs.size))) { s with heap := s.heap.push { cls := .type "enumerate", data := .fields #[.none, .bool false, .ref z, rawInt 0, .none, .none] } }) :=
  .of_wp fun prog w A R s h => by
    obtain ⟨hp, g, d, tk, os⟩ := s; obtain ⟨hz, h⟩ := h
    have sub := sub_enumerate
    have hz : IsZip (Shared.heap ⟨hp, g, d, tk, os⟩) z TI TO f0 := hz
    wp_walk using AutoSeq1.wpAny_loadPart' hz
    refine wpAny_stack_any fun st => wpAny_pure ?_
    split
    · rename_i c _ _ _ _ _
      cases (c == Value.type "enumerate")
      · wp_walk using AutoSeq1.wpAny_loadPart' hz, wpAny_pyIter_zip hz
        exact ⟨_, rfl, h⟩
      · wp_walk using AutoSeq1.wpAny_loadPart' hz, wpAny_pyIter_zip hz
        exact ⟨_, rfl, h⟩
    · wp_walk using AutoSeq1.wpAny_loadPart' hz, wpAny_pyIter_zip hz
      exact ⟨_, rfl, h⟩
theorem call_enum_zip {f0 : Value} {Q : Value → Shared → Prop} (hz : IsZip s.heap z TI TO f0)
    (fin : ∀ h', IsEnum h' s.heap.objs.size z 0 .none → h'.objs.size = s.heap.objs.size + 1 → (∀ b o, s.heap.get? b = some o → h'.get? b = some o) → Q (.ref s.heap.objs.size) { s with heap := h' }) :
    wpAny (model prog w) A (call (.type "enumerate") [.ref z]) Q E s := by
  refine callType_new F.called_enumerate (by decide) (F.typeCall_enumerate_1 _) (F.newCall_enumerate_1 _) (fun obj => F.args_object_init_2 obj _) F.entry_enumerate_new (new_enum_zip z TI TO f0) ⟨hz, ?_⟩
  have he : IsEnum (s.heap.push { cls := .type "enumerate", data := .fields #[.none, .bool false, .ref z, rawInt 0, .none, .none] }) s.heap.objs.size z 0 .none := Heap.get?_push_size _ rfl
  exact ⟨⟨_, he, rfl⟩, fin _ he (Heap.size_push ..) fun b o g => Heap.get?_push_of_some _ g⟩
end

/-- i and the pair of xs[i], ys[i]; the pair is new, too -/
def IteZ (K : PySem.W.Frag) (a b : Addr) : It :=
  ⟨fun i H => ∃ (xs ys : List V) (x y : V), SqL K H a xs ∧ SqL K H b ys ∧ xs[i]? = some x ∧ ys[i]? = some y,
    fun i H v H' => ∃ T T2 x y, v = .ref T2 ∧ H T = none ∧ H T2 = none ∧ T ≠ T2 ∧ H' = upd (upd H T (.tup [x, y])) T2 (.tup [.int (i : Nat), .ref T]) ∧ (∀ xs, SqL K H a xs → xs[i]? = some x) ∧ ∀ ys, SqL K H b ys → ys[i]? = some y,
    fun i H => ∃ xs ys : List V, SqL K H a xs ∧ SqL K H b ys ∧ (xs.length ≤ i ∨ ys.length ≤ i)⟩
theorem EZ.big {h : Heap} {e z TI TO i1 i2 l1 l2 : Addr} {i : Nat} (S : EZ h e z TI TO i1 i2 l1 l2 i) : ∀ b ∈ [e, z, TI, TO, i1, i2], ∃ o, h.get? b = some o ∧ ∀ v, o.data ≠ .cell v := fun b hb => by
  obtain ⟨⟨old, he⟩, ⟨mk, f, zc, _⟩, tin, ⟨x, y, tout⟩, ⟨o1, q1, _, d1⟩, ⟨o2, q2, _, d2⟩⟩ := S
  simp only [List.mem_cons, List.not_mem_nil, or_false] at hb
  rcases hb with rfl | rfl | rfl | rfl | rfl | rfl
  · exact ⟨_, he, fun v q => nomatch q⟩
  · exact ⟨_, zc, fun v q => nomatch q⟩
  · exact ⟨_, tin, fun v q => nomatch q⟩
  · exact ⟨_, tout, fun v q => nomatch q⟩
  · exact ⟨o1, q1, fun v q => by rw [d1] at q; cases q⟩
  · exact ⟨o2, q2, fun v q => by rw [d2] at q; cases q⟩
theorem turn_enum_zip {P : Program} {w : World} {K : PySem.W.Frag} {elts : List Expr} {kk : Nat} {tpos : Pos} {a b e z TI TO i1 i2 : Addr} (D : ZipApart z TI TO i1 i2 a b) (ne : EApart e z TI TO i1 i2) :
    Turn P w K (.Tuple elts kk tpos) (IteZ K a b) [e, z, TI, TO, i1, i2] e (fun i h => EZ h e z TI TO i1 i2 a b i) where
  mem := List.mem_cons_self
  obj := fun i h st => st.big
  keep := fun i h h' st stay => by
    obtain ⟨⟨old, he⟩, ⟨mk, f, zc, hm⟩, tin, ⟨x, y, tout⟩, w1, w2⟩ := st
    exact ⟨⟨old, stay e (by simp) _ he⟩, ⟨mk, f, stay z (by simp) _ zc, hm⟩, stay TI (by simp) _ tin, ⟨x, y, stay TO (by simp) _ tout⟩, w1.at fun o q => stay i1 (by simp) o q, w2.at fun o q => stay i2 (by simp) o q⟩
  item := by
    intro X hP hw hK calm i pins s σ H E I far st go
    subst hP hw hK
    obtain ⟨xs, ys, x, y, hqx, hqy, hx, hy⟩ := go
    obtain ⟨its, rv, p, _⟩ := I.list hqx
    obtain ⟨its2, rv2, p2, _⟩ := I.list hqy
    obtain ⟨u, hu, ru⟩ := rv.get hx
    obtain ⟨u2, hu2, ru2⟩ := rv2.get hy
    have low : ∀ b ∈ [e, z, TI, TO, i1, i2], b < s.heap.objs.size := fun b hb => by obtain ⟨o, g, _⟩ := st.big b hb; exact Heap.lt_size g
    have le : e < s.heap.objs.size := low e (by simp)
    refine next_enum_zip D ne st p.isList p2.isList (x := u) (y := u2) (by simpa using hu) (by simpa using hu2) fun h1 out za tin tout w1 w2 pr pr2 stay => ?_
    refine ⟨_, rfl, wpAny_letOwnedTupleGo_enum (s := { s with heap := h1, toks := s.toks + 1 }) out fun h2 he2 same => ?_⟩
    have on : ∀ c o, c ≠ e → h1.get? c = some o → h2.get? c = some o := fun c o q g => (same.2 c q).trans g
    have f1 : H s.heap.objs.size = none := I.hok.fresh (Nat.le_refl _)
    have f2 : H (s.heap.objs.size + 1) = none := I.hok.fresh (Nat.le_succ _)
    have pr' : h2.get? s.heap.objs.size = some { cls := .type "tuple", data := .seq #[u, u2] } := on _ _ (Nat.ne_of_gt le) pr
    have pr2' : h2.get? (s.heap.objs.size + 1) = some { cls := .type "tuple", data := .seq #[.int i s.toks, .ref s.heap.objs.size] } := on _ _ (Nat.ne_of_gt (Nat.lt_succ_of_lt le)) pr2
    have rest : ∀ c o, c ∉ [e, z, TI, TO, i1, i2] → s.heap.get? c = some o → h2.get? c = some o := fun c o hc g =>
      on c o (fun q => hc (by simp [q])) (stay c o (fun q => hc (by simp [q])) (fun q => hc (by simp [q])) (fun q => hc (by simp [q])) (fun q => hc (by simp [q])) (fun q => hc (by simp [q])) g)
    have Im : Inv X pins σ (upd H s.heap.objs.size (.tup [x, y])) { s with heap := s.heap.push { cls := .type "tuple", data := .seq #[u, u2] }, toks := s.toks } :=
      I.laid (fun b v g => Heap.get?_push_of_some _ g) (Nat.le_refl _) ⟨by show 2 ≤ sizeLine; decide, [u, u2], .cons ru (.cons ru2 .nil), ⟨_, Heap.get?_push_size _ rfl, rfl, _, rfl⟩⟩
    have ne2 : ∀ b ∈ [e, z, TI, TO, i1, i2], b ≠ s.heap.objs.size := fun b hb => Nat.ne_of_lt (low b hb)
    have I3 : Inv X pins σ (upd (upd H s.heap.objs.size (.tup [x, y])) (s.heap.objs.size + 1) (.tup [.int (i : Nat), .ref s.heap.objs.size])) { s with heap := h2, toks := s.toks + 1 } :=
      Im.turnedNew (ch := [e, z, TI, TO, i1, i2]) (fun c o hc g => by
        replace g : (s.heap.push { cls := .type "tuple", data := .seq #[u, u2] }).get? c = some o := g
        by_cases q : c = s.heap.objs.size
        · rw [q, Heap.get?_push_size _ rfl] at g
          rw [q, pr']
          exact g
        · exact rest c o hc (by rwa [Heap.get?_push_ne _ _ _ q] at g))
        (fun b hb => by
          obtain ⟨q0, q⟩ := far b hb
          exact ⟨by rw [upd_ne (ne2 b hb)]; exact q0, q⟩)
        (by show (s.heap.push _).objs.size ≤ _; rw [Heap.size_push]; exact Nat.le_refl _)
        ⟨by show 2 ≤ sizeLine; decide, [.int i s.toks, .ref s.heap.objs.size], .cons ⟨_, rfl⟩ (.cons rfl .nil), ⟨_, pr2', rfl, _, rfl⟩⟩
    refine ⟨.ref (s.heap.objs.size + 1), _, I3, rfl, ⟨_, _, x, y, rfl, f1, f2, Nat.ne_of_lt (Nat.lt_succ_self _), rfl, fun l hl => by rw [I.list_inj hl hqx]; exact hx, fun l hl => by rw [I.list_inj hl hqy]; exact hy⟩, ⟨⟨_, he2⟩, ?_, on _ _ ne.TI tin, ?_, w1.at fun o g => on _ o ne.i1 g, w2.at fun o g => on _ o ne.i2 g⟩, fun b hb => ?_⟩
    · obtain ⟨mk, f, zc, hm⟩ := za
      exact ⟨mk, f, on _ _ ne.z zc, hm⟩
    · obtain ⟨p1, p2, t⟩ := tout
      exact ⟨p1, p2, on _ _ ne.TO t⟩
    · rw [upd_ne (Nat.ne_of_lt (Nat.lt_succ_of_lt (low b hb))), upd_ne (ne2 b hb)]
      exact (far b hb).1
  done := by
    intro X hP hw hK calm i pins s σ H E I far st stop
    subst hP hw hK
    obtain ⟨xs, ys, hqx, hqy, hend⟩ := stop
    obtain ⟨its, rv, p, _⟩ := I.list hqx
    obtain ⟨its2, rv2, p2, _⟩ := I.list hqy
    have l1 := rv.length
    have l2 := rv2.length
    have he : its.toArray[i]? = none ∨ its2.toArray[i]? = none := by
      rcases hend with q | q
      · exact .inl (by simp; omega)
      · exact .inr (by simp; omega)
    exact next_enum_zip_end (I.ok.hd calm) D ne st p.isList p2.isList he fun h' stay => ⟨rfl, I.turnedL (t' := s.toks) (ch := [e, z, TI, TO, i1, i2]) (fun c o hc g =>
      stay c o (fun q => hc (by simp [q])) (fun q => hc (by simp [q])) (fun q => hc (by simp [q])) (fun q => hc (by simp [q])) (fun q => hc (by simp [q])) g) far⟩
  self := fun A i s Q E st h => by
    obtain ⟨_, he⟩ := st.en
    exact wpAny_pyIter_enum he h
def iEnumZ (K : PySem.W.Frag) (ta : TA) : TI := fun σ H R => ta σ H fun vs H1 => ∃ a b xs ys, vs = [.ref a, .ref b] ∧ SqL K H1 a xs ∧ SqL K H1 b ys ∧ R (IteZ K a b) H1
theorem pi_enum_zip {X : Cx} {e e2 : Expr} {ta : TA} {p p' pos pos' tpos : Pos} {elts : List Expr} {kk : Nat} (hg : Gl X "enumerate") (hm : X.mg "enumerate" = none) (hgz : Gl X "zip") (hmz : X.mg "zip" = none) (ha : PA X [e, e2] ta)
    (hs : starEach [e, e2] X.env = (false, eval e X.env) :: starEach [e2] X.env := by rfl) (hpl : (backTo pos' (starEach [e2] X.env)).any (·.1) = false := by rfl)
    (hs1 : starEach [.Call (.Name "zip" p') [e, e2] [] pos'] X.env = [(false, eval (.Call (.Name "zip" p') [e, e2] [] pos') X.env)] := by rfl) :
    PI X (.Tuple elts kk tpos) (.Call (.Name "enumerate" p) [.Call (.Name "zip" p') [e, e2] [] pos'] [] pos) (iEnumZ X.K ta) := by
  refine ⟨fun pins s σ H R I h => ?_⟩
  refine Call_ (ld_blt I hg hm boot_enumerate (PyProof.Rows.callWith_type1 ?_ hs1 rfl))
  rw [hs1]
  refine Calls.spliced_cons ?_
  refine Call_ (ld_blt I hgz hmz PyProof.Rows.boot_zip (PyProof.Rows.callWith_type1 (thn (ha.run pos' pins s σ H _ I h) fun us s1 ⟨vs, H1, I1, r1, q1⟩ => ?_) hs hpl))
  obtain ⟨a, b, xs, ys, rfl, hqx, hqy, q⟩ := q1
  cases r1 with
  | cons r rr =>
    cases rr with
    | cons r' rr =>
      cases rr
      cases r
      cases r'
      obtain ⟨its, rv, p1, _⟩ := I1.list hqx
      obtain ⟨its2, rv2, p2, _⟩ := I1.list hqy
      refine call_zip_2 p1.isList p2.isList fun m1 hz hTI hTO h1 h2 hsz hk => Calls.spliced_nil ?_
      refine call_enum_zip (s := { s1 with heap := m1 }) hz fun m2 he hsz2 hk2 => wpAny_pyIter_enum he ?_
      have I2 : Inv X pins σ H1 { s1 with heap := m2 } := I1.kept (t' := s1.toks) fun b o g => hk2 b o (hk b o g)
      have e5 : m1.objs.size = s1.heap.objs.size + 5 := hsz
      have he : IsEnum m2 (s1.heap.objs.size + 5) (s1.heap.objs.size + 4) 0 .none := by rw [← e5]; exact he
      show PIE X pins σ _ R (.ref m1.objs.size) { s1 with heap := m2 }
      rw [e5]
      refine ⟨s1.heap.objs.size + 5, [s1.heap.objs.size + 5, s1.heap.objs.size + 4, s1.heap.objs.size + 2, s1.heap.objs.size + 3, s1.heap.objs.size, s1.heap.objs.size + 1], _, _, H1, rfl, I2,
        turn_enum_zip (PySem.W.ktu_apart s1.heap.objs.size a b p1.lt p2.lt) ⟨by simp, by simp, by simp, by simp, by simp⟩,
        ⟨⟨.none, he⟩, ⟨.none, false, hk2 _ _ hz, .inl rfl⟩, hk2 _ _ hTI, ⟨_, _, hk2 _ _ hTO⟩, h1.at fun o g => hk2 _ o g, h2.at fun o g => hk2 _ o g⟩, fun c hc => ?_, q⟩
      have lo : s1.heap.objs.size ≤ c := by
        simp only [List.mem_cons, List.not_mem_nil, or_false] at hc
        rcases hc with rfl | rfl | rfl | rfl | rfl | rfl
        · exact Nat.le_add_right _ _
        · exact Nat.le_add_right _ _
        · exact Nat.le_add_right _ _
        · exact Nat.le_add_right _ _
        · exact Nat.le_refl _
        · exact Nat.le_add_right _ _
      exact I1.fpOk lo (I1.hok.fresh lo)
section
variable {K : PySem.W.Frag} {E B R : List Addr} {Z : List (List Addr × Hp)} {ss : List Sl} {os : Os} {σ : L2.St} {H H' : Hp} {m F : Bool} {o0 : Os} {te ta tb : TE} {P P' PA PB : D → Prop} {Dn : Ends}
def enumZD (xs ys : List D) : List D := (List.range (min xs.length ys.length)).map fun (i : Nat) => D.tup [.int i, .tup [xs.getD i .non, ys.getD i .non]]
theorem enumZD_len (xs ys : List D) : (enumZD xs ys).length = min xs.length ys.length := by
  unfold enumZD
  rw [List.length_map, List.length_range]
theorem enumZD_get {xs ys : List D} {i : Nat} {x y : D} (h1 : xs[i]? = some x) (h2 : ys[i]? = some y) : (enumZD xs ys)[i]? = some (.tup [.int i, .tup [x, y]]) := by
  have l1 : i < xs.length := (List.getElem?_eq_some_iff.mp h1).1
  have l2 : i < ys.length := (List.getElem?_eq_some_iff.mp h2).1
  unfold enumZD
  rw [List.getElem?_map, List.getElem?_range (by omega)]
  show some (D.tup [.int i, .tup [xs.getD i .non, ys.getD i .non]]) = _
  rw [List.getD_eq_getElem?_getD, h1, List.getD_eq_getElem?_getD, h2] <;> rfl
theorem ite_enum_zip {a b : Addr} {xs ys : List V} {ds es : List D} (h : SqL K (era H R) a xs) (r : RpAll K (era H R) xs ds) (h' : SqL K (era H R) b ys) (r' : RpAll K (era H R) ys es) : ItE K R H (IteZ K a b) (enumZD ds es) := fun H2 st pr => by
  have sub : Sub (era H R) H2 := fun b o e t => by
    obtain ⟨n, e⟩ := era_some e
    exact st b o n e t
  have hS : SqL K H2 a xs := sub.l h
  have hS' : SqL K H2 b ys := sub.l h'
  have len := r.length
  have len' := r'.length
  refine ⟨fun i hi => ?_, fun i hi => ⟨xs, ys, hS, hS', ?_⟩, fun i x H3 hi y => ?_⟩
  · rw [enumZD_len] at hi
    exact ⟨xs, ys, xs[i], ys[i], hS, hS', List.getElem?_eq_getElem (by omega), List.getElem?_eq_getElem (by omega)⟩
  · rw [enumZD_len] at hi
    omega
  · obtain ⟨T, T2, v, u, rfl, nT, nT2, ne, rfl, hv, hu⟩ := y
    obtain ⟨d, hd, rd⟩ := r.get' (hv xs hS)
    obtain ⟨c, hc, rc⟩ := r'.get' (hu ys hS')
    have nT2' : upd H2 T (.tup [v, u]) T2 = none := by rw [upd_ne (Ne.symm ne)]; exact nT2
    refine ⟨fun b o e => by rw [upd_ne (ne_of_none e nT2), upd_ne (ne_of_none e nT)]; exact e, _, enumZD_get hd hc, fun R' h1 h2 h3 => .tup (xs := [.int (i : Nat), .ref T]) (.inl (.inl ?_)) (.cons (.int _) (.cons (.tup (xs := [v, u]) (.inl (.inl ?_)) (.cons (rd.mono (era_grow (fun b o n e t => ?_) h2)) (.cons (rc.mono (era_grow (fun b o n e t => ?_) h2)) .nil))) .nil))⟩
    · rw [era_in (fun z => h3 T2 z nT2)]
      exact upd_same
    · rw [era_in (fun z => h3 T z nT), upd_ne ne]
      exact upd_same
    · have e2 := st b o n e t
      rw [upd_ne (ne_of_none e2 nT2), upd_ne (ne_of_none e2 nT)]
      exact e2
    · have e2 := st b o n e t
      rw [upd_ne (ne_of_none e2 nT2), upd_ne (ne_of_none e2 nT)]
      exact e2
theorem ei_enum_zip {t : TA} {xs ys : List D} (h : EaD K E B true ss o0 t [.lst xs, .lst ys]) : EvIE K E B ss o0 (iEnumZ K t) (fun x => x = enumZD xs ys) := fun Z os σ H i A R q => h Z os σ H i A _ fun vs es H1 g r e => by
  subst e
  cases r with
  | cons r1 r =>
    cases r with
    | cons r2 r =>
      cases r
      cases r1 with
      | lst h1 k1 =>
        cases r2 with
        | lst h2 k2 => exact ⟨_, _, _, _, rfl, .inl (.inl (era_sub _ _ _ _ h1)), .inl (.inl (era_sub _ _ _ _ h2)), q _ _ H1 g (ite_enum_zip (.inl (.inl h1)) k1 (.inl (.inl h2)) k2) rfl⟩
/-- a, (b, c) -/
theorem nest_names {i j l : Nat} {v : V} {a b c : D} {Q : L2.St → Hp → Prop} (A : At K E B Z ss os σ H) (r : Rp K (era H (ads os ++ E)) v (.tup [a, .tup [b, c]])) (k : ∀ x y z, At K E B Z (((ss.set i (.dat a)).set j (.dat b)).set l (.dat c)) os (((σ.set i (some x)).set j (some y)).set l (some z)) H → Q (((σ.set i (some x)).set j (some y)).set l (some z)) H) : gTup K 2 (gCons (gName i) (gCons (gTup K 2 (gCons (gName j) (gCons (gName l) gNil))) gNil)) v σ H Q := by
  cases r with
  | tup h1 h2 =>
    cases h2 with
    | cons r1 h2 =>
      cases h2 with
      | cons r2 h2 =>
        cases h2
        cases r2 with
        | tup h3 h4 =>
          cases h4 with
          | cons r3 h4 =>
            cases h4 with
            | cons r4 h4 =>
              cases h4
              exact ⟨_, _, rfl, (era_sub _ _).t h1, rfl, _, _, rfl, _, _, rfl, ⟨_, _, rfl, (era_sub _ _).t h3, rfl, _, _, rfl, _, _, rfl, rfl, rfl, k _ _ _ (((A.set r1).set r3).set r4)⟩⟩
/-- for a, (b, c) in nested pairs -/
theorem s_forN {wi : TI} {i1 j1 l1 : Nat} {tb : TS} {PI : List D → Prop} (A : At K E B Z ss os σ H) (h : EvIE K E B ss os wi PI) (pr : ∀ ds, PI ds → ∀ d ∈ ds, ∃ a b c, d = .tup [a, .tup [b, c]]) (J : List D → Nat → List Sl → Os → Prop) (h0 : ∀ ds, PI ds → J ds 0 ss os)
    (ho : ∀ ds i ss' os', J ds i ss' os' → ads os' = ads os)
    (hs : ∀ ds z (i : Nat) a b c ss' os' σ' H', PI ds → ds[i]? = some (.tup [a, .tup [b, c]]) → J ds i ss' os' → At K E B (z :: Z) (((ss'.set i1 (.dat a)).set j1 (.dat b)).set l1 (.dat c)) os' σ' H' →
      tb { Dn with nx := fun σ H => ∃ ss os, J ds (i + 1) ss os ∧ At K E B (z :: Z) ss os σ H, ct := fun σ H => ∃ ss os, J ds (i + 1) ss os ∧ At K E B (z :: Z) ss os σ H, bk := Dn.nx } σ' H')
    (hd : ∀ ds ss' os' σ' H', PI ds → J ds ds.length ss' os' → At K E B Z ss' os' σ' H' → Dn.nx σ' H') : tFor wi (gTup K 2 (gCons (gName i1) (gCons (gTup K 2 (gCons (gName j1) (gCons (gName l1) gNil))) gNil))) tb Dn σ H :=
  h Z os σ H (fun _ z => z) A _ fun I ds H1 g it p => by
    have A1 := (A.go g).mark
    have sub : ∀ {ss' : List Sl} {os' : Os} {σ' : L2.St} {H' : Hp}, At K E B ((ads os ++ E, H1) :: Z) ss' os' σ' H' → ∀ a o, a ∉ ads os ++ E → H1 a = some o → NT o → H' a = some o := fun A' a o n e t => (A'.stp _ List.mem_cons_self a o n e).1 t
    refine ⟨fun i mm σ H => mm = ds.length - i ∧ i ≤ ds.length ∧ ∃ ss' os', J ds i ss' os' ∧ At K E B ((ads os ++ E, H1) :: Z) ss' os' σ H, ⟨ds.length, by simp, Nat.zero_le _, ss, os, h0 ds p, A1⟩, ?_⟩
    rintro i mm σ' H' ⟨rfl, hi, ss', os', hj, A'⟩
    have same := ho ds i ss' os' hj
    obtain ⟨f1, f2, f3⟩ := it H' (sub A') (fun a h => A'.there a (by rw [same]; exact h))
    by_cases hlt : i < ds.length
    · refine .inr ⟨f1 i hlt, fun σ H => ∃ ss os', J ds (i + 1) ss os' ∧ At K E B ((ads os ++ E, H1) :: Z) ss os' σ H, fun σ2 H2 ⟨s2, o2, j2, A2⟩ => ⟨ds.length - (i + 1), by omega, rfl, hlt, s2, o2, j2, A2⟩, fun x H2 y => ?_⟩
      obtain ⟨sb, d, hd1, r⟩ := f3 i x H2 hlt y
      obtain ⟨a, b, c, rfl⟩ := pr ds p d (List.mem_of_getElem? hd1)
      refine nest_names (A'.go (.of sb)) (by rw [same]; exact r _ (fun _ h => h) (fun a h => .inl h) (fun a h => A'.there a (by rw [same]; exact h))) fun u v y A2 => ?_
      exact hs ds (ads os ++ E, H1) i a b c ss' os' _ H2 p hd1 hj A2
    · have : i = ds.length := by omega
      subst this
      exact .inl ⟨f2 _ (Nat.le_refl _), hd ds ss' os' σ' H' p hj A'.unmark⟩
/-- a pair to a dict, the key a number -/
theorem ae_putI {tk tv : TE} {p : Int} {d : D} (fl : d.flat = true) (hk : ∀ D, EvD K (D :: E) B true ss o0 tk (.int p)) (hv : ∀ D, EvD K (D :: E) B true ss o0 tv d) :
    ActE K E B ss o0 (fun D => tPut D tk tv) 1 (fun kvs => putD kvs (.inl p) d) := fun D Z os σ H kvs vs Q io A nB hz hD r few q => by
  refine hk D Z os σ H io A _ fun y dy H1 g1 r1 _ e1 => ?_
  subst e1
  cases r1
  refine hv D Z os σ H1 io (A.go g1) _ fun z dz H2 g2 r2 _ e2 => ?_
  subst e2
  have g := g1.trans g2
  have at2 : H2 D = some (.dK vs) := g.one nB hD trivial
  refine ⟨vs, .inl p, rfl, at2, by rw [r.length]; exact Nat.lt_of_le_of_lt (show kvs.length ≤ 1000000 by omega) (by decide), q _ _ ?_ upd_same (r.put (rp_flat r2 fl)) (putD_len _ _ _)⟩
  have gh := go_of_hid (D := D) g
  refine ⟨fun a o n e => ?_, fun b hb l h => bag_off (gh.bag b hb l h) at2, fun t => tabs_dk (gh.tab t) at2⟩
  rw [upd_ne (hid_some e).1]
  exact gh.stp a o n e
end
end Da
/-! repr and == of a dict of plain values -/
namespace Da
open PySem PySem.Spec L2 PyProof.Rows
variable [Tbs]
/-- a plain value, read -/
def fpy : V → PyData
  | .bl b => .bool b
  | .int i => .int i
  | .str s => .str s
  | _ => .none
def plainV : V → Bool
  | .non => true
  | .bl _ => true
  | .int _ => true
  | .str _ => true
  | _ => false
def kpy : Key → PyData
  | .inl i => .int i
  | .inr x => .str x
def dpy (kvs : List (Key × V)) : PyData := .dict (kvs.map fun kv => (kpy kv.1, fpy kv.2))
theorem reads_plain {h : Heap} {x : V} {v : Value} (f : plainV x = true) (r : RelV x v) : Reads h v (fpy x) [] := by
  cases x with
  | non => cases (show v = Value.none from r); exact .none
  | bl b => cases (show v = Value.bool b from r); exact .bool b
  | int i => obtain ⟨t, rfl⟩ := (show ∃ t, v = Value.int i t from r); exact .int i t
  | str s => obtain ⟨t, rfl⟩ := (show ∃ t, v = Value.str s t from r); exact .str s t
  | _ => cases f
theorem reads_key {h : Heap} {k : Key} {v : Value} (e : keyIs k v = true) : Reads h v (kpy k) [] := by
  rcases keyIs_shape e with ⟨i, t, rfl, rfl⟩ | ⟨x, t, rfl, rfl⟩
  · exact .int i t
  · exact .str x t
theorem reads_pairs {P : Program} {w : World} {h : Heap} : ∀ {es : List DictEntry} {vs : List (Key × Value)} {kvs : List (Key × V)}, Pairs (mixKind P w) es vs → KV kvs vs → (∀ kv ∈ kvs, plainV kv.2 = true) →
    ReadsAll h (es.map (·.key)) ((kvs.map fun kv => (kpy kv.1, fpy kv.2)).map (·.1)) [] ∧ ReadsAll h (es.map (·.val)) ((kvs.map fun kv => (kpy kv.1, fpy kv.2)).map (·.2)) []
  | _, _, _, .nil, r, _ => by
    unfold KV at r
    cases r
    exact ⟨.nil, .nil⟩
  | e :: es, kv :: vs, kvs, .cons h1 h2 ps, r, f => by
    unfold KV at r
    cases r with
    | @cons p q ps' qs' a r =>
      obtain ⟨g1, g2⟩ := reads_pairs ps (show KV ps' vs from r) fun kv hk => f kv (List.mem_cons_of_mem _ hk)
      have h1 : keyIs kv.1 e.key = true := h1
      have k1 : Reads h e.key (kpy p.1) [] := by rw [a.1]; exact reads_key h1
      have k2 : Reads h e.val (fpy p.2) [] := by rw [h2]; exact reads_plain (f p List.mem_cons_self) a.2
      exact ⟨.cons k1 g1, .cons k2 g2⟩
theorem plain_depth : ∀ kvs : List (Key × V), PyData.depthKv (kvs.map fun kv => (kpy kv.1, fpy kv.2)) = 0
  | [] => rfl
  | kv :: kvs => by
    have h1 : PyData.depth (kpy kv.1) = 0 := by cases kv.1 <;> rfl
    have h2 : PyData.depth (fpy kv.2) = 0 := by cases kv.2 <;> rfl
    show max (max (PyData.depth (kpy kv.1)) (PyData.depth (fpy kv.2))) (PyData.depthKv (kvs.map fun kv => (kpy kv.1, fpy kv.2))) = 0
    rw [h1, h2, plain_depth kvs] <;> rfl
section
variable {X : Cx}
def rReprX (K : PySem.W.Frag) : List V → Hp → VK → Prop := fun xs H Q => rRepr K xs H Q ∨ ∃ (a : Addr) (kvs : List (Key × V)), xs = [.ref a] ∧ H a = some (.dK kvs) ∧ (∀ kv ∈ kvs, plainV kv.2 = true) ∧ (dpy kvs).showable = true ∧ (dpy kvs).shown.length ≤ sizeLine ∧ Q (.str (dpy kvs).shown) H
theorem cr_reprX (hg : X.A.guards = some []) (hu : X.A.units + 128 < cLine) : CallR X (.builtin "repr") (rReprX X.K) := by
  intro pins s σ H xs us Q I r h
  rcases h with h | ⟨a, kvs, rfl, ha, pl, sh, few, q⟩
  · exact cr_repr hg hu pins s σ H xs us Q I r h
  cases r with
  | @cons _ u _ us rx rr =>
    cases rr
    cases (show u = Value.ref a from rx)
    obtain ⟨_, lo, vs, rel, o, es, ep, ho, hc, hd, _, ps, _⟩ := dk_of I.hok ha
    obtain ⟨g1, g2⟩ := reads_pairs ps rel pl (h := s.heap)
    have rd : Reads s.heap (.ref a) (dpy kvs) [a] := .dict ho hc.1 hd g1 g2
    have hn : a ≠ sysModules := by simpa using lo
    exact repr_of_reads' rd sh (fun _ m => hn (List.mem_singleton.mp m).symm) hg (by show X.A.units + (PyData.depthKv (kvs.map fun kv => (kpy kv.1, fpy kv.2)) + 1 + 1) < cLine; rw [plain_depth]; omega) (fun _ _ e => e) (fun h' u tk hk => ⟨.str (dpy kvs).shown, H, I.kept hk, ⟨u, rfl⟩, q⟩) few
/-- a == b, or two dicts of like values -/
def rEqX (K : PySem.W.Frag) : R2 := fun x y H Q => rEqD K x y H Q ∨ rEqV K x y H Q
theorem op_eqX {K : PySem.W.Frag} (e : X.K = K) (hu : X.A.units + 64 < cLine) : OpR X (compareOp .Eq) (rEqX K) := by
  subst e
  intro pins s σ H x y v u Q I rx ry h
  rcases h with h | h
  · exact op_eqD hu pins s σ H x y v u Q I rx ry h
  · exact op_eqV hu pins s σ H x y v u Q I rx ry h
end
section
variable {K : PySem.W.Frag} {B : List Addr}
def plD : D → Bool
  | .non => true
  | .bl _ => true
  | .int i => decide (i.natAbs < 10 ^ 50)
  | .str s => s.all (fun c => decide (c < 128)) && decide (s.length ≤ 1000)
  | _ => false
def vOf : D → V
  | .bl b => .bl b
  | .int i => .int i
  | .str s => .str (mk s)
  | _ => .non
theorem rp_plain {H : Hp} {v : V} {d : D} (r : Rp K H v d) (f : plD d = true) : v = vOf d ∧ plainV v = true := by
  cases r <;> first | exact ⟨rfl, rfl⟩ | cases f
theorem kv_plain {H : Hp} : ∀ {vs : List (Key × V)} {kvs : List (Key × D)}, RpKv K H vs kvs → (∀ kv ∈ kvs, plD kv.2 = true) → vs = kvs.map (fun kv => (kv.1, vOf kv.2)) ∧ ∀ kv ∈ vs, plainV kv.2 = true
  | _, _, .nil, _ => ⟨rfl, fun _ h => nomatch h⟩
  | _, _, .cons (k := k) h r, f => by
    obtain ⟨e1, p1⟩ := rp_plain h (f _ List.mem_cons_self)
    obtain ⟨e2, p2⟩ := kv_plain r fun kv hk => f kv (List.mem_cons_of_mem _ hk)
    refine ⟨by rw [List.map_cons, ← e2, ← e1], fun kv hk => ?_⟩
    rcases List.mem_cons.mp hk with rfl | hk
    · exact p1
    · exact p2 kv hk
/-- what is shown of a dict of plain values -/
def showD (kvs : List (Key × D)) : List Nat := (dpy (kvs.map fun kv => (kv.1, vOf kv.2))).shown.cps.toList
/-- few keys, each plain, as are the values -/
structure DicOk (kvs : List (Key × D)) : Prop where
  val : ∀ kv ∈ kvs, plD kv.2 = true
  sh : (dpy (kvs.map fun kv => (kv.1, vOf kv.2))).showable = true
  few : (dpy (kvs.map fun kv => (kv.1, vOf kv.2))).shown.length ≤ sizeLine
theorem c_reprDic {kvs : List (Key × D)} (ok : DicOk kvs) : OpA K B (rReprX K) [.dic kvs] false (fun x => x = .str (showD kvs)) := fun R H vs _ r Q q => by
  cases r with
  | cons h t =>
    cases t
    cases h with
    | dic h1 h2 =>
      obtain ⟨rfl, pv⟩ := kv_plain h2 ok.val
      refine .inr ⟨_, _, rfl, (era_some h1).2, pv, ok.sh, ok.few, ?_⟩
      refine q _ _ H .refl ?_ (fun z => absurd z (by simp)) rfl
      have := Rp.str (K := K) (H := era H R) (showD kvs)
      unfold showD at this
      rw [mk_of] at this
      exact this
theorem c_reprPl {d : D} {w n : Nat} (p : Pl w n d) (hw : w ≤ 250000) (hn : n ≤ 60) : OpA K B (rReprX K) [d] false (fun x => x = .str (d.py.shown.cps.toList)) := fun R H vs hR r Q q => .inl (c_repr p hw hn R H vs hR r Q q)
theorem o_eqDic {kvs : List (Key × D)} (f : ∀ kv ∈ kvs, plD kv.2 = true) (nd : (kvs.map (·.1)).Nodup) : Op2 K B (rEqX K) (.dic kvs) (.dic kvs) false (fun x => x = .bl true) := fun R H v w _ r1 r2 Q q => by
  cases r1 with
  | dic h1 g1 =>
    cases r2 with
    | dic h2 g2 =>
      obtain ⟨rfl, p1⟩ := kv_plain g1 f
      obtain ⟨rfl, p2⟩ := kv_plain g2 f
      refine .inr ⟨1, by decide, .inr ⟨_, _, _, _, rfl, rfl, (era_some h1).2, (era_some h2).2, rfl, fun p hp => ?_⟩, q _ _ H .refl (.bl _) (fun z => absurd z (by simp)) rfl⟩
      obtain ⟨kv, hk, rfl⟩ := List.mem_map.mp hp
      refine ⟨vOf kv.2, ?_, .inl ⟨rfl, ?_⟩⟩
      · clear g1 g2 h1 h2 p1 p2 hp f
        induction kvs with
        | nil => cases hk
        | cons x xs ih =>
          have nd := List.nodup_cons.mp nd
          rcases List.mem_cons.mp hk with rfl | hk
          · exact valV_pos rfl
          · have ne : x.1 ≠ kv.1 := fun z => nd.1 (List.mem_map.mpr ⟨kv, hk, z.symm⟩)
            rw [List.map_cons]
            rw [valV_neg (p := (x.1, vOf x.2)) ne]
            exact ih nd.2 hk
      · cases kv.2 <;> rfl
theorem o_eqPlX {d : D} {w n : Nat} (p : Pl w n d) (hn : n ≤ 60) : Op2 K B (rEqX K) d d false (fun x => x = .bl true) := fun R H v u hR r1 r2 Q q => .inl (o_eqSame p hn R H v u hR r1 r2 Q q)
end
end Da
/-! zip of a list and a text -/
namespace Da
open PySem PySem.Spec L2 PyProof.Rows
variable [Tbs]
/-- the items of a list, each with a sign of a text -/
def ItzM (K : PySem.W.Frag) (a : Addr) (y : Str) (N : Nat) : It := ⟨fun i H => i < N ∧ i < y.cps.size ∧ ∃ xs x, SqL K H a xs ∧ xs[i]? = some x,
  fun i H v H' => ∃ T x d, v = .ref T ∧ H T = none ∧ H' = upd H T (.tup [x, .str ⟨#[d]⟩]) ∧ (∀ xs, SqL K H a xs → xs[i]? = some x) ∧ y.cps[i]? = some d,
  fun i H => N ≤ i ∧ ∃ xs, SqL K H a xs ∧ N = min xs.length y.cps.size⟩
theorem turn_zipM {P : Program} {w : World} {K : PySem.W.Frag} {elts : List Expr} {kk : Nat} {tpos : Pos} {z TI TO i1 i2 a : Addr} {N : Nat} {y : Str} {t2 : Tok} (S : ZipSep2 z TI TO i1 i2 [i1, a] [i2]) (na : a ≠ i1) (le2 : N ≤ y.cps.size) :
    Turn P w K (.Tuple elts kk tpos) (ItzM K a y N) [z, TI, TO, i1, i2] z (fun i h => IsZip h z TI TO .none ∧ IsTupOf2 h TI (.ref i1) (.ref i2) ∧ (∃ a b, IsTupOf2 h TO a b) ∧ h.IsListIter i1 a i ∧ h.IsStrIter i2 (strIterType y) y t2 i ∧ i ≤ N) where
  mem := List.mem_cons_self
  obj := fun i h st b hb => by
    obtain ⟨hz, hTI, ⟨a', c, hTO⟩, ⟨o1, g1, _, d1⟩, ⟨o2, g2, _, d2⟩, _⟩ := st
    simp only [List.mem_cons, List.not_mem_nil, or_false] at hb
    rcases hb with rfl | rfl | rfl | rfl | rfl
    · exact ⟨_, hz, fun v q => nomatch q⟩
    · exact ⟨_, hTI, fun v q => nomatch q⟩
    · exact ⟨_, hTO, fun v q => nomatch q⟩
    · exact ⟨o1, g1, fun v q => by rw [d1] at q; cases q⟩
    · exact ⟨o2, g2, fun v q => by rw [d2] at q; cases q⟩
  keep := fun i h h' st stay => by
    obtain ⟨hz, hTI, ⟨a', c, hTO⟩, ⟨o1, g1, r1⟩, ⟨o2, g2, r2⟩, le⟩ := st
    exact ⟨stay z (by simp) _ hz, stay TI (by simp) _ hTI, ⟨a', c, stay TO (by simp) _ hTO⟩, ⟨o1, stay i1 (by simp) _ g1, r1⟩, ⟨o2, stay i2 (by simp) _ g2, r2⟩, le⟩
  item := by
    intro X hP hw hK calm i pins s σ H E I far st go
    subst hP hw hK
    obtain ⟨hz, hTI, ⟨a', c, hTO⟩, s1, s2, le⟩ := st
    obtain ⟨lt, go2, xs, x, hq1, hx⟩ := go
    obtain ⟨its1, rv1, p1, hz1⟩ := I.list hq1
    obtain ⟨u1, hu1, ru1⟩ := rv1.get hx
    have lt1 : i < its1.toArray.size := by
      have := (List.getElem?_eq_some_iff.mp hu1).1
      simpa using this
    have big : ∀ b ∈ [z, TI, TO, i1, i2], b < s.heap.objs.size := fun b hb => by
      simp only [List.mem_cons, List.not_mem_nil, or_false] at hb
      rcases hb with rfl | rfl | rfl | rfl | rfl
      · exact Heap.lt_size hz
      · exact Heap.lt_size hTI
      · exact Heap.lt_size hTO
      · obtain ⟨_, g, _⟩ := s1; exact Heap.lt_size g
      · obtain ⟨_, g, _⟩ := s2; exact Heap.lt_size g
    refine wpAny_pyNext_zipD2_item (St1 := fun i h => h.IsListIter i1 a i ∧ h.IsList a its1.toArray) (St2 := fun i h => h.IsStrIter i2 (strIterType y) y t2 i) S (Draws.list (A := X.A.in1) (I.ok.hd calm) i1 a na its1.toArray) (Draws.text (A := X.A.in1) (I.ok.hd calm) i2 y t2) hz hTI hTO ⟨s1, p1.isList⟩ s2 lt1 go2 fun x1 x2 h1 tk p1' p2' hz1' hTO1 s1' s2' pair size stay => ?_
    obtain rfl : u1 = x1 := by
      have p1' : its1[i]? = some x1 := by simpa using p1'
      rw [hu1] at p1'
      exact Option.some.inj p1'
    obtain ⟨c2, u2, at2, rfl⟩ := p2'
    refine ⟨_, rfl, wpAny_letOwnedTupleGo_zip (s := { s with heap := h1, toks := tk }) hz1' fun h2 hz2 same => ?_⟩
    have ne : ∀ {b}, b ∈ [z, TI, TO, i1, i2] → b ≠ s.heap.objs.size := fun h => Nat.ne_of_lt (big _ h)
    have pair2 : h2.get? s.heap.objs.size = some { cls := .type "tuple", data := .seq #[u1, .str ⟨#[c2]⟩ u2] } := (same.2 _ (Ne.symm (ne (by simp)))).trans pair
    have new : ObjOk X.prog X.w (upd H s.heap.objs.size (.tup [x, .str ⟨#[c2]⟩])) h2 s.heap.objs.size (.tup [x, .str ⟨#[c2]⟩]) :=
      ⟨by show 2 ≤ sizeLine; decide, [u1, .str ⟨#[c2]⟩ u2], .cons ru1 (.cons ⟨_, rfl⟩ .nil), ⟨_, pair2, rfl, _, rfl⟩⟩
    have I1 : Inv X pins σ (upd H s.heap.objs.size (.tup [x, .str ⟨#[c2]⟩])) { s with heap := h2, toks := tk } :=
      I.turnedNew (ch := [z, TI, TO, i1, i2]) (fun b o hb got => (same.2 b fun q => hb (by simp [q])).trans (stay b o (fun q => hb (by simp [q])) (fun q => hb (by simp [q])) (fun q => hb (by simp [q])) (fun q => hb (by simp [q])) got)) far (Nat.le_refl _) new
    refine ⟨.ref s.heap.objs.size, _, I1, rfl, ⟨_, x, c2, rfl, I.hok.fresh (Nat.le_refl _), rfl, fun zs hs => by rw [I.list_inj hs hq1]; exact hx, at2⟩, ⟨hz2, ?_, ⟨_, _, (same.2 TO S.TOz).trans hTO1⟩, ?_, ?_, lt⟩, fun b hb => ?_⟩
    · exact (same.2 TI S.TIz).trans (stay TI _ S.TIz S.TITO S.TIi1 S.TIi2 hTI)
    · obtain ⟨⟨o, g, r⟩, _⟩ := s1'
      exact ⟨o, (same.2 i1 (fun q => S.zf1 (by rw [q]; simp))).trans g, r⟩
    · obtain ⟨o, g, r⟩ := s2'
      exact ⟨o, (same.2 i2 (fun q => S.zf2 (by rw [q]; simp))).trans g, r⟩
    · rw [upd_ne (ne hb)]
      exact (far b hb).1
  done := by
    intro X hP hw hK calm i pins s σ H E I far st stop
    subst hP hw hK
    obtain ⟨hz, hTI, ⟨a', c, hTO⟩, s1, s2, le⟩ := st
    obtain ⟨ge, xs, hq1, e⟩ := stop
    obtain ⟨its1, rv1, p1, hz1⟩ := I.list hq1
    have l1 : its1.toArray.size = xs.length := by rw [List.size_toArray]; exact rv1.length.symm
    refine wpAny_pyNext_zipD2_end (St1 := fun i h => h.IsListIter i1 a i ∧ h.IsList a its1.toArray) (St2 := fun i h => h.IsStrIter i2 (strIterType y) y t2 i) S (Draws.list (A := X.A.in1) (I.ok.hd calm) i1 a na its1.toArray) (Draws.text (A := X.A.in1) (I.ok.hd calm) i2 y t2) hz hTI hTO ⟨s1, p1.isList⟩ s2 (by omega) (by omega) (by omega) fun h1 tk stay => ⟨rfl, I.turnedL (ch := [z, TI, TO, i1, i2]) (fun b o hb got => stay b o (fun q => hb (by simp [q])) (fun q => hb (by simp [q])) (fun q => hb (by simp [q])) (fun q => hb (by simp [q])) got) far⟩
  self := fun A i s Q E st h => wpAny_pyIter_zip st.1 h
def iZipM (K : PySem.W.Frag) (ta : TA) : TI := fun σ H R => ta σ H fun vs H1 => ∃ (a : Addr) (y : Str) (N : Nat), vs = [.ref a, .str y] ∧ (∃ xs, SqL K H1 a xs) ∧ N ≤ y.cps.size ∧ R (ItzM K a y N) H1
theorem pi_zipM {X : Cx} {e e2 : Expr} {ta : TA} {p pos tpos : Pos} {elts : List Expr} {kk : Nat} (hg : Gl X "zip") (hm : X.mg "zip" = none) (ha : PA X [e, e2] ta)
    (hs : starEach [e, e2] X.env = (false, eval e X.env) :: starEach [e2] X.env := by rfl) (hpl : (backTo pos (starEach [e2] X.env)).any (·.1) = false := by rfl) :
    PI X (.Tuple elts kk tpos) (.Call (.Name "zip" p) [e, e2] [] pos) (iZipM X.K ta) := .mk fun pins s σ H R I h => by
  refine Call_ (ld_blt I hg hm PyProof.Rows.boot_zip (PyProof.Rows.callWith_type1 (thn (ha.run pos pins s σ H _ I h) fun us s1 ⟨vs, H1, I1, r1, q1⟩ => ?_) hs hpl))
  obtain ⟨a, y, N, rfl, ⟨xs, hq1⟩, leN, q⟩ := q1
  cases r1 with
  | cons r rr =>
    cases rr with
    | cons r' rr =>
      cases rr
      cases r
      obtain ⟨t2, rfl⟩ := r'
      obtain ⟨its1, rv1, p1, hz1⟩ := I1.list hq1
      have la : a < s1.heap.objs.size := by obtain ⟨o, g, _⟩ := p1.isList; exact Heap.lt_size g
      refine zip_begins2 (begins_list a its1.toArray) (begins_text y t2) p1.isList trivial fun h' hz hTI hTO h1 h2 hsz hk => wpAny_pyIter_zip hz ?_
      have sep := zip_sep2 (N := s1.heap.objs.size) (fp1 := [a]) (fp2 := []) (fun x h => by simp at h; subst h; exact la) (fun _ h => nomatch h)
      have I2 : Inv X pins σ H1 { s1 with heap := h' } := I1.kept (t' := s1.toks) hk
      refine ⟨s1.heap.objs.size + 4, _, _, ItzM X.K a y N, H1, rfl, I2, turn_zipM sep (Nat.ne_of_lt la) leN, ⟨hz, hTI, ⟨_, _, hTO⟩, ⟨_, h1, rfl, rfl⟩, ⟨_, h2, rfl, rfl⟩, Nat.zero_le _⟩, fun b hb => ?_, q⟩
      have le : s1.heap.objs.size ≤ b := by
        simp only [List.mem_cons, List.not_mem_nil, or_false] at hb
        rcases hb with rfl | rfl | rfl | rfl | rfl
        · exact Nat.le_add_right _ _
        · exact Nat.le_add_right _ _
        · exact Nat.le_add_right _ _
        · exact Nat.le_refl _
        · exact Nat.le_add_right _ _
      exact I1.fpOk le (I1.hok.fresh le)
section
variable {K : PySem.W.Frag} {E B R : List Addr} {Z : List (List Addr × Hp)} {ss : List Sl} {os : Os} {σ : L2.St} {H H' : Hp} {m F : Bool} {o0 : Os} {te ta tb tc : TE} {P P' PA PB : D → Prop} {Dn : Ends}
def zipMD (x : List Int) (y : List Nat) : List D := (x.zip y).map fun p => .tup [.int p.1, .str [p.2]]
theorem zipMD_len (x : List Int) (y : List Nat) : (zipMD x y).length = min x.length y.length := by
  unfold zipMD
  rw [List.length_map, List.length_zip]
theorem ei_zipM {t : TA} {x : List Int} {y : List Nat} (h : EaD K E B true ss o0 t [.lst (x.map .int), .str y]) : EvIE K E B ss o0 (iZipM K t) (fun z => z = zipMD x y) := fun Z os σ H i A R q => h Z os σ H i A _ fun vs es H1 g r e => by
  subst e
  cases r with
  | cons r1 r =>
    cases r with
    | cons r2 r =>
      cases r
      cases r1 with
      | lst h1 k1 =>
        cases r2
        rw [RpAll.ints k1] at h1
        have sy : (mk y).cps.size = y.length := mk_len y
        refine ⟨_, _, min x.length y.length, rfl, ⟨_, .inl (.inl (era_sub _ _ _ _ h1))⟩, by rw [sy]; exact Nat.min_le_right _ _, q _ _ H1 g (fun H2 st pr => ?_) rfl⟩
        have len := zipMD_len x y
        have sub : Sub (era H1 (ads os ++ E)) H2 := fun b o e t => by
          obtain ⟨n, e⟩ := era_some e
          exact st b o n e t
        have hS1 : SqL K H2 _ (x.map V.int) := sub.l (.inl (.inl h1))
        refine ⟨fun i hi => ?_, fun i hi => ⟨by omega, _, hS1, by rw [List.length_map, sy]⟩, fun i v H3 hi yl => ?_⟩
        · have b1 : i < x.length := by omega
          have b2 : i < y.length := by omega
          exact ⟨by omega, by rw [sy]; exact b2, _, .int x[i], hS1, by rw [List.getElem?_map, List.getElem?_eq_getElem b1] <;> rfl⟩
        · obtain ⟨T, c, d, rfl, nT, rfl, e1, e2⟩ := yl
          have e1 := e1 _ hS1
          have e3 : y[i]? = some d := by
            have : (mk y).cps.toList[i]? = some d := by rw [← e2]; simp
            exact this
          rw [List.getElem?_map] at e1
          cases q1 : x[i]? with
          | none => rw [q1] at e1; cases e1
          | some n =>
            rw [q1] at e1
            cases e1
            refine ⟨fun b o e => by rw [upd_ne (ne_of_none e nT)]; exact e, .tup [.int n, .str [d]], ?_, fun R' _ h2 h3 => .tup (xs := [.int n, .str (mk [d])]) (.inl (.inl ?_)) (.cons (.int _) (.cons (.str _) .nil))⟩
            · unfold zipMD
              rw [List.getElem?_map, (List.getElem?_zip_eq_some (z := (n, d))).mpr ⟨q1, e3⟩] <;> rfl
            · rw [era_in (fun z => h3 T z nT)]
              exact upd_same
end
section
variable {X : Cx}
/-- a or b, where a is None or a list -/
def tOrL (K : PySem.W.Frag) (ta tb : TE) : TE := fun σ H Q => ta σ H fun x H1 => (x = .non ∧ tb σ H1 Q) ∨ ∃ a xs, x = .ref a ∧ SqL K H1 a xs ∧ xs ≠ [] ∧ Q x H1
theorem pe_orL {a b : Expr} {rest : List Expr} {pos : Pos} {ta tb : TE} (ha : PE X a ta) (hb : PE X (.BoolOp .Or (b :: rest) pos) tb) : PE X (.BoolOp .Or (a :: b :: rest) pos) (tOrL X.K ta tb) := by
  refine ⟨fun pins s σ H Q I h => ?_⟩
  refine BoolOp_or (thn (ha.run pins s σ H _ I h) fun v s1 ⟨x, H1, I1, r1, q1⟩ => ?_)
  rcases q1 with ⟨rfl, q1⟩ | ⟨l, xs, rfl, hq, ne, q1⟩
  · cases (show v = Value.none from r1)
    exact wpAny_of_eq (a := false) rfl (hb.run pins s1 σ H1 Q I1 q1)
  · cases (show v = Value.ref l from r1)
    obtain ⟨its, rv, p, hz⟩ := I1.list hq
    have line : sizeLine < 2 ^ 63 := by decide
    have len : its.toArray.size = xs.length := by rw [List.size_toArray, rv.length]
    refine wpAny_truthy_list p.isList (by rw [len]; omega) ?_
    have t : (decide (its.toArray.size ≠ 0)) = true := decide_eq_true (by rw [len]; exact fun z => ne (List.eq_nil_of_length_eq_zero z))
    first
    | (rw [t]; exact ⟨.ref l, H1, I1.tok _, rfl, q1⟩)
    | (have t2 : (its.toArray.size != 0) = true := by simpa using t
       rw [t2]; exact ⟨.ref l, H1, I1.tok _, rfl, q1⟩)
    | (have t2 : (!its.toArray.isEmpty) = true := by simpa using t
       rw [t2]; exact ⟨.ref l, H1, I1.tok _, rfl, q1⟩)
/-- str of a list of plain data -/
def rStrL (K : PySem.W.Frag) : List V → Hp → VK → Prop := fun xs H Q => ∃ a ys ds, xs = [.ref a] ∧ SqL K H a ys ∧ Dp K H (.ref a) (.list ds) ∧ SeqAt.shaped (.list ds) = true ∧ (PyData.list ds).showable = true ∧ (PyData.list ds).shown.length ≤ sizeLine ∧ Q (.str (PyData.list ds).shown) H
theorem cr_strL (hg : X.A.guards = some []) (hu : X.A.units + 128 < cLine) : CallR X (.type "str") (rStrL X.K) := by
  intro pins s σ H xs us Q I r h
  obtain ⟨a, ys, ds, rfl, hq, hd, hs, hw, hz, q⟩ := h
  cases r with
  | @cons _ u _ us rx rr =>
    cases rr
    cases (show u = Value.ref a from rx)
    obtain ⟨as, rd⟩ := Dp.reads I _ _ _ hd rx
    exact str_of_reads rd hw (PyData.noDict_hsm (PyData.hasDict_of_canLay _ (SeqAt.canLay_of_shaped hs))) hg (by have := SeqAt.depth_of_shaped hs; omega) (fun _ _ e => e) (fun h' u tk hk => ⟨.str (PyData.list ds).shown, H, I.kept hk, ⟨u, rfl⟩, q⟩) hz
end
section
variable {K : PySem.W.Frag} {E B : List Addr} {ss : List Sl} {m F : Bool} {o0 : Os} {ta tb : TE}
theorem ev_orN {F : Bool} {P : D → Prop} (h1 : EvD K E B m ss o0 ta .non) (h2 : Ev K E B m ss o0 F tb P) : Ev K E B m ss o0 F (tOrL K ta tb) P := fun Z os σ H i A Q q => h1 Z os σ H i A _ fun v d H1 g1 r f e => by
  subst e
  cases r
  exact .inl ⟨rfl, h2 Z os σ H1 i (A.go g1) _ fun v d H2 g2 r2 f2 e2 => q v d H2 (g1.trans g2) r2 (fun z => (f2 z).back g1 A.bag) e2⟩
theorem ev_orL {ds : List D} (h1 : EvD K E B m ss o0 ta (.lst ds)) (ne : ds ≠ []) : EvD K E B m ss o0 (tOrL K ta tb) (.lst ds) := fun Z os σ H i A Q q => h1 Z os σ H i A _ fun v d H1 g1 r f e => by
  subst e
  cases id r with
  | lst a1 a2 =>
    refine .inr ⟨_, _, rfl, .inl (.inl (era_sub _ _ _ _ a1)), fun z => ne ?_, q _ _ H1 g1 r f rfl⟩
    subst z
    cases a2
    rfl
theorem c_strL {ds : List D} {w n : Nat} (p : Pl w n (.lst ds)) (hw : w ≤ 250000) (hn : n ≤ 60) : OpA K B (rStrL K) [.lst ds] false (fun x => x = .str ((D.lst ds).py.shown.cps.toList)) := fun R H vs _ r Q q => by
  cases r with
  | cons h t =>
    cases t
    have ok := p.ok
    have dp := (h.mono (era_sub H R).sub).dp p
    cases h with
    | lst a1 a2 =>
      refine ⟨_, _, _, rfl, .inl (.inl (era_sub _ _ _ _ a1)), dp, ok.shaped hn, ok.sh, ok.shown hw, ?_⟩
      refine q _ _ H .refl ?_ (fun z => absurd z (by simp)) rfl
      have := Rp.str (K := K) (H := era H R) ((D.lst ds).py.shown.cps.toList)
      rw [mk_of] at this
      exact this
end
section
variable {K : PySem.W.Frag} {E B : List Addr} {Z : List (List Addr × Hp)} {H : Hp} {ss : List Sl} {os : Os} {σ : L2.St} {ta tb : TE} {Dn : Ends}
/-- two names at once; the second is a new list, the def's own -/
theorem s_pairO {i j : Nat} {PA PB : D → Prop} {F : Bool} (A : At K E B Z ss os σ H) (ha : Ev K E B true ss os F ta PA) (hb : Ev K E B true ss os true tb PB) (k : ∀ a p ds σ' H', PA a → PB (.lst ds) → At K E B Z ((ss.set i (.dat a)).set j (.own p)) ((p, .lst ds) :: os) σ' H' → Dn.nx σ' H') :
    tPar i j (tCons ta (tCons tb tNil)) Dn σ H :=
  ha Z os σ H (fun _ z => z) A _ fun v a H1 g1 r1 _ p1 => hb Z os σ H1 (fun _ z => z) (A.go g1) _ fun w d H2 g2 r2 f p2 => by
    obtain ⟨p, vs, ds, rfl, rfl, n, e, rp⟩ := f rfl
    exact ⟨v, .ref p, rfl, k a p ds _ _ p1 p2 (((A.go g1).set r1).setO n e g2 rp)⟩
end
/-- a def with two promises -/
def SpOr (a b : Sp) : Sp := fun vs H Q E => a vs H Q E ∨ b vs H Q E
theorem fnOk_or {P : Program} {w : World} {K : PySem.W.Frag} {mg : Str → Option Value} {base : Heap} {CX : CXT} {k : Nat} {f : Addr} {fd : FuncData} {ps : List Str} {a b : Sp} (F1 : FnOk P w K mg base CX k f fd ps a) (F2 : FnOk P w K mg base CX k f fd ps b) :
    FnOk P w K mg base CX k f fd ps (SpOr a b) :=
  ⟨fun vs H Q E h => h.elim (F1.len vs H Q E) (F2.len vs H Q E), fun A outer s H args us vs Q E hr e0 hb r h => h.elim (F1.run A outer s H args us vs Q E hr e0 hb r) (F2.run A outer s H args us vs Q E hr e0 hb r)⟩
section
variable {K : PySem.W.Frag} {E B : List Addr} {ss : List Sl} {m F F2 : Bool} {o0 : Os} {P : D → Prop}
theorem ev_callOL {pre pre2 : List D → Prop} {post post2 : List D → D → Prop} {X : XK} {t : TA} {PR : List D → Prop} (ha : EvA K E B m ss o0 t PR) (hp : ∀ ds, PR ds → pre ds ∧ ∀ d, post ds d → P d) :
    Ev K E B m ss o0 F (tCall (SpOr (SpX K false pre F post) (SpX K false pre2 F2 post2)) [] X t) P := fun Z os σ H i A Q q => ha Z os σ H i A _ fun vs ds H1 g1 r1 p1 => by
  obtain ⟨h1, h3⟩ := hp ds p1
  show SpOr _ _ (vs ++ []) H1 Q X
  rw [List.append_nil]
  exact .inl (sp_go A g1 r1 h1 fun v d H' g r f p => q v d H' g r f (h3 d p))
theorem ev_callOR {pre pre2 : List D → Prop} {post post2 : List D → D → Prop} {X : XK} {t : TA} {PR : List D → Prop} (ha : EvA K E B m ss o0 t PR) (hp : ∀ ds, PR ds → pre2 ds ∧ ∀ d, post2 ds d → P d) :
    Ev K E B m ss o0 F2 (tCall (SpOr (SpX K false pre F post) (SpX K false pre2 F2 post2)) [] X t) P := fun Z os σ H i A Q q => ha Z os σ H i A _ fun vs ds H1 g1 r1 p1 => by
  obtain ⟨h1, h3⟩ := hp ds p1
  show SpOr _ _ (vs ++ []) H1 Q X
  rw [List.append_nil]
  exact .inr (sp_go A g1 r1 h1 fun v d H' g r f p => q v d H' g r f (h3 d p))
end
end Da
/-! sorted(set(ints)) -/
namespace Ks
open PySem PySem.Spec PyProof.Rows L2
section
variable {P : Program} {w : World} {A : Around} {E : Value → Shared → Prop} {s : Shared}
theorem all_ints : ∀ {us : List Value}, (∀ v ∈ us, ∃ n t, v = Value.int n t) → ∃ ns, IntsAre us ns
  | [], _ => ⟨[], .nil⟩
  | u :: us, h => by
    obtain ⟨n, t, rfl⟩ := h u List.mem_cons_self
    obtain ⟨ns, r⟩ := all_ints fun v m => h v (List.mem_cons_of_mem _ m)
    exact ⟨n :: ns, .cons n t r⟩
theorem new_sortedI {us : List Value} {ns : List Int} {Q : Value → Shared → Prop} (h : IntsAre us ns) (z : us.length ≤ sizeLine)
    (q : ∀ (g : Heap) (out : List Value) (n : Nat), (∀ b o, s.heap.get? b = some o → g.get? b = some o) → g.get? s.heap.objs.size = some (seqObj "list" out.toArray n) → IntsAre out (out.map SrtO.iv) → (out.map SrtO.iv).Perm ns →
      (out.map SrtO.iv).Pairwise (· ≤ ·) → Q (.ref s.heap.objs.size) { s with heap := g }) :
    wpAny (model P w) A (call (.builtin "list.sort") [.ref s.heap.objs.size]) (fun _ s1 => Q (.ref s.heap.objs.size) s1) E { s with heap := s.heap.push (seqObj "list" us.toArray 0) } := by
  have ho : (s.heap.push (seqObj "list" us.toArray 0)).get? s.heap.objs.size = some (seqObj "list" us.toArray 0) := Heap.get?_push_size _ rfl
  refine wpAny_call_entry slot_list_sort ⟨_, ho, rfl⟩ entry_list_sort (SrtO.list_sort_ord SrtO.swo_int ho z (fun h2 => SrtO.ints_sortable h h2) fun out o b => ⟨_, rfl, ?_⟩) (args_list_sort _)
  obtain ⟨r1, r2, r3⟩ := SrtO.ints_out h o b
  obtain ⟨n, hn⟩ := sortedHeap_at (vs := us) (out := out.toArray) ho
  refine q _ out n (fun b o e => ?_) hn r1 r2 r3
  have hb := Heap.lt_size e
  rw [sortedHeap_old (Nat.ne_of_lt hb) (by rw [size_push'] <;> exact Nat.lt_succ_of_lt hb)]
  exact Heap.get?_push_of_some _ e
end
section
variable {X : Cx}
/-- sorted(a set of ints) -/
def rSrtSI (P : Program) (w : World) : List V → Hp → VK → Prop := fun vs H Q => ∃ (a : Addr) (L : List Key) (xs : List Int), vs = [V.ref a] ∧ H a = some (LotO P w a L) ∧ L = xs.map .inl ∧
  ∀ (ys : List Int) p, ys.Perm xs → ys.Pairwise (· ≤ ·) → H p = none → Q (.ref p) (upd H p (.lst (ys.map V.int)))
theorem cr_srtSI (calm : X.calm = true) : CallR X (.builtin "sorted") (rSrtSI X.prog X.w) := by
  intro pins s σ H vs us Q I r h
  obtain ⟨a, L, xs, rfl, ha, rfl, q⟩ := h
  obtain ⟨o, es, n, t, ho, ex, dt, ow, tb⟩ := (I.hok a _ ha).1
  rw [Vals.ref1 r]
  have sz : es.size < scanBound := by rw [ow.size]; exact ow.few
  refine Calls.call_function_entry kind_sorted plain_sorted entry_sorted (args_sorted1 _) ?_
  unfold Builtin.«sorted»
  refine wpAny_bind (m := checkCount "sorted" 1 1 _) (wpAny_pure (wpAny_bind (collect_set (A := X.A.in1) (I.ok.hd calm) ⟨o, ho, ex.1, dt⟩ tb.fit sz tb.ris tb.led fun s1 us k1 z1 g1 o1 pm => ?_)))
  have pk : (us.map kof).Perm (xs.map fun x => (.inl x : Key)) := by
    have z := pm.map kof
    rw [List.map_map] at z
    exact z.trans ow.pm
  have us_int : ∀ v ∈ us, ∃ n t, v = Value.int n t := fun v m => by
    obtain ⟨e, me, rfl⟩ := List.mem_map.mp (pm.mem_iff.mp m)
    obtain ⟨⟨k, ik, _⟩, _⟩ := ow.el e me
    have kk := (kof_is ik).1
    have := ow.pm.mem_iff.mp (List.mem_map.mpr ⟨e, me, kk⟩)
    obtain ⟨x, _, ex⟩ := List.mem_map.mp this
    subst ex
    obtain ⟨t, et⟩ := kof_rel ik
    exact ⟨_, t, et⟩
  obtain ⟨zs, hz⟩ := all_ints us_int
  have lz : us.length ≤ sizeLine := by
    rw [pm.length_eq, List.length_map, Array.length_toList]
    exact fits_of_scanBound sz
  have cz : zs.Perm xs := by
    rw [← SrtO.iv_ints hz]
    have e1 : us.map SrtO.iv = (us.map kof).map (fun k => match k with | .inl x => x | .inr _ => 0) := by
      rw [List.map_map]
      refine List.map_congr_left fun v m => ?_
      obtain ⟨x, t, rfl⟩ := us_int v m
      rfl
    rw [e1]
    have := pk.map (fun k : Key => match k with | .inl x => x | .inr _ => (0 : Int))
    rw [show (xs.map fun x => (.inl x : Key)).map (fun k : Key => match k with | .inl x => x | .inr _ => (0 : Int)) = xs from back_map (fun _ => rfl) xs] at this
    exact this
  refine wpAny_bind (wpAny_newList ?_ lz)
  refine wpAny_bind (wpAny_holding (wpAny_mono (new_sortedI (s := s1) (Q := fun v s2 => ∃ x H', Inv X pins σ H' s2 ∧ RelV x v ∧ Q x H') hz lz fun g out n k2 hg hy yp ys_s => ?_) (fun _ _ z => wpAny_pure ⟨_, rfl, z⟩) fun _ _ z => z))
  have few : ((out.map SrtO.iv).map V.int).length ≤ sizeLine := by
    have l1 := yp.length_eq
    have l2 := cz.length_eq
    have l3 := pk.length_eq
    rw [List.length_map, List.length_map] at l3
    rw [List.length_map, l1, l2, ← l3]
    exact lz
  have vo := vals_of_ints hy
  have kk : ∀ b o, s.heap.get? b = some o → g.get? b = some o := fun b o e => k2 b o (k1 b o e)
  have hn : H s1.heap.objs.size = none := I.hok.fresh z1
  have J : Inv X pins σ (upd H s1.heap.objs.size (.lst ((out.map SrtO.iv).map V.int))) { s with heap := g, gens := s1.gens, drawn := s1.drawn, toks := s1.toks } :=
    I.call (ch := []) (Un.laid kk z1 hn) (I.hok.laid kk z1 ⟨few, out, n, vo, hg⟩) (by rw [g1]; exact I.bare) (fun _ z => nomatch z)
  have e : ({ s1 with heap := g } : Shared) = { s with heap := g, gens := s1.gens, drawn := s1.drawn, toks := s1.toks } := by
    cases s1
    cases s
    cases o1
    rfl
  rw [e]
  exact ⟨.ref _, _, J, rfl, q _ _ (yp.trans cz) ys_s hn⟩
end
end Ks
namespace Da
open PySem PySem.Spec L2 PyProof.Rows
variable [Tbs]
section
variable {P : Program} {w : World} {K : PySem.W.Frag} {E B : List Addr} {ss : List Sl} {m : Bool} {o0 : Os} {te : TE}
theorem allI_is (ns : List Int) : ∃ xs : List Int, Ks.allK (ns.map .inl) = xs.map .inl ∧ xs.Nodup ∧ ∀ z, z ∈ xs ↔ z ∈ ns := by
  obtain ⟨h1, h2, h3⟩ := Ks.allK_facts (ns.map .inl)
  generalize Ks.allK (ns.map .inl) = L at h1 h3
  have all : ∀ k ∈ L, ∃ z, k = .inl z := fun k hk => by
    obtain ⟨z, _, e⟩ := List.mem_map.mp ((h3 k).mp hk)
    exact ⟨z, e.symm⟩
  have gen : ∀ L : List Key, (∀ k ∈ L, ∃ z, k = .inl z) → ∃ xs : List Int, L = xs.map .inl := fun L => by
    induction L with
    | nil => exact fun _ => ⟨[], rfl⟩
    | cons k L ih =>
      intro h
      obtain ⟨z, rfl⟩ := h k List.mem_cons_self
      obtain ⟨xs, rfl⟩ := ih fun x hx => h x (List.mem_cons_of_mem _ hx)
      exact ⟨z :: xs, rfl⟩
  obtain ⟨xs, rfl⟩ := gen L all
  refine ⟨xs, rfl, (List.pairwise_map.mp h1).imp fun {a b} h z => h (congrArg Sum.inl z), fun z => ?_⟩
  have := h3 (.inl z)
  rw [List.mem_map, List.mem_map] at this
  constructor
  · intro h
    obtain ⟨y, hy, e⟩ := this.mp ⟨z, h, rfl⟩
    cases e
    exact hy
  · intro h
    obtain ⟨y, hy, e⟩ := this.mpr ⟨z, h, rfl⟩
    cases e
    exact hy
theorem ev_srtSetI {b : Bool} {ns l : List Int} (h : EvD K E B m ss o0 te (iD b ns)) (few : ns.length ≤ 4000) (up : l.Pairwise (· < ·)) (mem : ∀ z, z ∈ l ↔ z ∈ ns) :
    EvD K E B m ss o0 (tCB (Ks.rSrtSI P w) (tCons (tCB (Ks.rSetI K P w) (tCons te tNil)) tNil)) (.lst (l.map .int)) := fun Z os σ H io A Q q => by
  refine h Z os σ H io A _ fun v d H1 g r _ e => ?_
  subst e
  obtain ⟨a, rfl, hs⟩ := sqI_of r
  refine ⟨_, ns, rfl, hs, by show ns.length + 1 < 4096; omega, fun D nD => ?_⟩
  obtain ⟨xs, e1, nd, e3⟩ := allI_is ns
  rw [e1]
  refine ⟨D, _, xs, rfl, upd_same, rfl, fun ys p pm le np => ?_⟩
  have le2 : l.Pairwise (· ≤ ·) := up.imp fun {a b} h => Int.le_of_lt h
  have nl : l.Nodup := up.imp fun {a b} h z => by omega
  have pl : l.Perm xs := (List.perm_ext_iff_of_nodup nl nd).mpr fun z => (mem z).trans (e3 z).symm
  have ey : ys = l := List.Perm.eq_of_pairwise (le := fun a b => a ≤ b) (fun a b _ _ h1 h2 => Int.le_antisymm h1 h2) le le2 (pm.trans pl.symm)
  subst ey
  have A1 := (A.go g).rg m
  refine q _ (.lst (ys.map .int)) _ ((g.trans (Go.new nD)).trans (Go.new np)) (.lst ?_ (RpAll.of_ints _)) (fun z => absurd z (by simp)) rfl
  exact (A1.go (Go.new nD)).new np
end
end Da
/-! a dict that is built: setdefault, then get; dict(pairs); loops that carry it -/
namespace Da
open PySem PySem.Spec L2 PyProof.Rows
variable [Tbs]
section
variable {K : PySem.W.Frag} {E B : List Addr} {Z : List (List Addr × Hp)} {ss : List Sl} {os : Os} {σ : L2.St} {H : Hp} {Dn : Ends} {a : Addr} {m F : Bool} {o0 : Os} {te ty : TE}
theorem RpKv.find' {k : Key} {v : V} : ∀ {vs : List (Key × V)} {ds : List (Key × D)}, RpKv K H vs ds → valV vs k = some v → ∃ d, getD? ds k = some d ∧ Rp K H v d
  | _, _, .nil, h => by cases h
  | _, _, .cons (k := k') (v := v') (d := d') b r, h => by
    unfold getD?
    rw [List.find?_cons]
    by_cases e : k' = k
    · rw [valV_pos (p := (k', v')) e] at h
      cases h
      exact ⟨d', by simp only [e, decide_true] <;> rfl, b⟩
    · rw [valV_neg (p := (k', v')) e] at h
      obtain ⟨d, h1, h2⟩ := RpKv.find' r h
      refine ⟨d, ?_, h2⟩
      simp only [e, decide_false]
      exact h1
/-- the dict is data from here on -/
theorem At.unlay {i : Nat} {vs : List (Key × V)} {kvs : List (Key × D)} (A : At K (a :: E) [] Z ss os σ H) (nE : a ∉ E) (no : a ∉ ads os) (hi : ss[i]? = some (.dat (.raw (.ref a)))) (hD : H a = some (.dK vs)) (rk : RpKv K noH vs kvs) : At K E [] Z (ss.set i (.dat (.dic kvs))) os σ H := by
  have hl : i < ss.length := by
    rcases Nat.lt_or_ge i ss.length with h | h
    · exact h
    · rw [List.getElem?_eq_none h] at hi
      cases hi
  have less : ∀ x, x ∈ ads os ++ E → x ∈ ads os ++ a :: E := fun x h => (List.mem_append.mp h).elim (fun h => List.mem_append_left _ h) fun h => List.mem_append_right _ (List.mem_cons_of_mem _ h)
  refine ⟨by simpa using A.len, A.stp, fun b hb => (nomatch hb), A.bgo, fun b hb => (nomatch hb), A.bW, fun j d h => ?_, fun j q h => ?_, fun q od h => ?_, A.nd, A.frs, fun q h z => A.oE q h (List.mem_cons_of_mem _ z), fun e he => A.ent e (List.mem_cons_of_mem _ he), A.tab⟩
  · by_cases hj : i = j
    · subst hj
      rw [List.getElem?_set_self hl] at h
      cases h
      obtain ⟨v, e, r⟩ := A.slot i _ hi
      cases r
      refine ⟨_, e, .dic (xs := vs) ?_ rk.mono'⟩
      rw [era_in (fun z => (List.mem_append.mp z).elim (fun z => no z) (fun z => nE z))]
      exact hD
    · rw [List.getElem?_set_ne hj] at h
      obtain ⟨v, h1, h2⟩ := A.slot j d h
      exact ⟨v, h1, h2.mono (era_less H less)⟩
  · by_cases hj : i = j
    · subst hj
      rw [List.getElem?_set_self hl] at h
      cases h
    · rw [List.getElem?_set_ne hj] at h
      exact A.ownS j q h
  · exact (A.own q od h).mono (fun o e _ => e) (era_less H less)
/-- d, x = {}, .. -/
theorem s_pairDic {i j : Nat} {tb : TE} {P : D → Prop} (A : At K E B Z ss os σ H) (hb : ∀ a, Ev K (a :: E) B true ss os F tb P)
    (k : ∀ a b σ' H', a ∉ ads os → a ∉ E → H a = none → P b → At K (a :: E) B Z ((ss.set i (.dat (.raw (.ref a)))).set j (.dat b)) os σ' H' → H' a = some (.dK []) → Dn.nx σ' H') : tPar i j (tCons tDNewK (tCons tb tNil)) Dn σ H :=
  fun a na => hb a Z os σ _ (fun _ z => z) (A.lay na) _ fun w b H2 g r f p =>
    ⟨.ref a, w, rfl, k a b _ H2 (fun z => A.tracked z na) (fun z => A.ent a z na) na p ((((A.lay na).go g).set (.raw _)).set r) (g.one (fun z => A.ent a (A.bE a z) na) upd_same trivial)⟩
def setD (kvs : List (Key × D)) (k : Key) (v : D) : List (Key × D) := match getD? kvs k with
  | some _ => kvs
  | none => putD kvs k v
/-- d.setdefault(p, v) -/
theorem s_setd {f r : Nat} {p v : Int} {vs : List (Key × V)} {kvs : List (Key × D)} (A : At K (a :: E) B Z ss os σ H) (hz : ∀ z, z ∈ Z → a ∈ z.1 ∨ z.2 a = none) (nB : a ∉ B) (hf : ss[f]? = some (.dat (.raw (.ref a)))) (hr : ss[r]? = some (.dat (.int p))) (he : EvD K (a :: E) B true ss os te (.int v))
    (hD : H a = some (.dK vs)) (rk : RpKv K noH vs kvs) (few : kvs.length ≤ 1000000) (k : ∀ H' vs', At K (a :: E) B Z ss os σ H' → H' a = some (.dK vs') → RpKv K noH vs' (setD kvs (.inl p) (.int v)) → Dn.nx σ H') : tDrop (tDSetd (tVar f) (tVar r) te) Dn σ H := by
  obtain ⟨v1, e1, r1⟩ := A.slot f _ hf
  obtain ⟨v2, e2, r2⟩ := A.slot r _ hr
  cases r1; cases r2
  refine ⟨_, e1, a, rfl, .inl ⟨vs, .inl hD⟩, _, e2, ?_⟩
  refine he Z os σ H (fun _ z => z) A _ fun w d H1 g r f e => ?_
  subst e
  cases r
  have hD1 : H1 a = some (.dK vs) := g.one nB hD trivial
  have A1 := A.go g
  refine ⟨vs, .inl p, hD1, rfl, by rw [rk.length]; exact Nat.lt_of_le_of_lt few (by decide), fun z hz2 => ?_, fun hn => ?_⟩
  · obtain ⟨d, q, _⟩ := rk.find' hz2
    refine k H1 vs A1 hD1 ?_
    unfold setD
    rw [q]
    exact rk
  · refine k _ _ (A1.write hD1 hz) upd_same ?_
    unfold setD
    cases q : getD? kvs (.inl p) with
    | none => exact rk.put (.int v)
    | some d =>
      obtain ⟨v, q2, _⟩ := rk.find q
      rw [hn] at q2
      cases q2
/-- d.get(k) -/
theorem ev_dget1 {kvs : List (Key × D)} {k : Key} {x : D} (h : EvD K E B m ss o0 te (.dic kvs)) (hk : EvD K E B m ss o0 ty x) (hx : ∀ H v, Rp K H v x → v = kV k) : EvD K E B m ss o0 (tDGet1 te ty) ((getD? kvs k).getD .non) := fun Z os σ H i A Q q => h Z os σ H i A _ fun v y H1 g r _ e => by
  subst e
  have r0 := r
  cases r0 with
  | dic h0 h00 =>
    refine ⟨_, rfl, .inl ⟨_, .inl (era_sub _ _ _ _ h0)⟩, ?_⟩
    refine hk Z os σ H1 i (A.go g) _ fun w z H2 g2 r2 _ e2 => ?_
    subst e2
    have r' := (A.rg m).go g |>.keep g2 r
    cases r' with
    | dic h1 h2 =>
      have e := hx _ _ r2
      subst e
      have dg := DGet.k (k := k) (era_sub _ _ _ _ h1)
      cases q2 : getD? kvs k with
      | some d =>
        obtain ⟨u, l1, l2⟩ := h2.find q2
        rw [l1] at dg
        exact ⟨_, dg, q u d H2 (g.trans g2) l2 (fun z => absurd z (by simp)) (by rw [q2] <;> rfl)⟩
      | none =>
        cases q3 : valV _ k with
        | some u =>
          obtain ⟨d, q4, _⟩ := h2.find' q3
          rw [q2] at q4
          cases q4
        | none =>
          rw [q3] at dg
          exact ⟨_, dg, q .non .non H2 (g.trans g2) .non (fun z => absurd z (by simp)) (by rw [q2] <;> rfl)⟩
/-- a loop over pairs that carries what is true of the heap -/
theorem s_for2H {wi : TI} {i1 j1 : Nat} {tb : TS} {PI : List D → Prop} (Φ : List D → Nat → Hp → Prop) (A : At K E B Z ss os σ H) (h : EvIE K E B ss os wi PI) (pr : ∀ ds, PI ds → ∀ d ∈ ds, ∃ a b, d = .tup [a, b]) (J : List D → Nat → List Sl → Os → Prop) (h0 : ∀ ds H', PI ds → Go B H H' → J ds 0 ss os ∧ Φ ds 0 H')
    (ho : ∀ ds i ss' os', J ds i ss' os' → ads os' = ads os) (hΦ : ∀ ds i H H', Φ ds i H → Go B H H' → Φ ds i H')
    (hs : ∀ ds z (i : Nat) a b ss' os' σ' H', (∀ e, e ∈ E → e ∈ z.1) → PI ds → ds[i]? = some (.tup [a, b]) → J ds i ss' os' → Φ ds i H' → At K E B (z :: Z) ((ss'.set i1 (.dat a)).set j1 (.dat b)) os' σ' H' →
      tb { Dn with nx := fun σ H => ∃ ss os, J ds (i + 1) ss os ∧ Φ ds (i + 1) H ∧ At K E B (z :: Z) ss os σ H, ct := fun σ H => ∃ ss os, J ds (i + 1) ss os ∧ Φ ds (i + 1) H ∧ At K E B (z :: Z) ss os σ H, bk := Dn.nx } σ' H')
    (hd : ∀ ds ss' os' σ' H', PI ds → J ds ds.length ss' os' → Φ ds ds.length H' → At K E B Z ss' os' σ' H' → Dn.nx σ' H') : tFor wi (gTup K 2 (gCons (gName i1) (gCons (gName j1) gNil))) tb Dn σ H :=
  h Z os σ H (fun _ z => z) A _ fun I ds H1 g it p => by
    have A1 := (A.go g).mark
    obtain ⟨j0, p0⟩ := h0 ds H1 p g
    have sub : ∀ {ss' : List Sl} {os' : Os} {σ' : L2.St} {H' : Hp}, At K E B ((ads os ++ E, H1) :: Z) ss' os' σ' H' → ∀ a o, a ∉ ads os ++ E → H1 a = some o → NT o → H' a = some o := fun A' a o n e t => (A'.stp _ List.mem_cons_self a o n e).1 t
    refine ⟨fun i mm σ H => mm = ds.length - i ∧ i ≤ ds.length ∧ ∃ ss' os', J ds i ss' os' ∧ Φ ds i H ∧ At K E B ((ads os ++ E, H1) :: Z) ss' os' σ H, ⟨ds.length, by simp, Nat.zero_le _, ss, os, j0, p0, A1⟩, ?_⟩
    rintro i mm σ' H' ⟨rfl, hi, ss', os', hj, hp, A'⟩
    have same := ho ds i ss' os' hj
    obtain ⟨f1, f2, f3⟩ := it H' (sub A') (fun a h => A'.there a (by rw [same]; exact h))
    by_cases hlt : i < ds.length
    · refine .inr ⟨f1 i hlt, fun σ H => ∃ ss os', J ds (i + 1) ss os' ∧ Φ ds (i + 1) H ∧ At K E B ((ads os ++ E, H1) :: Z) ss os' σ H, fun σ2 H2 ⟨s2, o2, j2, p2, A2⟩ => ⟨ds.length - (i + 1), by omega, rfl, hlt, s2, o2, j2, p2, A2⟩, fun x H2 y => ?_⟩
      obtain ⟨sb, d, hd1, r⟩ := f3 i x H2 hlt y
      obtain ⟨a, b, rfl⟩ := pr ds p d (List.mem_of_getElem? hd1)
      refine two_names (A'.go (.of sb)) (by rw [same]; exact r _ (fun _ h => h) (fun a h => .inl h) (fun a h => A'.there a (by rw [same]; exact h))) fun u v A2 => ?_
      exact hs ds (ads os ++ E, H1) i a b ss' os' _ H2 (fun e he => List.mem_append_right _ he) p hd1 hj (hΦ _ _ _ _ hp (.of sb)) A2
    · have : i = ds.length := by omega
      subst this
      exact .inl ⟨f2 _ (Nat.le_refl _), hd ds ss' os' σ' H' p hj hp A'.unmark⟩
/-- dict(pairs), no key twice -/
def rDictP (K : PySem.W.Frag) : List V → Hp → VK → Prop := fun xs H Q => ∃ (a : Addr) (ps : List Addr) (kvs : List (Key × V)), xs = [.ref a] ∧ SqL K H a (ps.map V.ref) ∧ Paired (fun p kv => SqT K H p [kV kv.1, kv.2]) ps kvs ∧ ∀ p, H p = none → Q (.ref p) (upd H p (.dK (mergeK [] kvs)))
def prK (kv : Int × D) : D := .tup [.int kv.1, kv.2]
theorem prsK_of {H : Hp} : ∀ {l : List (Int × D)} {ys : List V}, RpAll K H ys (l.map prK) → ∃ (ps : List Addr) (kvs : List (Key × V)), ys = ps.map V.ref ∧ Paired (fun p (kv : Key × V) => SqT K H p [kV kv.1, kv.2]) ps kvs ∧ RpKv K H kvs (l.map fun kv => (Sum.inl kv.1, kv.2)) := fun {l} => by
  induction l with
  | nil =>
    intro ys r
    cases r
    exact ⟨[], [], rfl, .nil, .nil⟩
  | cons kv l ih =>
    intro ys r
    rw [List.map_cons] at r
    cases r with
    | cons r rs =>
      obtain ⟨ps, kvs, e, p, q⟩ := ih rs
      unfold prK at r
      cases r with
      | tup h1 h2 =>
        cases h2 with
        | cons ra h2 =>
          cases h2 with
          | cons rb h3 =>
            cases h3
            cases ra
            exact ⟨_ :: ps, (.inl kv.1, _) :: kvs, by rw [e] <;> rfl, .cons h1 p, .cons rb q⟩
theorem mergeK_nd : ∀ (kvs acc : List (Key × V)), (kvs.map (·.1)).Nodup → (∀ kv ∈ kvs, ∀ x ∈ acc, x.1 ≠ kv.1) → mergeK acc kvs = acc ++ kvs
  | [], acc, _, _ => by rw [List.append_nil] <;> rfl
  | kv :: kvs, acc, nd, no => by
    show mergeK (putK acc kv.1 kv.2) kvs = _
    have e : putK acc kv.1 kv.2 = acc ++ [kv] := by
      unfold putK
      rw [if_neg]
      intro z
      obtain ⟨x, hx, h⟩ := List.any_eq_true.mp z
      exact no kv List.mem_cons_self x hx (of_decide_eq_true h)
    have nd := List.nodup_cons.mp (show (kv.1 :: kvs.map (·.1)).Nodup from nd)
    rw [e, mergeK_nd kvs _ nd.2 (fun y hy x hx => ?_), List.append_assoc] <;> try rfl
    rcases List.mem_append.mp hx with hx | hx
    · exact no y (List.mem_cons_of_mem _ hy) x hx
    · rw [List.mem_singleton.mp hx]
      exact fun z => nd.1 (z ▸ List.mem_map.mpr ⟨y, hy, rfl⟩)
theorem c_dictP {l : List (Int × D)} (nd : (l.map (·.1)).Nodup) : OpA K B (rDictP K) [.lst (l.map prK)] false (fun d => d = .dic (l.map fun kv => (Sum.inl kv.1, kv.2))) := fun R H vs A r Q q => by
  cases r with
  | cons r1 r =>
    cases r
    cases r1 with
    | lst h1 h2 =>
      obtain ⟨ps, kvs, e, p, rk⟩ := prsK_of h2
      subst e
      have sub : ∀ {x xs}, SqT K (era H R) x xs → SqT K H x xs := fun h => (era_sub H R).t h
      refine ⟨_, ps, kvs, rfl, .inl (.inl (era_sub _ _ _ _ h1)), Paired.mapP p (fun _ _ h => sub h), fun z nz => ?_⟩
      have ks := rk.keys
      have nk : (kvs.map (·.1)).Nodup := by
        rw [ks, List.map_map]
        have : (l.map ((fun x => x.1) ∘ fun kv : Int × D => ((Sum.inl kv.1 : Key), kv.2))) = (l.map (·.1)).map Sum.inl := by rw [List.map_map] <;> rfl
        rw [this]
        exact List.Pairwise.map _ (S := (· ≠ ·)) (fun a b h z => h (Sum.inl.inj z)) nd
      rw [mergeK_nd kvs [] nk (fun _ _ x hx => nomatch hx), List.nil_append]
      refine q _ _ _ (Go.new nz) (.dic (A.new nz) (rk.mono fun x o e _ => ?_)) (fun z => absurd z (by simp)) rfl
      obtain ⟨n, e⟩ := era_some e
      rw [era_in n, upd_ne (ne_of_none e nz)]
      exact e
end
end Da
/-! a def that makes lambdas and is called where no repr runs; a text that is not in a list of texts -/
namespace Da
open PySem PySem.Spec PyProof.Rows L2 LamX LamD
variable [I : Tbs]
section
variable {P : Program} {w : World} {K : PySem.W.Frag} {mg : Str → Option Value} {base : Heap}
theorem okGDC {x qual : Str} {st : Stmt} {f c : Addr} {fd : FuncData} {N ps : List Str} {k : Nat} {wb : Bool} {pre : List D → Prop} {F : Bool} {post : List D → D → Prop} (Fu : FunC K x qual st f fd c) (S : FnScope N ps (defScope st)) (len : ∀ ds, pre ds → ds.length = ps.length)
    (hbody : ∀ (A : Around) (outer : List Env) (s : Shared) (H : Hp) (E : XK), A.guards = some [] → Room k (A.deeper (envOfC qual (defScope st) s.heap.objs.size f (.ref c))) →
      ∃ t, PSs (cxOf CX0 P w K mg base N qual (defScope st) f (.ref c) A outer s H E).nox (defBody st) t ∧
        ∀ R ds σ Q, pre ds → Bags (bagsOf wb ds) R H → At K R (bagsOf wb ds) [(bagsOf wb ds, H)] (begin N ds) [] σ H → Tells K R (bagsOf wb ds) H F (post ds) Q → t { nx := fun _ H' => Q .non H', rt := Q } σ H) :
    FnG P w K mg base CX0 (k + 1) f fd ps (SpX K wb pre F post) := by
  obtain ⟨oc, od, kV, doc, pm, an, ct, osl, rfl, lk, hcd⟩ := Fu.ex
  refine fnG_of lk hcd S (fun vs H Q E h => ?_) fun A hG outer s H vs Q E hr hsp => ?_
  · obtain ⟨R, ds, _, r, p, _⟩ := h
    rw [r.length]
    exact len ds p
  · obtain ⟨R, ds, rg, r, p, q⟩ := hsp
    obtain ⟨t, ht, hq⟩ := hbody A outer s H E hG hr
    exact ⟨t, ht.nox, hq R ds _ Q p rg.bag (.start rg r) q⟩
end
section
variable {K : PySem.W.Frag} {B : List Addr}
/-- two pairs of a text and a whole number -/
theorem eqv_pair {a b : List Nat} {i j : Int} (h : PyData.eqv (D.py (.tup [.str a, .int i])) (D.py (.tup [.str b, .int j])) = true) : a = b ∧ i = j := by
  simp [D.py, pyAll, PyData.eqv, PyData.eqvAll] at h
  exact ⟨mk_inj h.1, h.2⟩
end
section
variable {K : PySem.W.Frag} {E B : List Addr} {Z : List (List Addr × Hp)} {ss : List Sl} {os : Os} {σ : L2.St} {H : Hp} {Dn : Ends}
/-- a statement, a word, the rest -/
theorem s_cut {t u : TS} (A : At K E B Z ss os σ H) (J : List Sl → Os → Prop) (h1 : At K E B Z ss os σ H → t { Dn with nx := fun σ H => ∃ ss os, J ss os ∧ At K E B Z ss os σ H } σ H)
    (h2 : ∀ ss' os' σ' H', J ss' os' → At K E B Z ss' os' σ' H' → u Dn σ' H') : Evl.tCut t u Dn σ H := ⟨_, h1 A, fun _ _ ⟨_, _, j, A'⟩ => h2 _ _ _ _ j A'⟩
end
end Da
/-! whole numbers as hexadecimal texts, bits -/
namespace Hxf
open PySem PySem.Builtin PySem.Builtin.Str PySem.Builtin.Int PySem.Builtin.Float PyProof.Rows
def hexT (n : Nat) : PySem.Str := ⟨((Nat.toDigits 16 n).map fun c => c.toNat).toArray⟩
section
variable {prog : Program} {w : World} {A : Around} {E : Value → Shared → Prop} {s : Shared}
theorem formatField_hex {n : Nat} {t : Tok} {Q : Value → Shared → Prop} (hz : (hexT n).length ≤ sizeLine) (h : Q (.str (hexT n) (s.toks + 1)) { s with toks := s.toks + 1 + 1 }) :
    wpAny (model prog w) A (formatField (.int (n : Int) t) ("x" : PySem.Str)) Q E s := by
  obtain ⟨f, hp, hty, hpr, hzz, hal, hwd, hgr, hsg, hfi, hali⟩ : ∃ f : FormatSpec, parseFormatSpec [120] "int" 62 = .ok f ∧ f.type = some 120 ∧ f.precision = none ∧ f.noNeg0 = false ∧ f.alt = false ∧ f.width = none ∧ f.grouping = none ∧ f.sign = none ∧ f.fill = 32 ∧ f.align = 62 := by
    refine ⟨_, rfl, rfl, rfl, rfl, rfl, rfl, rfl, rfl, rfl, rfl⟩
  show wpAny _ _ (holding [.int n t] (pyFormat (.int n t) "x")) Q E s
  refine wpAny_holding ?_
  unfold pyFormat
  refine wpAny_bind (wpAny_mkStr ?_ (by decide))
  refine wpAny_bind (m := callSpecial? (.int n t) (Str.ofString "__format__") [.str "x" s.toks]) (wpAny_callSpecial?_slot (name := Str.ofString "__format__") (typeIs_int _ n t) slot_int_format ?_)
  refine wpAny_call (codeAny_call_builtin slot_int_format.plain entry_int_format (slot_int_format.check _ _ _ _ _ _ _ _ (typeIs_int _ n t) (args_int_format _ _) ?_))
  unfold Builtin.«int.__format__»
  simp only [selfAndOne, noKeywords, Int.intOfSelf, asInt?, asStr?, List.isEmpty_nil, if_true, pure_bind, bind_pure, bind_assoc, show ((("x" : PySem.Str).length) == 0) = false from rfl,
    show ((("x" : PySem.Str).cps.toList.drop 1).any (· ≥ 128) || (("x" : PySem.Str).cps.getD 0 0 ≥ 128 && !([60, 62, 61, 94] : List Nat).contains (("x" : PySem.Str).cps.getD 1 0))) = false from rfl, Bool.false_eq_true, if_false,
    show (Value.str "x" s.toks == Value.none) = false from rfl]
  refine wpAny_bind (wpAny_typeNameOf (T := "str") (typeIs_str _ _ _) (by decide) fun _ => ?_)
  first | refine wpAny_bind (wpAny_typeNameOfCut_int ?_) | refine wpAny_bind (wpAny_typeNameOf_int ?_)
  simp only [show ("x" : PySem.Str).cps.toList = [120] from rfl, hp, hty]
  rw [if_pos (by decide)]
  show wpAny _ _ (if _ then _ else _) _ _ _
  rw [if_neg (by simp [hpr])]
  show wpAny _ _ (if _ then _ else _) _ _ _
  rw [if_neg (by simp [hzz])]
  show wpAny _ _ (if _ then _ else _) _ _ _
  rw [if_neg (by decide)]
  show wpAny _ _ (if ((16 : Nat) == 10) = true then _ else _) _ _ _
  rw [if_neg (by decide)]
  show wpAny _ _ (if _ then _ else _) _ _ _
  rw [if_neg (by simp [hwd])]
  show wpAny _ _ (retStr _) _ _ _
  have neg : decide ((n : Int) < 0) = false := decide_eq_false (by omega)
  have dig : (((Nat.toDigits 16 (n : Int).natAbs).map fun c => (if (120 : Nat) == 88 then c.toUpper else c).toNat)) = (Nat.toDigits 16 n).map fun c => c.toNat := List.map_congr_left fun c _ => rfl
  have ne : ((Nat.toDigits 16 n).map fun c => c.toNat).isEmpty = false := by
    have := tDigits_len_ge 16 n
    cases h : Nat.toDigits 16 n with
    | nil => rw [h] at this; simp at this
    | cons _ _ => rfl
  have eq : intField' f (decide ((n : Int) < 0)) [] (((Nat.toDigits 16 (n : Int).natAbs).map fun c => (if (120 : Nat) == 88 then c.toUpper else c).toNat)) [] 4 = hexT n := by
    rw [neg, dig]
    unfold intField' hexT
    simp [hgr, hsg, hwd, hfi, hali, ne]
  unfold retStr
  refine wpAny_bind (wpAny_mkStr (wpAny_pure ?_) ?hs2)
  case hs2 =>
    rw [← eq] at hz
    conv => lhs; arg 1; whnf
    simp only [intField', hgr, hsg, hal, Bool.false_eq_true, if_false, show ((16 : Nat) == 10) = false by decide] at hz ⊢
    exact hz
  dsimp only
  refine wpAny_bind (wpAny_isInstance (typeIs_str _ _ _) isSubtype_str_str (wpAny_pure ?_))
  rw [← eq] at h
  simp only [hal, Bool.false_eq_true, if_false]
  conv => arg 1; arg 1; whnf
  simp only [intField', hgr, hsg, hal, Bool.false_eq_true, if_false, show ((16 : Nat) == 10) = false by decide] at h ⊢
  exact h
end
end Hxf
namespace L2
open PySem PySem.Spec PyProof.Rows
section
variable {X : Cx}
/-- f"{n:x}" -/
def tHexF (te : TE) : TE := fun σ H Q => te σ H fun x H1 => ∃ n : Nat, x = .int (n : Int) ∧ (Hxf.hexT n).length ≤ sizeLine ∧ Q (.str (Hxf.hexT n)) H1
theorem pe_hexF {e : Expr} {te : TE} {p1 p2 p3 p4 : Pos} (he : PE X e te) : PE X (.JoinedStr [.FormattedValue e (-1) (some (.JoinedStr [.Constant (.str "x") 0 p1] p2)) p3] p4) (tHexF te) := by
  refine ⟨fun pins s σ H Q I h => ?_⟩
  refine wpAny_JoinedStr_one (wpAny_FormattedValue_spec (thn (he.run pins s σ H _ I h) fun v s1 hv => ?_))
  obtain ⟨x, H1, I1, r1, n, rfl, hz, q⟩ := hv
  obtain ⟨t, rfl⟩ := r1
  refine wpAny_JoinedStr_one (thn ((pe_str (X := X) (x := "x") (pos := p1)).run pins s1 σ H1 (fun v H2 => v = .str "x" ∧ H2 = H1) I1 ⟨rfl, rfl⟩) fun u s2 hu => ?_)
  obtain ⟨y, H2, I2, r2, rfl, rfl⟩ := hu
  obtain ⟨t2, rfl⟩ := r2
  exact ⟨_, t2, rfl, Hxf.formatField_hex hz ⟨.str (Hxf.hexT n), H2, I2.tok _, ⟨_, rfl⟩, q⟩⟩
end
end L2
namespace Da
open PySem L2
variable [Tbs]
section
variable {K : PySem.W.Frag} {E B : List Addr} {ss : List Sl} {m : Bool} {o0 : Os} {te ta : TE}
theorem ev_hexF {n : Nat} {s : List Nat} (h : EvD K E B m ss o0 te (.int (n : Int))) (hs : (Nat.toDigits 16 n).map (fun c => c.toNat) = s) (hz : s.length ≤ 1000000) : EvD K E B m ss o0 (tHexF te) (.str s) := fun Z os σ H i A Q q => h Z os σ H i A _ fun v d H1 g1 r1 _ e => by
  subst e
  cases r1
  have e : Hxf.hexT n = mk s := by unfold Hxf.hexT mk; rw [hs]
  refine ⟨n, rfl, by rw [e, mk_len]; exact Nat.le_trans hz (by decide), ?_⟩
  rw [e]
  exact q _ _ H1 g1 (.str s) (fun z => absurd z (by simp)) rfl
theorem zfill_mk {s : List Nat} {n z : Nat} (h : ∀ c ∈ s, 48 ≤ c) (e : s.length + z = n) (ne : s ≠ []) : Txt.zfill (mk s) (n : Int) = mk (List.replicate z 48 ++ s) := by
  unfold Txt.zfill
  rw [mk_len]
  by_cases q : z = 0
  · subst q
    rw [if_pos (by omega)] <;> rfl
  · rw [if_neg (by omega), Int.toNat_natCast, show n - s.length = z by omega]
    match s, ne, h with
    | c :: r, _, h =>
      have hc := h c List.mem_cons_self
      unfold zfilled
      have g : (mk (c :: r)).cps[0]? = some c := rfl
      rw [g]
      have : PySem.Builtin.Str.padded (mk (c :: r)) z 0 48 = mk (List.replicate z 48 ++ (c :: r)) := by
        unfold PySem.Builtin.Str.padded
        refine Str.ext' ?_
        simp [mk]
      split
      · rename_i q
        exact absurd (Option.some.inj q) (by omega)
      · rename_i q
        exact absurd (Option.some.inj q) (by omega)
      · exact this
theorem ev_zfill {s : List Nat} {n z : Nat} (h : EvD K E B m ss o0 te (.str s)) (ha : EvD K E B m ss o0 ta (.int (n : Int))) (hs : ∀ c ∈ s, 48 ≤ c) (e : s.length + z = n) (ne : s ≠ []) (hn : n ≤ 1000000) :
    EvD K E B m ss o0 (tM1 (fun x xs H Q => ∃ (a : Str) (i : Int), x = .str a ∧ xs = [.int i] ∧ PadOk i = true ∧ Q (.str (Txt.zfill a i)) H) te ta) (.str (List.replicate z 48 ++ s)) :=
  fun Z os σ H i A Q q => h Z os σ H i A _ fun v d H1 g1 r1 _ e1 => by
    subst e1
    cases r1
    refine ⟨⟨_, rfl⟩, ha Z os σ H1 i (A.go g1) _ fun w d2 H2 g2 r2 _ e2 => ?_⟩
    subst e2
    cases r2
    refine ⟨_, _, rfl, rfl, ?_, ?_⟩
    · unfold PadOk fitsSsize
      have : PySem.Builtin.Str.tooLong (n : Int).toNat = false := by
        unfold PySem.Builtin.Str.tooLong
        rw [Int.toNat_natCast, sizeLine_eq]
        exact decide_eq_false (by omega)
      rw [this]
      simp
      omega
    · rw [zfill_mk hs e ne]
      exact q _ _ H2 (g1.trans g2) (.str _) (fun z => absurd z (by simp)) rfl
theorem o_andN {a b : Nat} : Op2 K B (rI0 fun i j => .int (Builtin.bitAnd i j)) (.int (a : Int)) (.int (b : Int)) false (fun x => x = .int ((a &&& b : Nat) : Int)) := by
  have h := o_I0 (K := K) (B := B) (d := fun i j => .int (Builtin.bitAnd i j)) (i := (a : Int)) (j := (b : Int)) fun i j H => .int _
  intro R H v w hR r1 r2 Q q
  exact h R H v w hR r1 r2 Q fun z d' H' g r f e => q z d' H' g r f (by rw [e, PySem.W.os_band])
theorem o_orN {a b : Nat} : Op2 K B (rI0 fun i j => .int (Builtin.bitOr i j)) (.int (a : Int)) (.int (b : Int)) false (fun x => x = .int ((a ||| b : Nat) : Int)) := by
  have h := o_I0 (K := K) (B := B) (d := fun i j => .int (Builtin.bitOr i j)) (i := (a : Int)) (j := (b : Int)) fun i j H => .int _
  intro R H v w hR r1 r2 Q q
  exact h R H v w hR r1 r2 Q fun z d' H' g r f e => q z d' H' g r f (by rw [e, L2.bitOr_nn (by omega) (by omega)]; rfl)
theorem o_inv {i : Int} : Op1 K B (rU fun i => .int (Builtin.bitNot i)) (.int i) false (fun x => x = .int (-i - 1)) := fun R H v _ r Q q => by
  cases r
  exact ⟨_, rfl, q _ _ H .refl (.int _) (fun z => absurd z (by simp)) rfl⟩
theorem bitAnd_not (a b : Nat) : Builtin.bitAnd (a : Int) (-(b : Int) - 1) = ((a - (a &&& b) : Nat) : Int) := by
  unfold Builtin.bitAnd
  rw [decide_eq_true (show (0 : Int) ≤ (a : Int) by omega), decide_eq_false (show ¬ (0 : Int) ≤ -(b : Int) - 1 by omega)]
  show (a : Int) - (((a : Int).toNat &&& (Builtin.bitNot (-(b : Int) - 1)).toNat : Nat) : Int) = _
  have : Builtin.bitNot (-(b : Int) - 1) = (b : Int) := by show -(-(b : Int) - 1) - 1 = (b : Int); omega
  rw [this, Int.toNat_natCast, Int.toNat_natCast]
  have : a &&& b ≤ a := Nat.and_le_left
  omega
theorem o_andNot {a b : Nat} : Op2 K B (rI0 fun i j => .int (Builtin.bitAnd i j)) (.int (a : Int)) (.int (-(b : Int) - 1)) false (fun x => x = .int ((a - (a &&& b) : Nat) : Int)) := by
  have h := o_I0 (K := K) (B := B) (d := fun i j => .int (Builtin.bitAnd i j)) (i := (a : Int)) (j := -(b : Int) - 1) fun i j H => .int _
  intro R H v w hR r1 r2 Q q
  exact h R H v w hR r1 r2 Q fun z d' H' g r f e => q z d' H' g r f (by rw [e, bitAnd_not])
theorem o_shlN {a k : Nat} (h : a < 2 ^ 100000) (hk : k ≤ 100000) : Op2 K B (rI CShl fun i j => .int (i * 2 ^ j.toNat)) (.int (a : Int)) (.int (k : Int)) false (fun x => x = .int ((a <<< k : Nat) : Int)) := by
  have c : CShl (a : Int) (k : Int) := by
    refine ⟨by omega, ?_⟩
    have : Builtin.Int.intBits (a : Int) ≤ 100000 := PySem.intBits_le_iff.mpr (by rw [Int.natAbs_natCast]; exact h)
    omega
  have h := o_I (K := K) (B := B) (C := CShl) (d := fun i j => .int (i * 2 ^ j.toNat)) (i := (a : Int)) (j := (k : Int)) (fun i j H => .int _) c
  intro R H v w hR r1 r2 Q q
  exact h R H v w hR r1 r2 Q fun z d' H' g r f e => q z d' H' g r f (by rw [e, Int.toNat_natCast, Nat.shiftLeft_eq]; simp)
theorem o_shrN {a k : Nat} : Op2 K B (rI (fun _ j => 0 ≤ j) fun i j => .int (i / 2 ^ j.toNat)) (.int (a : Int)) (.int (k : Int)) false (fun x => x = .int ((a >>> k : Nat) : Int)) := by
  have h := o_shr (K := K) (B := B) (C := fun _ j => 0 ≤ j) (i := (a : Int)) (j := (k : Int)) (show (0 : Int) ≤ (k : Int) by omega)
  intro R H v w hR r1 r2 Q q
  exact h R H v w hR r1 r2 Q fun z d' H' g r f e => q z d' H' g r f (by rw [e, Int.toNat_natCast, Nat.shiftRight_eq_div_pow]; simp)
theorem c_hex {s : List Nat} (ne : s ≠ []) (hl : s.length ≤ 640) (hx : ∀ c ∈ s, Hx.IsHex c) : OpA K B rIntHex [.str s, .int 16] false (fun x => x = .int ((Hx.hexNum s : Nat) : Int)) := fun R H vs _ r Q q => by
  cases r with
  | cons r1 r =>
    cases r with
    | cons r2 r =>
      cases r
      cases r1
      cases r2
      exact ⟨s, rfl, ne, hl, hx, q _ _ H .refl (.int _) (fun z => absurd z (by simp)) rfl⟩
end
end Da
/-! counting two signs one behind the other; int(t, 16) by digits -/
namespace Da
open PySem L2
variable [Tbs]
theorem occ_all (s sub : Str) (hi limit : Nat) (no : ∀ i, Builtin.Str.subAt s sub i = true → ∀ j, i < j → j < i + sub.length → Builtin.Str.subAt s sub j = false) : ∀ (m k : Nat) (st : Array Nat × Nat), st.1.size + m ≤ limit → (∀ j, k ≤ j → Builtin.Str.subAt s sub j = true → st.2 ≤ j) →
    (forIn (List.range' k m) st (StrLaws.occBody s sub hi limit)).run.fst.toList = st.1.toList ++ (List.range' k m).filter fun i => decide (i + sub.length ≤ hi) && Builtin.Str.subAt s sub i
  | 0, k, st, _, _ => by simp
  | m + 1, k, st, h1, h2 => by
    rw [List.range'_succ, List.forIn_cons]
    unfold StrLaws.occBody
    by_cases c : k + sub.length ≤ hi ∧ Builtin.Str.subAt s sub k = true
    · rw [if_pos ⟨⟨⟨by omega, h2 k (Nat.le_refl _) c.2⟩, c.1⟩, c.2⟩]
      have ih := occ_all s sub hi limit no m (k + 1) (st.1.push k, k + sub.length) (by simp; omega) (fun j hj q => by
        rcases Nat.lt_or_ge j (k + sub.length) with z | z
        · rw [no k c.2 j (by omega) z] at q
          cases q
        · exact z)
      refine Eq.trans ih ?_
      rw [List.filter_cons, if_pos (by rw [decide_eq_true c.1, c.2]; rfl)]
      simp
    · have nc : ¬ (((st.1.size < limit ∧ st.2 ≤ k) ∧ k + sub.length ≤ hi) ∧ Builtin.Str.subAt s sub k = true) := fun z => c ⟨z.1.2, z.2⟩
      rw [if_neg nc]
      have ih := occ_all s sub hi limit no m (k + 1) (st.1, st.2) (by simp; omega) (fun j hj q => h2 j (by omega) q)
      refine Eq.trans ih ?_
      have nf : (decide (k + sub.length ≤ hi) && Builtin.Str.subAt s sub k) = false := by
        cases q : Builtin.Str.subAt s sub k with
        | false => simp
        | true =>
          rw [decide_eq_false fun z => c ⟨z, q⟩] <;> rfl
      rw [List.filter_cons, nf]
      simp
theorem subAt2 {s : List Nat} {a b i : Nat} (hi : i + 2 ≤ s.length) : Builtin.Str.subAt (mk s) (mk [a, b]) i = (s.getD i 0 == a && s.getD (i + 1) 0 == b) := by
  unfold Builtin.Str.subAt
  have e : (mk s).cps.extract i (i + (mk [a, b]).length) = #[s.getD i 0, s.getD (i + 1) 0] := by
    refine Array.ext' ?_
    show ((s.toArray.extract i (i + 2))).toList = [s.getD i 0, s.getD (i + 1) 0]
    have d1 : s.drop i = s.getD i 0 :: s.getD (i + 1) 0 :: s.drop (i + 2) := by
      rw [List.drop_eq_getElem_cons (show i < s.length by omega), List.drop_eq_getElem_cons (show i + 1 < s.length by omega), List.getD_eq_getElem?_getD, List.getD_eq_getElem?_getD, List.getElem?_eq_getElem (show i < s.length by omega), List.getElem?_eq_getElem (show i + 1 < s.length by omega)] <;> rfl
    have : (s.toArray.extract i (i + 2)).toList = (s.drop i).take 2 := by
      rw [List.extract_toArray]
      simp [List.extract_eq_drop_take]
    rw [this, d1] <;> rfl
  rw [e]
  show (#[s.getD i 0, s.getD (i + 1) 0] == #[a, b]) = _
  rw [Bool.eq_iff_iff]
  simp
theorem subAt2_no {s : List Nat} {a b i : Nat} (hi : ¬ i + 2 ≤ s.length) : Builtin.Str.subAt (mk s) (mk [a, b]) i = false := by
  unfold Builtin.Str.subAt
  refine beq_eq_false_iff_ne.mpr fun z => ?_
  have := congrArg Array.size z
  rw [Array.size_extract] at this
  have l : (mk s).cps.size = s.length := List.size_toArray
  have l2 : (mk [a, b]).cps.size = 2 := rfl
  have l3 : (mk [a, b]).length = 2 := rfl
  rw [l, l2, l3] at this
  omega
/-- text.count(two signs) -/
theorem count2 {s : List Nat} {a b : Nat} (ab : a ≠ b) (ne : s ≠ []) : Txt.count (mk s) (mk [a, b]) = (((List.range (s.length - 1)).filter fun i => s.getD i 0 == a && s.getD (i + 1) 0 == b).length : Int) := by
  have pos := List.length_pos_iff.mpr ne
  unfold Txt.count
  rw [StrLaws.occ_eq, mk_len, occ_all (mk s) (mk [a, b]) _ _ (fun i h j h1 h2 => ?_) _ _ _ (by simp) (fun j _ _ => Nat.zero_le _)]
  · congr 1
    have e : List.range' 0 (s.length + 1 - 0) = List.range (s.length - 1) ++ [s.length - 1, s.length] := by
      rw [show List.range' 0 (s.length + 1 - 0) = List.range (s.length + 1) by rw [Nat.sub_zero, List.range_eq_range']]
      obtain ⟨n, e⟩ : ∃ n, s.length = n + 1 := ⟨s.length - 1, by omega⟩
      rw [e, show n + 1 - 1 = n by omega, List.range_succ, List.range_succ, List.append_assoc] <;> rfl
    rw [e, List.filter_append]
    have z1 : ([s.length - 1, s.length].filter fun i => decide (i + (mk [a, b]).length ≤ s.length) && Builtin.Str.subAt (mk s) (mk [a, b]) i) = [] := by
      rw [List.filter_eq_nil_iff]
      intro i hi
      have : ¬ i + 2 ≤ s.length := by
        simp only [List.mem_cons, List.not_mem_nil, or_false] at hi
        omega
      rw [decide_eq_false (show ¬ i + (mk [a, b]).length ≤ s.length from this)]
      simp
    rw [z1]
    simp only [List.nil_append, List.append_nil]
    congr 1
    show ([] : List Nat) ++ _ = _
    rw [List.nil_append]
    refine List.filter_congr fun i hi => ?_
    have hi := List.mem_range.mp hi
    rw [decide_eq_true (show i + (mk [a, b]).length ≤ s.length from by show i + 2 ≤ s.length; omega), Bool.true_and, subAt2 (by omega)]
  · have l : (mk [a, b]).length = 2 := rfl
    have : j = i + 1 := by omega
    subst this
    by_cases q : i + 2 ≤ s.length
    · rw [subAt2 q] at h
      by_cases q2 : i + 1 + 2 ≤ s.length
      · rw [subAt2 q2]
        simp only [Bool.and_eq_true, beq_iff_eq] at h
        rw [h.2, beq_eq_false_iff_ne.mpr (Ne.symm ab)] <;> rfl
      · exact subAt2_no q2
    · rw [subAt2_no q] at h
      cases h
section
variable {K : PySem.W.Frag} {E B : List Addr} {ss : List Sl} {m : Bool} {o0 : Os} {te ta : TE}
theorem ev_cnt2 {s : List Nat} {a b : Nat} (h : EvD K E B m ss o0 te (.str s)) (ha : EvD K E B m ss o0 ta (.str [a, b])) (ab : a ≠ b) (ne : s ≠ []) :
    EvD K E B m ss o0 (tM1 (fun x xs H Q => ∃ a b, x = .str a ∧ xs = [.str b] ∧ Q (.int (Txt.count a b)) H) te ta) (.int (((List.range (s.length - 1)).filter fun i => s.getD i 0 == a && s.getD (i + 1) 0 == b).length : Nat)) :=
  fun Z os σ H i A Q q => h Z os σ H i A _ fun v d H1 g1 r1 _ e => by
    subst e
    cases r1
    refine ⟨⟨_, rfl⟩, ha Z os σ H1 i (A.go g1) _ fun w d2 H2 g2 r2 _ e2 => ?_⟩
    subst e2
    cases r2
    refine ⟨_, _, rfl, rfl, ?_⟩
    rw [count2 ab ne]
    exact q _ _ H2 (g1.trans g2) (.int _) (fun z => absurd z (by simp)) rfl
end
end Da
namespace Lw
open PySem L2 Da
variable [Tbs]
def topS (i : Nat) : Stmt := PySem.Challenge.pw_standwaves_k68_same_ends.main.body.getD i (.Pass ⟨0, 0, 0, 0⟩)
abbrev s_first_crowds : Stmt := topS 1
abbrev N_first_crowds : List Str := ["text", "many", "ones", "far", "signs", "standing", "resting", "crowds", "_", "beside"]
theorem sc_first_crowds : FnScope N_first_crowds ["text", "many"] (defScope s_first_crowds) := ⟨rfl, rfl, rfl, by decide +kernel, rfl, by decide +kernel, by decide +kernel⟩
abbrev s_stand_of : Stmt := topS 2
abbrev N_stand_of : List Str := ["standing", "resting", "size"]
theorem sc_stand_of : FnScope N_stand_of ["standing", "resting", "size"] (defScope s_stand_of) := ⟨rfl, rfl, rfl, by decide +kernel, rfl, by decide +kernel, by decide +kernel⟩
abbrev s_turned_by : Stmt := topS 4
abbrev N_turned_by : List Str := ["text", "places", "cut"]
theorem sc_turned_by : FnScope N_turned_by ["text", "places"] (defScope s_turned_by) := ⟨rfl, rfl, rfl, by decide +kernel, rfl, by decide +kernel, by decide +kernel⟩
abbrev s_beats_until_turns : Stmt := topS 6
abbrev N_beats_until_turns : List Str := ["text"]
theorem sc_beats_until_turns : FnScope N_beats_until_turns ["text"] (defScope s_beats_until_turns) := ⟨rfl, rfl, rfl, by decide +kernel, rfl, by decide +kernel, by decide +kernel⟩
abbrev s_number_of : Stmt := topS 7
abbrev N_number_of : List Str := ["text", "ring", "ups", "downs"]
theorem sc_number_of : FnScope N_number_of ["text"] (defScope s_number_of) := ⟨rfl, rfl, rfl, by decide +kernel, rfl, by decide +kernel, by decide +kernel⟩
abbrev s_places_of : Stmt := topS 8
abbrev N_places_of : List Str := ["number"]
theorem sc_places_of : FnScope N_places_of ["number"] (defScope s_places_of) := ⟨rfl, rfl, rfl, by decide +kernel, rfl, by decide +kernel, by decide +kernel⟩
abbrev s_late_stand : Stmt := topS 9
abbrev N_late_stand : List Str := ["text", "many", "beats", "crowds", "stand"]
theorem sc_late_stand : FnScope N_late_stand ["text", "many"] (defScope s_late_stand) := ⟨rfl, rfl, rfl, by decide +kernel, rfl, by decide +kernel, by decide +kernel⟩
abbrev s_same_end : Stmt := topS 10
abbrev N_same_end : List Str := ["one", "other", "beats"]
theorem sc_same_end : FnScope N_same_end ["one", "other"] (defScope s_same_end) := ⟨rfl, rfl, rfl, by decide +kernel, rfl, by decide +kernel, by decide +kernel⟩
abbrev s_law_bag : Stmt := topS 12
abbrev N_law_bag : List Str := ["_law_script", "_law_cell"]
theorem sc_law_bag : FnScope N_law_bag ["_law_script"] (defScope s_law_bag) := ⟨rfl, rfl, rfl, by decide +kernel, rfl, by decide +kernel, by decide +kernel⟩
abbrev s_law_take : Stmt := topS 13
abbrev N_law_take : List Str := ["_law_bag_here", "_law_many", "_law_cell", "_law_mixed", "_law_value", "_law_begin", "_law_second"]
theorem sc_law_take : FnScope N_law_take ["_law_bag_here", "_law_many"] (defScope s_law_take) := ⟨rfl, rfl, rfl, by decide +kernel, rfl, by decide +kernel, by decide +kernel⟩
abbrev s_law_alike : Stmt := topS 14
abbrev N_law_alike : List Str := ["_law_found", "_law_due_here"]
theorem sc_law_alike : FnScope N_law_alike ["_law_found", "_law_due_here"] (defScope s_law_alike) := ⟨rfl, rfl, rfl, by decide +kernel, rfl, by decide +kernel, by decide +kernel⟩
abbrev s_law_pick : Stmt := topS 15
abbrev N_law_pick : List Str := ["_law_bag_here", "_law_things"]
theorem sc_law_pick : FnScope N_law_pick ["_law_bag_here", "_law_things"] (defScope s_law_pick) := ⟨rfl, rfl, rfl, by decide +kernel, rfl, by decide +kernel, by decide +kernel⟩
abbrev s_law_text : Stmt := topS 16
abbrev N_law_text : List Str := ["_law_bag_here", "_law_rests", "_law_most", "_law_signs", "_law_k"]
theorem sc_law_text : FnScope N_law_text ["_law_bag_here", "_law_rests", "_law_most"] (defScope s_law_text) := ⟨rfl, rfl, rfl, by decide +kernel, rfl, by decide +kernel, by decide +kernel⟩
abbrev s_law_beat : Stmt := topS 17
abbrev N_law_beat : List Str := ["_law_made", "_law_text_here", "_law_table", "_law_rests", "_law_found", "_law_k", "_law_seat", "_law_sides", "_law_one"]
theorem sc_law_beat : FnScope N_law_beat ["_law_made", "_law_text_here"] (defScope s_law_beat) := ⟨rfl, rfl, rfl, by decide +kernel, rfl, by decide +kernel, by decide +kernel⟩
abbrev s_law_after : Stmt := topS 18
abbrev N_law_after : List Str := ["_law_made", "_law_text_here", "_law_many", "_law_turn"]
theorem sc_law_after : FnScope N_law_after ["_law_made", "_law_text_here", "_law_many"] (defScope s_law_after) := ⟨rfl, rfl, rfl, by decide +kernel, rfl, by decide +kernel, by decide +kernel⟩
abbrev s_law_turned : Stmt := topS 19
abbrev N_law_turned : List Str := ["_law_text_here", "_law_places", "_law_k"]
theorem sc_law_turned : FnScope N_law_turned ["_law_text_here", "_law_places"] (defScope s_law_turned) := ⟨rfl, rfl, rfl, by decide +kernel, rfl, by decide +kernel, by decide +kernel⟩
abbrev s_law_step : Stmt := topS 20
abbrev N_law_step : List Str := ["_law_many", "_law_left", "_law_right", "_law_found"]
theorem sc_law_step : FnScope N_law_step ["_law_many", "_law_left", "_law_right"] (defScope s_law_step) := ⟨rfl, rfl, rfl, by decide +kernel, rfl, by decide +kernel, by decide +kernel⟩
abbrev s_law_steps : Stmt := topS 21
abbrev N_law_steps : List Str := ["_law_rests", "_law_text_here", "_law_k"]
theorem sc_law_steps : FnScope N_law_steps ["_law_rests", "_law_text_here"] (defScope s_law_steps) := ⟨rfl, rfl, rfl, by decide +kernel, rfl, by decide +kernel, by decide +kernel⟩
abbrev s_law_even_text : Stmt := topS 22
abbrev N_law_even_text : List Str := ["_law_bag_here", "_law_rests", "_law_most", "_law_many", "_law_size", "_law_found", "_law_k"]
theorem sc_law_even_text : FnScope N_law_even_text ["_law_bag_here", "_law_rests", "_law_most"] (defScope s_law_even_text) := ⟨rfl, rfl, rfl, by decide +kernel, rfl, by decide +kernel, by decide +kernel⟩
abbrev s_law_plain_text : Stmt := topS 23
abbrev N_law_plain_text : List Str := ["_law_bag_here", "_law_most", "_law_way", "_law_found", "_law_k"]
theorem sc_law_plain_text : FnScope N_law_plain_text ["_law_bag_here", "_law_most"] (defScope s_law_plain_text) := ⟨rfl, rfl, rfl, by decide +kernel, rfl, by decide +kernel, by decide +kernel⟩
abbrev s_law_due : Stmt := topS 24
abbrev N_law_due : List Str := ["_law_one", "_law_other_here", "_law_many"]
theorem sc_law_due : FnScope N_law_due ["_law_one", "_law_other_here"] (defScope s_law_due) := ⟨rfl, rfl, rfl, by decide +kernel, rfl, by decide +kernel, by decide +kernel⟩
abbrev s_law_other : Stmt := topS 25
abbrev N_law_other : List Str := ["_law_bag_here", "_law_text_here", "_law_way", "_law_at"]
theorem sc_law_other : FnScope N_law_other ["_law_bag_here", "_law_text_here"] (defScope s_law_other) := ⟨rfl, rfl, rfl, by decide +kernel, rfl, by decide +kernel, by decide +kernel⟩
abbrev s_law : Stmt := topS 26
abbrev N_law : List Str := ["_law_script", "_law_bag_here", "_law_turn", "_law_text_here", "_law_some", "_law_told", "_law_other_here", "_law_one", "_law_due_here", "_law_k"]
theorem sc_law : FnScope N_law ["_law_script"] (defScope s_law) := ⟨rfl, rfl, rfl, by decide +kernel, rfl, by decide +kernel, by decide +kernel⟩
/-- built-in names that the text leaves as they are -/
structure Tb (mg : Str → Option Value) : Prop where
  abs : mg "abs" = none
  enumerate : mg "enumerate" = none
  int : mg "int" = none
  len : mg "len" = none
  max : mg "max" = none
  min : mg "min" = none
  range : mg "range" = none
  repr : mg "repr" = none
  str : mg "str" = none
/-! ### the bag of draws -/
theorem ret_i {te : TE} {Dn : Ends} {σ : L2.St} {H : Hp} (h : te σ H Dn.rt) : tRet te Dn σ H := h
theorem lst_i {ta : TA} {σ : L2.St} {H : Hp} {Q : VK} (h : ta σ H fun xs H1 => xs.length ≤ sizeLine ∧ ∀ p, H1 p = none → Q (.ref p) (upd H1 p (.lst xs))) : tLst ta σ H Q := h
theorem cons_c {v : V} {tr : TA} {σ : L2.St} {H : Hp} {Q : List V → Hp → Prop} (h : tr σ H fun xs H2 => Q (v :: xs) H2) : tCons (tC v) tr σ H Q := h
theorem cons_i {te : TE} {tr : TA} {σ : L2.St} {H : Hp} {Q : List V → Hp → Prop} (h : te σ H fun x H1 => tr σ H1 fun xs H2 => Q (x :: xs) H2) : tCons te tr σ H Q := h
section
variable {P : Program} {w : World} {K : PySem.W.Frag} {mg : Str → Option Value} {base : Heap}
def absD : D → D
  | .int i => .int (if i < 0 then -i else i)
  | d => d
theorem ok_law_bag {f : Addr} {fd : FuncData} (F : Fun K "_law_bag" "_law_bag" s_law_bag f fd) (T : Tb mg) : FnOk P w K mg base CX0 1 f fd ["_law_script"] (SpBag K) := by
  refine F.ok sc_law_bag (fun vs H Q E h => ?_) (fun cdv A outer s H vs Q E hr h => ?_)
  · obtain ⟨a, ns, rfl, _⟩ := h
    rfl
  · obtain ⟨a, ns, rfl, hS, hl, ht, k⟩ := h
    refine ⟨_, (pss_one (ps_ret (pe_lst (pa_cons pe_int (pa_cons pe_int (pa_cons pe_int (pa_cons (pe_lc (own := [("_law_cell", 1)]) (g := gName 1) rfl sc_law_bag.nd (pi_list (pe_slice sl_list (pv 0) po_none (po_some pe_int))) (blkOk_by (own := [("_law_cell", 1)]) (N := N_law_bag) (sc := defScope s_law_bag) (by decide +kernel)) (fun _ _ _ _ _ => pg_name (i := 1) sc_law_bag.nd rfl (Or.inl rfl)) (fun _ _ _ _ _ => pts_nil) (fun _ _ _ _ _ => (pe_callB call_abs (by rfl) T.abs (by decide +kernel) (pa_cons (pv 1) pa_nil)))) pa_nil))))))), ?_⟩
    have A0 : At K [] [] [([], H)] (begin N_law_bag [.rdl (ns.map D.int)]) [] (L2.start N_law_bag [.ref a]) H :=
      .start ⟨fun _ h => (nomatch h), fun _ h => (nomatch h), fun _ h => (nomatch h), ht⟩ (.cons (.rdl (by rw [era_nil]; exact hS) (.of_ints ns)) .nil)
    have len : (cutL (ns.map D.int) none (some 63)).length ≤ 63 := by
      unfold cutL
      rw [List.length_take, List.length_drop, List.length_map]
      omega
    refine ret_i (lst_i (cons_c (cons_c (cons_c (cons_i ?_)))))
    refine (ev_lcD (m := false) (F := false) (j := 1) (vs := [1]) absD (ei_list (ev_slR (ev_var (i := 0) rfl) eo_none (eo_someD ev_int)).f) (by decide) (Nat.le_trans len (by decide)) (fun x hx => ?_)) _ [] _ H (fun _ z => z) A0 _ fun v d H1 g r fr p => ?_
    · have hm : x ∈ ns.map D.int := by
        unfold cutL at hx
        exact List.mem_of_mem_drop (List.mem_of_mem_take hx)
      obtain ⟨i, _, rfl⟩ := List.mem_map.mp hm
      exact ev_cb (ea_consD (ev_var rfl) ea_nil) fun _ e => by
        subst e
        exact c_abs
    · obtain ⟨l, us, ds, rfl, e0, e1, e2, e3⟩ := fr rfl
      subst e0
      cases p
      refine ⟨by show 4 ≤ sizeLine; decide, fun b nb => ?_⟩
      have nlb : l ≠ b := fun z => by rw [z] at e2; rw [e2] at nb; cases nb
      have key : ∀ x ∈ (cutL (ns.map D.int) none (some 63)).map absD, ∃ i : Int, x = .int i ∧ 0 ≤ i := fun x hx => by
        obtain ⟨y, hy, rfl⟩ := List.mem_map.mp hx
        have hm : y ∈ ns.map D.int := by
          unfold cutL at hy
          exact List.mem_of_mem_drop (List.mem_of_mem_take hy)
        obtain ⟨i, _, rfl⟩ := List.mem_map.mp hm
        refine ⟨_, rfl, ?_⟩
        split <;> omega
      have gen : ∀ (vs : List V) (ds : List D), RpAll K (era H1 (l :: er false [] [])) vs ds → (∀ x ∈ ds, ∃ i : Int, x = .int i ∧ 0 ≤ i) → ∃ ms : List Int, vs = ms.map V.int ∧ ∀ z ∈ ms, 0 ≤ z := by
        intro vs ds
        induction ds generalizing vs with
        | nil =>
          intro r _
          cases r
          exact ⟨[], rfl, fun _ h => (nomatch h)⟩
        | cons d ds ih =>
          intro r hx
          cases r with
          | cons r t =>
            obtain ⟨ms, e, h⟩ := ih _ t fun x h => hx x (List.mem_cons_of_mem _ h)
            obtain ⟨i, rfl, hi⟩ := hx d List.mem_cons_self
            cases r
            refine ⟨i :: ms, by rw [e] <;> rfl, fun z hz => ?_⟩
            rcases List.mem_cons.mp hz with rfl | hz
            · exact hi
            · exact h z hz
      obtain ⟨ms, rfl, hms⟩ := gen us _ e3 key
      refine k b l _ ((Go.new (B := []) nb).tab (g.tab ht)) (g.free (B := []) (R := []) (fun _ h => (nomatch h)) nb) e1 (Ne.symm nlb) ⟨0, 1234567891, 0, ms, upd_same, ?_, by omega, by omega, by omega, by omega, hms⟩
      · rw [upd_ne nlb]
        exact e2
/-- the bag as a heap holds it, all else as it was -/
structure Bk (H0 : Hp) (b l : Addr) (ns : List Int) (H : Hp) (w c i : Int) : Prop where
  at_ : H b = some (.lst [.int w, .int c, .int i, .ref l])
  rest : ∀ a, a ≠ b → H a = H0 a
  w0 : 0 ≤ w
  c0 : 0 ≤ c
  c1 : c < 2147483647
  i0 : 0 ≤ i
theorem Bk.upd {H0 H : Hp} {b l : Addr} {ns : List Int} {w c i w' c' i' : Int} (h : Bk H0 b l ns H w c i) (hw : 0 ≤ w') (hc : 0 ≤ c') (hc1 : c' < 2147483647) (hi : 0 ≤ i') : Bk H0 b l ns (L2.upd H b (.lst [.int w', .int c', .int i', .ref l])) w' c' i' :=
  ⟨upd_same, fun a n => by rw [upd_ne n]; exact h.rest a n, hw, hc, hc1, hi⟩
/-- what a draw is handed: the bag, how many -/
def preTake (ds : List D) : Prop := ∃ (b : Addr) (n : Int), ds = [.raw (.ref b), .int n] ∧ 0 < n ∧ n.natAbs < 2 ^ 8000
def postTake (ds : List D) (d : D) : Prop := ∃ (b : Addr) (n v : Int), ds = [.raw (.ref b), .int n] ∧ d = .int v ∧ 0 ≤ v ∧ v < n
theorem ok_law_take {f : Addr} {fd : FuncData} (F : Fun K "_law_take" "_law_take" s_law_take f fd) (T : Tb mg) : FnOk P w K mg base CX0 1 f fd ["_law_bag_here", "_law_many"] (SpX K true preTake false postTake) := by
  refine F.ok sc_law_take (fun vs H Q E h => ?_) (fun cdv A outer s H vs Q E hr h => ?_)
  · obtain ⟨R, ds, _, r, ⟨b, n, rfl, _⟩, _⟩ := h
    exact r.length
  · obtain ⟨R, ds, rg, r, ⟨b, n, rfl, hn, hn2⟩, k⟩ := h
    obtain ⟨l, hlR, hB⟩ := rg.bag b (by show b ∈ [b]; simp)
    obtain ⟨w0, c0, i0, ns, e1, e2, q1, q2, q3, q4, q5⟩ := id hB
    cases r with
    | cons r1 r =>
    cases r with
    | cons r2 r =>
    cases r
    cases r1
    cases r2
    have nlb : l ≠ b := fun z => hB.ne hB z
    have fin : ∀ (H' : Hp) (w c i v : Int), Bk H b l ns H' w c i → 0 ≤ v → v < n → Q (.int v) H' := fun H' w c i v bk h0 h1 => by
      refine k _ _ H' ⟨fun a o na e => stays ?_, fun b' hb' l' hl' => ?_, fun t => ?_⟩ (.int v) (fun z => absurd z (by simp)) ⟨b, n, v, rfl, rfl, h0, h1⟩
      · rw [bk.rest a (fun z => na (by show a ∈ [b]; simp [z]))]
        exact e
      · have : b' = b := by
          have : b' ∈ [b] := hb'
          simpa using this
        subst this
        obtain ⟨_, _, _, ms, f1, f2, _⟩ := hl'
        rw [e1] at f1
        have : l' = l := by
          have := congrArg (fun o => match o with | some (HO.lst xs) => xs[3]? | _ => none) f1
          simpa using this.symm
        subst this
        exact ⟨w, c, i, ns, bk.at_, by rw [bk.rest _ nlb]; exact e2, bk.w0, bk.c0, bk.c1, bk.i0, q5⟩
      · rw [show H' = L2.upd H b (.lst [.int w, .int c, .int i, .ref l]) from funext fun a => by
          by_cases z : a = b
          · rw [z, bk.at_, upd_same]
          · rw [bk.rest a z, upd_ne z]]
        exact tabs_lst t e1
    have bk0 : Bk H b l ns H w0 c0 i0 := ⟨e1, fun _ _ => rfl, q1, q2, q3, q4⟩
    have cells : ∀ {H' : Hp} {w c i : Int}, Bk H b l ns H' w c i → SqL K H' l (ns.map V.int) := fun bk => .inl (.inl (by rw [bk.rest _ nlb]; exact e2))
    have bagS : ∀ {H' : Hp} {w c i : Int}, Bk H b l ns H' w c i → SqL K H' b [.int w, .int c, .int i, .ref l] := fun bk => .inl (.inl bk.at_)
    refine ⟨_, (Evl.pss_cut (ps_if (pt_cmpR op_eq (pe_ix ix_list (pv 0) pe_int (fun _ _ => rfl)) pe_int (nomark _)) (pss_cons (ps_set (i := 2) sc_law_take.nd rfl (Or.inl rfl) pe_int)
    (Evl.pss_cut (ps_if (pt_cmpR op_lt (pe_ix ix_list (pv 0) pe_int (fun _ _ => rfl)) (pe_callB call_len_seq (by rfl) T.len PySem.boot_len (pa_cons (pe_ix ix_list (pv 0) pe_int (fun _ _ => rfl)) pa_nil)) (nomark _)) (pss_one (ps_set (i := 2) sc_law_take.nd rfl (Or.inl rfl) (pe_ix ix_list (pe_ix ix_list (pv 0) pe_int (fun _ _ => rfl)) (pe_ix ix_list (pv 0) pe_int (fun _ _ => rfl)) (fun _ _ => rfl)))) pss_nil)
    (pss_cons (ps_augS (pv 0) pe_int get_list pe_int ip_add set_list)
    (Evl.pss_cut (ps_if (pt_cmpR op_ge (pv 2) pe_int (nomark _)) (pss_one (ps_asg (pv 2) (pg_sub (pv 0) pe_int set_list))) pss_nil)
    (pss_cons (ps_set (i := 3) sc_law_take.nd rfl (Or.inl rfl) (pe_op op_add (pe_op op_add (pe_op op_mul (pe_ix ix_list (pv 0) pe_int (fun _ _ => rfl)) pe_int) (pe_op op_mod (pe_callTy call_int1 (by rfl) T.int (by decide +kernel) (pa_cons (pv 2) pa_nil)) pe_int)) (pe_op op_mul pe_int (pe_ix ix_list (pv 0) pe_int (fun _ _ => rfl)))))
    (pss_one (ps_asg (pe_op op_mod (pe_callTy call_int1 (by rfl) T.int (by decide +kernel) (pa_cons (pv 3) pa_nil)) pe_int) (pg_sub (pv 0) pe_int set_list)))))))) pss_nil)
    (pss_cons (ps_if (pt_cmpR op_gt (pe_ix ix_list (pv 0) pe_int (fun _ _ => rfl)) pe_int (nomark _)) (pss_cons (ps_set (i := 4) sc_law_take.nd rfl (Or.inl rfl) (pe_op op_mod (pe_callTy call_int1 (by rfl) T.int (by decide +kernel) (pa_cons (pe_ix ix_list (pv 0) pe_int (fun _ _ => rfl)) pa_nil)) (pv 1)))
    (pss_cons (ps_asg (pe_op op_fdivW (pe_ix ix_list (pv 0) pe_int (fun _ _ => rfl)) (pv 1)) (pg_sub (pv 0) pe_int set_list))
    (pss_one (ps_ret (pv 4))))) pss_nil)
    (pss_cons (ps_set (i := 5) sc_law_take.nd rfl (Or.inl rfl) (pe_op op_mod (pe_callTy call_int1 (by rfl) T.int (by decide +kernel) (pa_cons (pe_op op_mul (pe_op op_add (pe_ix ix_list (pv 0) pe_int (fun _ _ => rfl)) pe_int) pe_int) pa_nil)) pe_int))
    (pss_cons (ps_set (i := 6) sc_law_take.nd rfl (Or.inl rfl) (pe_op op_mod (pe_callTy call_int1 (by rfl) T.int (by decide +kernel) (pa_cons (pe_op op_mul (pe_op op_mod (pe_callTy call_int1 (by rfl) T.int (by decide +kernel) (pa_cons (pe_op op_mul (pv 5) (pv 5)) pa_nil)) pe_int) pe_int) pa_nil)) pe_int))
    (pss_cons (ps_if (pt_cmpR op_gt (pv 1) pe_int (nomark _)) (pss_one (ps_ret (pe_op op_mod (pe_callTy call_int1 (by rfl) T.int (by decide +kernel) (pa_cons (pe_op op_add (pe_op op_mul (pv 6) pe_int) (pv 5)) pa_nil)) (pv 1)))) pss_nil)
    (pss_one (ps_ret (pe_op op_mod (pe_callTy call_int1 (by rfl) T.int (by decide +kernel) (pa_cons (pe_op op_fdiv (pv 6) pe_int) pa_nil)) (pv 1))))))))), ?_⟩
    refine ⟨fun σ H' => ∃ x2 x3 w c i, σ = [some (.ref b), some (.int n), x2, x3, none, none, none] ∧ Bk H b l ns H' w c i, ?_, ?_⟩
    · -- the bag is led on
      refine ⟨_, rfl, b, _, 0, .int w0, rfl, rfl, bagS bk0, rfl, rfl, _, rfl, ite2 (fun _ => ?_) (fun _ => ⟨none, none, w0, c0, i0, rfl, bk0⟩)⟩
      refine ⟨fun σ H' => H' = H ∧ ∃ y : Int, 0 ≤ y ∧ σ = [some (.ref b), some (.int n), some (.int y), none, none, none, none], ?_, ?_⟩
      · refine ⟨_, rfl, b, _, 2, .int i0, rfl, rfl, bagS bk0, rfl, _, rfl, b, _, 3, .ref l, rfl, rfl, bagS bk0, rfl, l, _, rfl, .inl (cells bk0), _, _, rfl, rfl, _, rfl, ite2 (fun hlt => ?_) (fun _ => ⟨rfl, 0, Int.le_refl _, rfl⟩)⟩
        have hlt : i0 < ((ns.map V.int).length : Int) := of_decide_eq_true hlt
        rw [List.length_map] at hlt
        have hk : i0.toNat < ns.length := by omega
        refine ⟨_, rfl, b, _, 3, .ref l, rfl, rfl, bagS bk0, rfl, _, rfl, b, _, 2, .int i0, rfl, rfl, bagS bk0, rfl, l, _, i0, .int ns[i0.toNat], rfl, rfl, cells bk0, ?_, rfl, ns[i0.toNat], q5 _ (List.getElem_mem hk), rfl⟩
        refine at_of (j := i0.toNat) (by omega) ?_
        rw [List.getElem?_map, List.getElem?_eq_getElem hk] <;> rfl
      · rintro σ H' ⟨rfl, y, hy, rfl⟩
        refine ⟨_, rfl, b, _, 2, .int i0, rfl, rfl, bagS bk0, rfl, i0, 1, rfl, rfl, b, _, 2, 2, rfl, rfl, bk0.at_, rfl, ?_⟩
        have bk1 : Bk H' b l ns (upd H' b (.lst [.int w0, .int c0, .int (i0 + 1), .ref l])) w0 c0 (i0 + 1) := bk0.upd q1 q2 q3 (by omega)
        refine ⟨fun σ H2 => ∃ w, Bk H' b l ns H2 w c0 (i0 + 1) ∧ σ = [some (.ref b), some (.int n), some (.int y), none, none, none, none], ?_, ?_⟩
        · refine ⟨_, rfl, _, _, rfl, rfl, _, rfl, ite2 (fun _ => ?_) (fun _ => ⟨w0, bk1, rfl⟩)⟩
          refine ⟨_, rfl, _, rfl, b, _, 0, 0, rfl, rfl, bk1.at_, rfl, y, ?_, rfl⟩
          exact bk1.upd hy q2 q3 (by omega)
        · rintro σ H2 ⟨w, bk, rfl⟩
          refine ⟨_, rfl, b, _, 1, .int c0, rfl, rfl, bagS bk, rfl, _, _, rfl, rfl, .inr ⟨by omega, by omega⟩, _, rfl, .inl ⟨_, rfl, _, _, rfl, rfl, by omega, ?_⟩⟩
          refine ⟨_, _, rfl, rfl, _, rfl, b, _, 2, .int (i0 + 1), rfl, rfl, bagS bk, rfl, _, _, rfl, rfl, .inl ⟨by omega, by omega⟩, _, _, rfl, rfl, ?_⟩
          refine ⟨_, rfl, .inl ⟨_, rfl, _, _, rfl, rfl, by omega, ?_⟩⟩
          refine ⟨_, rfl, b, _, 1, 1, rfl, rfl, bk.at_, rfl, ?_⟩
          exact ⟨_, _, w, _, i0 + 1, rfl, bk.upd bk.w0 (Int.emod_nonneg _ (by decide)) (Int.emod_lt_of_pos _ (by decide)) bk.i0⟩
    · rintro σ H' ⟨x2, x3, w, c, i, rfl, bk⟩
      refine ⟨_, rfl, b, _, 0, .int w, rfl, rfl, bagS bk, rfl, _, _, rfl, rfl, _, rfl, ite2 (fun hp => ?_) (fun _ => ?_)⟩
      · refine ⟨_, rfl, b, _, 0, .int w, rfl, rfl, bagS bk, rfl, .inl ⟨_, rfl, _, rfl, _, _, rfl, rfl, hn, ?_⟩⟩
        refine ⟨_, rfl, b, _, 0, .int w, rfl, rfl, bagS bk, rfl, _, rfl, _, _, rfl, rfl, wide_div hn hn2 (by decide) (by decide), ?_⟩
        refine ⟨_, rfl, b, _, 0, 0, rfl, rfl, bk.at_, rfl, ?_⟩
        refine ⟨_, rfl, ?_⟩
        exact fin _ _ _ _ _ (bk.upd (Int.ediv_nonneg bk.w0 (by omega)) bk.c0 bk.c1 bk.i0) (Int.emod_nonneg _ (by omega)) (Int.emod_lt_of_pos _ hn)
      · have hc := bk.c0
        have hc1 := bk.c1
        refine ⟨_, rfl, b, _, 1, .int c, rfl, rfl, bagS bk, rfl, _, _, rfl, rfl, _, _, rfl, rfl, .inr ⟨by omega, by omega⟩, .inl ⟨_, rfl, _, _, rfl, rfl, by omega, ?_⟩⟩
        generalize hb5 : (c + 1) * 39373 % 1000000007 = b5
        have h50 : 0 ≤ b5 := by rw [← hb5]; exact Int.emod_nonneg _ (by decide)
        have h51 : b5 < 1000000007 := by rw [← hb5]; exact Int.emod_lt_of_pos _ (by decide)
        refine ⟨_, rfl, _, rfl, _, _, rfl, rfl, .inl ⟨by omega, by omega⟩, .inl ⟨_, rfl, _, _, rfl, rfl, by omega, _, _, rfl, rfl, .inr ⟨by omega, by omega⟩, .inl ⟨_, rfl, _, _, rfl, rfl, by omega, ?_⟩⟩⟩
        generalize hb6 : b5 * b5 % 998244353 * 30011 % 998244353 = b6
        have h60 : 0 ≤ b6 := by rw [← hb6]; exact Int.emod_nonneg _ (by decide)
        have h61 : b6 < 998244353 := by rw [← hb6]; exact Int.emod_lt_of_pos _ (by decide)
        refine ⟨_, rfl, _, _, rfl, rfl, _, rfl, ite2 (fun _ => ?_) (fun _ => ?_)⟩
        · refine ⟨_, rfl, _, _, rfl, rfl, .inl ⟨by omega, by omega⟩, _, rfl, _, _, rfl, rfl, .inl ⟨_, rfl, _, rfl, _, _, rfl, rfl, hn, ?_⟩⟩
          exact fin _ _ _ _ _ bk (Int.emod_nonneg _ (by omega)) (Int.emod_lt_of_pos _ hn)
        · refine ⟨_, rfl, _, _, rfl, rfl, ⟨by decide, by decide⟩, .inl ⟨_, rfl, _, rfl, _, _, rfl, rfl, hn, ?_⟩⟩
          exact fin _ _ _ _ _ bk (Int.emod_nonneg _ (by omega)) (Int.emod_lt_of_pos _ hn)
end
/-! ### helpers of the law: alike, take's reading, pick, text -/
theorem wide {n : Int} (h : -1000000000000 ≤ n ∧ n ≤ 1000000000000) : n.natAbs < 2 ^ 8000 := Nat.lt_of_le_of_lt (show n.natAbs ≤ 1000000000000 by omega) (Nat.lt_of_lt_of_le (show 1000000000000 < 2 ^ 40 by decide) (Nat.pow_le_pow_right (by decide) (by decide)))
section
variable {P : Program} {w : World} {K : PySem.W.Frag} {mg : Str → Option Value} {base : Heap} {E B : List Addr} {ss : List Sl} {m : Bool} {o0 : Os}
/-- a draw below n -/
def Drw (n : Int) (d : D) : Prop := ∃ v : Int, d = .int v ∧ 0 ≤ v ∧ v < n
theorem ev_take {X : XK} {b : Addr} {i : Nat} {n : Int} {te : TE} (hi : ss[i]? = some (Sl.dat (.raw (.ref b)))) (hb : b ∈ B) (h : EvD K E B m ss o0 te (.int n)) (h0 : 0 < n) (h1 : n.natAbs < 2 ^ 8000) :
    Ev K E B m ss o0 false (tCall (SpX K true preTake false postTake) [] X (tCons (tVar i) (tCons te tNil))) (Drw n) :=
  ev_callD (ea_consD (ev_var hi) (ea_consD h ea_nil)) ⟨b, n, rfl, h0, h1⟩
    (by
      intro a ha
      have z : a = b := by simpa [bagsOf] using ha
      rw [z]
      exact hb)
    (by
      rintro d ⟨b', n', v, e, e2, h2, h3⟩
      have z : n' = n := by
        have := congrArg (fun l : List D => l[1]?) e
        simp at this
        exact this.symm
      subst z
      exact ⟨v, e2, h2, h3⟩)
def preAlike (ds : List D) : Prop := ∃ d w n, ds = [d, d] ∧ Pl w n d ∧ w ≤ 250000 ∧ n ≤ 60
def postAlike (_ : List D) (d : D) : Prop := d = .bl true
theorem ok_law_alike {f : Addr} {fd : FuncData} (F : Fun K "_law_alike" "_law_alike" s_law_alike f fd) (T : Tb mg) : FnG P w K mg base CX0 2 f fd ["_law_found", "_law_due_here"] (SpX K false preAlike false postAlike) := by
  refine okGD F sc_law_alike (fun ds ⟨d, w, n, e, _⟩ => by rw [e] <;> rfl) (fun cdv A outer s H E hG hr => ?_)
  have hu : (A.deeper (PyProof.Rows.envOfC "_law_alike" (defScope s_law_alike) s.heap.objs.size f cdv)).units + 128 < cLine := by have := hr.un; omega
  refine ⟨_, (pss_one (ps_ret (pe_and (pe_cmpR (op_eqD hr.units) (pv 0) (pv 1) (nomark _)) (pe_one (pe_cmpR op_eq (pe_callB (cr_repr hG hu) (by rfl) T.repr (by decide +kernel) (pa_cons (pv 0) pa_nil)) (pe_callB (cr_repr hG hu) (by rfl) T.repr (by decide +kernel) (pa_cons (pv 1) pa_nil)) (nomark _)))))), fun R ds σ Q hp hb A k => ?_⟩
  obtain ⟨d, w, n, rfl, pl, hw, hn⟩ := hp
  refine s_ret A (List.mem_cons_self) (Ev.impF (ev_andV (ev_op2 (ev_var (i := 0) rfl) (ev_var (i := 1) rfl) (o_eqSame pl hn)) fun _ => ev_op2 (ev_cb1 (ev_var (i := 0) rfl) (c_repr pl hw hn)) (ev_cb1 (ev_var (i := 1) rfl) (c_repr pl hw hn)) o_eqS) fun d e => ?_) hb k rfl
  show d = .bl true
  rw [e]
  simp
/-- item by place, the place drawn -/
theorem atI_draw {α : Type} {xs : List α} {v : Int} (h0 : 0 ≤ v) (h1 : v < (xs.length : Int)) : ∃ x, atI xs v = some x ∧ x ∈ xs := by
  have hk : v.toNat < xs.length := by omega
  have e : v = ((v.toNat : Nat) : Int) := by omega
  refine ⟨xs[v.toNat], ?_, List.getElem_mem hk⟩
  have := atI_nat (List.getElem?_eq_getElem hk)
  rw [← e] at this
  exact this
end
end Lw
namespace Lw
open PySem L2 Da
variable [Tbs]
section
variable {P : Program} {w : World} {K : PySem.W.Frag} {mg : Str → Option Value} {base : Heap}
/-- the signs of a rule with so many rests -/
def sgs (r : Int) : List Nat := [48, 49, 50, 51].take (r.toNat + 2)
def preText (ds : List D) : Prop := ∃ (b : Addr) (r n : Int), ds = [.raw (.ref b), .int r, .int n] ∧ 0 ≤ r ∧ r < 3 ∧ 0 < n ∧ n ≤ 1000
/-- a stand: not empty, so many seats at most, of these signs -/
structure Stand (r n : Int) (s : List Nat) : Prop where
  ne : 1 ≤ s.length
  le : (s.length : Int) ≤ n
  sg : ∀ c ∈ s, c ∈ sgs r
def postText (ds : List D) (d : D) : Prop := ∃ (b : Addr) (r n : Int) (s : List Nat), ds = [.raw (.ref b), .int r, .int n] ∧ d = .str s ∧ Stand r n s
theorem sgs_cut {r : Int} (h0 : 0 ≤ r) (h1 : r < 3) : cutL [48, 49, 50, 51] none (some (r + 2)) = sgs r := by
  have : r = 0 ∨ r = 1 ∨ r = 2 := by omega
  rcases this with rfl | rfl | rfl <;> rfl
theorem sgs_len {r : Int} (h0 : 0 ≤ r) (h1 : r < 3) : (sgs r).length = r.toNat + 2 := by
  have : r = 0 ∨ r = 1 ∨ r = 2 := by omega
  rcases this with rfl | rfl | rfl <;> rfl
theorem ok_law_text {f f1 : Addr} {fd fd1 : FuncData} {k : Nat} (F : Fun K "_law_text" "_law_text" s_law_text f fd) (T : Tb mg) (G_law_take : Gd P w K mg base k "_law_take" f1 fd1 ["_law_bag_here", "_law_many"] (SpX K true preTake false postTake)) :
    FnOk P w K mg base CX0 (k + 1) f fd ["_law_bag_here", "_law_rests", "_law_most"] (SpX K true preText false postText) := by
  refine okD F sc_law_text (fun ds ⟨b, r, n, e, _⟩ => by rw [e] <;> rfl) (fun cdv A outer s H E hr => ?_)
  refine ⟨_, (pss_cons (ps_set (i := 3) sc_law_text.nd rfl (Or.inr rfl) (pe_slice sl_str pe_str po_none (po_some (pe_op op_add (pv 1) pe_int))))
    (pss_one (ps_ret (pe_join pe_str (pe_lc (own := [("_law_k", 4)]) (g := gName 4) rfl sc_law_text.nd (pi_range1 (by rfl) T.range (pa_cons (pe_op op_add pe_int (pe_call G_law_take.ok (hr.mono (by omega)) (by rfl) G_law_take.mg G_law_take.kp G_law_take.b .nil pass0 (pa_cons (pv 0) (pa_cons (pv 2) pa_nil)))) pa_nil)) (blkOk_by (own := [("_law_k", 4)]) (N := N_law_text) (sc := defScope s_law_text) (by decide +kernel)) (fun _ _ _ _ _ => pg_name (i := 4) sc_law_text.nd rfl (Or.inl rfl)) (fun _ _ _ _ _ => pts_nil) (fun _ _ _ _ _ => (pe_ix ix_str (pv 3) (pe_call G_law_take.ok (hr.mono (by omega)) (by rfl) G_law_take.mg G_law_take.kp G_law_take.b .nil pass0 (pa_cons (pv 0) (pa_cons (pe_callB call_len_str (by rfl) T.len PySem.boot_len (pa_cons (pv 3) pa_nil)) pa_nil))) (fun _ _ => rfl)))))))), fun R ds σ Q hp hb A k => ?_⟩
  obtain ⟨b, r, n, rfl, r0, r1, n0, n1⟩ := hp
  have hlen := sgs_len r0 r1
  -- the signs
  refine s_asgD A (ev_slS (ev_str (s := [48, 49, 50, 51])) eo_none (eo_someD (ev_op2 (ev_var (i := 1) rfl) ev_int o_add)) (by decide)) fun σ H A => ?_
  rw [sgs_cut r0 r1] at A
  -- ''.join([.. for _ in range(1 + a draw)])
  refine s_ret A (List.mem_cons_self) (P := postText [.raw (.ref b), .int r, .int n]) (ev_join (ev_str (s := [])) (ev_lc (F := false) (j := 4) (vs := [4]) (PI := fun ds => ∃ n1 : Int, (1 ≤ n1 ∧ n1 ≤ n) ∧ ds = rngD 0 n1.toNat)
      (ei_imp (ei_rngR (PA := fun d => ∃ n1 : Int, d = .int n1 ∧ 1 ≤ n1 ∧ n1 ≤ n) (ev_op (ev_int (i := 1)) (ev_take (b := b) (i := 0) rfl (by simp [bagsOf]) (ev_var (i := 2) rfl) n0 (wide (by omega))) fun x y e ⟨v, e2, h0, h1⟩ => ?_) (fun d ⟨n1, e, h0, h1⟩ => ⟨n1, e, by omega, by omega⟩)) (fun ds ⟨n1, ⟨n2, e, h⟩, e2⟩ => ⟨n1, by cases e; exact h, e2⟩))
      (by decide) (fun ds ⟨n1, h, e⟩ => by rw [e, rngD_len]; omega) (fun _ _ => true) (fun _ _ d => ∃ c, d = .str [c] ∧ c ∈ sgs r) (fun _ _ _ _ _ => et_yes)
      (fun ds i x hp hx _ => ev_op (ev_var (i := 3) rfl) (ev_take (b := b) (i := 0) rfl (by simp [bagsOf]) (ev_cb1 (ev_var (i := 3) rfl) (c_lenS (by omega))) (by omega) (wide (by omega))) fun x y e ⟨v, e2, h0, h1⟩ => ?_)) fun d ⟨ds, outs, ⟨n1, hn, e⟩, e2, mk⟩ => ?_) hb k rfl
  · subst e; subst e2
    intro R H v w hR r1 r2 Q q
    exact o_add R H v w hR r1 r2 Q fun z' d' H' g r fr e => q z' d' H' g r fr ⟨_, e, by omega, by omega⟩
  · subst e; subst e2
    obtain ⟨c, hc1, hc2⟩ := atI_draw (xs := sgs r) h0 h1
    intro R H v w hR r1 r2 Q q
    exact o_ixS (by omega) hc1 R H v w hR r1 r2 Q fun z' d' H' g r fr e => q z' d' H' g r fr ⟨c, e, hc2⟩
  · subst e2
    obtain ⟨xs, rfl, hl, hx⟩ := mk.signs fun i d h => h
    subst e
    rw [filter_true, List.length_range, rngD_len] at hl
    refine ⟨xs.map fun c => [c], rfl, ?_, b, r, n, xs, rfl, ?_, ?_⟩
    · rw [sum_one, List.length_nil, Nat.mul_zero]
      omega
    · rw [joinC_nil, flat_one]
    · exact ⟨by omega, by omega, hx⟩
end
/-! ### draws, the bounds drawn -/
def IsS (d : D) : Prop := ∃ o, d = .str o
section
variable {K : PySem.W.Frag} {E B : List Addr} {ss : List Sl} {m : Bool} {o0 : Os}
theorem Op2.to {r : R2} {a b d : D} {F : Bool} {P : D → Prop} (h : Op2 K B r a b F (fun x => x = d)) (p : P d) : Op2 K B r a b F P := fun R H v w hR r1 r2 Q q => h R H v w hR r1 r2 Q fun z d' H' g r fr e => q z d' H' g r fr (e ▸ p)
theorem o_ixDraw {xs : List D} {n : Int} {y : D} {P : D → Prop} (h : Drw n y) (hn : n = (xs.length : Int)) (hp : ∀ x ∈ xs, P x) : Op2 K B (rIxL K) (.lst xs) y false P := by
  obtain ⟨v, rfl, h0, h1⟩ := h
  obtain ⟨x, h2, h3⟩ := atI_draw (xs := xs) h0 (hn ▸ h1)
  exact Op2.to (o_ixL h2) (hp x h3)
theorem ev_takeR {X : XK} {b : Addr} {i : Nat} {N : Int} {te : TE} {PN : D → Prop} (hi : ss[i]? = some (Sl.dat (.raw (.ref b)))) (hb : b ∈ B) (h : Ev K E B m ss o0 false te PN) (hn : ∀ d, PN d → ∃ n : Int, d = .int n ∧ 0 < n ∧ n ≤ N) (hN : N ≤ 1000000) :
    Ev K E B m ss o0 false (tCall (SpX K true preTake false postTake) [] X (tCons (tVar i) (tCons te tNil))) (Drw N) :=
  ev_call (ea_cons (ev_var hi) (ea_cons h ea_nil)) (by
    rintro ds ⟨x, r, rfl, rfl, y, r2, rfl, hy, rfl⟩
    obtain ⟨n, rfl, h0, h1⟩ := hn y hy
    refine ⟨⟨b, n, rfl, h0, wide (by omega)⟩, fun a ha => ?_, ?_⟩
    · have z : a = b := by simpa [bagsOf] using ha
      rw [z]
      exact hb
    · rintro d ⟨b', n', v, e, e2, h2, h3⟩
      have z : n' = n := by
        have := congrArg (fun l : List D => l[1]?) e
        simp at this
        exact this.symm
      subst z
      exact ⟨v, e2, h2, by omega⟩)
end
end Lw
namespace Lw
open PySem L2 Da
variable [Tbs]
/-! ### rules -/
/-- what a seat becomes -/
def bec (tbl sg : List Nat) (l s r : Nat) : Nat := if s = 48 then tbl.getD (2 * (if l = 49 then 1 else 0) + (if r = 49 then 1 else 0)) 0 else sg.getD ((s - 48 + 1) % sg.length) 0
/-- a table, so many rests -/
structure RuleOk (tbl : List Nat) (n : Int) : Prop where
  four : tbl.length = 4
  bits : ∀ c ∈ tbl, c = 48 ∨ c = 49
  n0 : 0 ≤ n
  n1 : n < 3
theorem sgs_le {n : Int} {c : Nat} (h : c ∈ sgs n) : 48 ≤ c ∧ c ≤ 51 := by
  have : c ∈ [48, 49, 50, 51] := List.mem_of_mem_take h
  simp at this
  omega
theorem one_digit {c : Nat} (h : 48 ≤ c ∧ c ≤ 51) : PySem.intText? (mk [c]) = some ((c : Int) - 48) := by
  have : c = 48 ∨ c = 49 ∨ c = 50 ∨ c = 51 := by omega
  have all : ∀ d : Nat, 48 ≤ d ∧ d ≤ 57 → NumText.AllDigits (mk [d]).cps.toList := fun d hd c hc => by
    have : c = d := by
      have hc : c ∈ [d] := hc
      simpa using hc
    rw [this]
    exact hd
  rw [intText_digits (all c (by omega)) (by simp [mk]) (by rw [mk_len]; simp)]
  rcases this with rfl | rfl | rfl | rfl <;> rfl
theorem sIx_in {n : Nat} {d : Nat} {i : Int} (h0 : 0 ≤ i) (h1 : i ≤ n) : HT.sIx n d (some i) = i.toNat := by
  unfold HT.sIx
  simp only
  rw [if_neg (by omega)]
  omega
def inn (tbl sg row : List Nat) : List Nat := (List.range (row.length - 2)).map fun (i : Nat) => bec tbl sg (row.getD i 0) (row.getD (i + 1) 0) (row.getD (i + 2) 0)
def rng (tbl sg s : List Nat) : List Nat := inn tbl sg ([s.getD (s.length - 1) 0] ++ s ++ [s.getD 0 0])
theorem getD_mem {xs : List Nat} {i : Nat} (h : i < xs.length) : xs.getD i 0 ∈ xs := by
  rw [List.getD_eq_getElem?_getD, List.getElem?_eq_getElem h]
  exact List.getElem_mem h
/-! ### the law's own beat -/
/-- what a stand becomes, seat by seat -/
def rngS (tbl sg s : List Nat) : List Nat := (List.range s.length).map fun (i : Nat) => bec tbl sg (s.getD (if i = 0 then s.length - 1 else i - 1) 0) (s.getD i 0) (s.getD (if i + 1 = s.length then 0 else i + 1) 0)
theorem rngS_len (tbl sg s : List Nat) : (rngS tbl sg s).length = s.length := by
  unfold rngS
  rw [List.length_map, List.length_range]
theorem rngS_get {tbl sg s : List Nat} {i : Nat} (h : i < s.length) : (rngS tbl sg s)[i]? = some (bec tbl sg (s.getD (if i = 0 then s.length - 1 else i - 1) 0) (s.getD i 0) (s.getD (if i + 1 = s.length then 0 else i + 1) 0)) := by
  unfold rngS
  rw [List.getElem?_map, List.getElem?_range h] <;> rfl
theorem getD_app1 {xs ys : List Nat} {i : Nat} (h : i < xs.length) : (xs ++ ys).getD i 0 = xs.getD i 0 := by
  rw [List.getD_eq_getElem?_getD, List.getD_eq_getElem?_getD, List.getElem?_append_left h]
theorem getD_app2 {xs ys : List Nat} {i : Nat} (h : xs.length ≤ i) : (xs ++ ys).getD i 0 = ys.getD (i - xs.length) 0 := by
  rw [List.getD_eq_getElem?_getD, List.getD_eq_getElem?_getD, List.getElem?_append_right h]
theorem around {s : List Nat} {a b : Nat} {i : Nat} (h : i < s.length) : ([a] ++ s ++ [b]).getD i 0 = (if i = 0 then a else s.getD (i - 1) 0) ∧ ([a] ++ s ++ [b]).getD (i + 1) 0 = s.getD i 0 ∧ ([a] ++ s ++ [b]).getD (i + 2) 0 = (if i + 1 = s.length then b else s.getD (i + 1) 0) := by
  have e : [a] ++ s ++ [b] = a :: (s ++ [b]) := rfl
  rw [e]
  refine ⟨?_, ?_, ?_⟩
  · by_cases h0 : i = 0
    · subst h0
      rw [if_pos rfl] <;> rfl
    · rw [if_neg h0]
      obtain ⟨j, rfl⟩ : ∃ j, i = j + 1 := ⟨i - 1, by omega⟩
      rw [List.getD_cons_succ, getD_app1 (by omega)] <;> rfl
  · rw [List.getD_cons_succ, getD_app1 h]
  · rw [List.getD_cons_succ]
    by_cases h1 : i + 1 = s.length
    · rw [if_pos h1, getD_app2 (by omega), show i + 1 - s.length = 0 by omega] <;> rfl
    · rw [if_neg h1, getD_app1 (by omega)]
theorem rng_eq (tbl sg s : List Nat) : rng tbl sg s = rngS tbl sg s := by
  unfold rng inn rngS
  have hl : ([s.getD (s.length - 1) 0] ++ s ++ [s.getD 0 0]).length - 2 = s.length := by simp
  rw [hl]
  refine List.map_congr_left fun i hi => ?_
  have hi : i < s.length := List.mem_range.mp hi
  obtain ⟨e1, e2, e3⟩ := around (a := s.getD (s.length - 1) 0) (b := s.getD 0 0) hi
  rw [e1, e2, e3]
  have q : ∀ (p : Prop) [Decidable p] (a b : Nat), s.getD (if p then a else b) 0 = if p then s.getD a 0 else s.getD b 0 := fun p _ a b => by split <;> rfl
  rw [q, q]
theorem inn_eq (tbl sg s : List Nat) : inn tbl sg s = ((rngS tbl sg s).drop 1).take (s.length - 2) := by
  unfold inn rngS
  refine List.ext_getElem (by simp; omega) fun i h1 h2 => ?_
  have h : i < s.length - 2 := by simpa using h1
  simp only [List.getElem_map, List.getElem_range, List.getElem_take, List.getElem_drop]
  rw [if_neg (by omega), if_neg (by omega)]
  rw [show 1 + i - 1 = i by omega, show 1 + i + 1 = i + 2 by omega, show 1 + i = i + 1 by omega]
theorem bec_mem {tbl : List Nat} {n : Int} {l s r : Nat} (ok : RuleOk tbl n) (h : s ∈ sgs n) : bec tbl (sgs n) l s r ∈ sgs n := by
  have len := sgs_len ok.n0 ok.n1
  unfold bec
  split
  · have lt : 2 * (if l = 49 then 1 else 0) + (if r = 49 then 1 else 0) < tbl.length := by rw [ok.four]; split <;> split <;> decide
    have m := ok.bits _ (getD_mem lt)
    have : n = 0 ∨ n = 1 ∨ n = 2 := by have := ok.n0; have := ok.n1; omega
    rcases this with rfl | rfl | rfl <;> rcases m with m | m <;> rw [m] <;> decide
  · exact getD_mem (Nat.mod_lt _ (by omega))
theorem inn_mem {tbl : List Nat} {n : Int} {s : List Nat} (ok : RuleOk tbl n) (h : ∀ c ∈ s, c ∈ sgs n) : ∀ c ∈ inn tbl (sgs n) s, c ∈ sgs n := fun c hc => by
  unfold inn at hc
  obtain ⟨i, hi, rfl⟩ := List.mem_map.mp hc
  have hi := List.mem_range.mp hi
  exact bec_mem ok (h _ (getD_mem (by omega)))
theorem rngS_mem {tbl : List Nat} {n : Int} {s : List Nat} (ok : RuleOk tbl n) (h : ∀ c ∈ s, c ∈ sgs n) : ∀ c ∈ rngS tbl (sgs n) s, c ∈ sgs n := fun c hc => by
  unfold rngS at hc
  obtain ⟨i, hi, rfl⟩ := List.mem_map.mp hc
  exact bec_mem ok (h _ (getD_mem (List.mem_range.mp hi)))
/-- the sides of a seat -/
theorem at_left {s : List Nat} {i : Nat} (h : i < s.length) : atI s ((i : Int) - 1) = some (s.getD (if i = 0 then s.length - 1 else i - 1) 0) := by
  by_cases h0 : i = 0
  · subst h0
    rw [if_pos rfl]
    have ne : s ≠ [] := fun z => by rw [z] at h; simp at h
    have q : s = s.dropLast ++ [s.getLast ne] := (List.dropLast_concat_getLast ne).symm
    have e : s.getD (s.length - 1) 0 = s.getLast ne := by
      rw [List.getD_eq_getElem?_getD, List.getElem?_eq_getElem (by omega), List.getLast_eq_getElem] <;> rfl
    rw [e]
    have := atI_last s.dropLast (s.getLast ne)
    rw [← q] at this
    exact this
  · rw [if_neg h0, show (i : Int) - 1 = ((i - 1 : Nat) : Int) by omega]
    have := atI_nat (List.getElem?_eq_getElem (show i - 1 < s.length by omega))
    rw [this, List.getD_eq_getElem?_getD, List.getElem?_eq_getElem (show i - 1 < s.length by omega)] <;> rfl
theorem at_right {s : List Nat} {i : Nat} (h : i < s.length) : atI s (((i : Int) + 1) % s.length) = some (s.getD (if i + 1 = s.length then 0 else i + 1) 0) := by
  have ne : s ≠ [] := fun z => by rw [z] at h; simp at h
  rw [atI_mod ne]
  congr 2
  by_cases h1 : i + 1 = s.length
  · rw [if_pos h1, show (i : Int) + 1 = (s.length : Int) by omega, Int.emod_self] <;> rfl
  · rw [if_neg h1, Int.emod_eq_of_lt (by omega) (by omega)]
    omega
section
variable {P : Program} {w : World} {K : PySem.W.Frag} {mg : Str → Option Value} {base : Heap}
def preBeat (ds : List D) : Prop := ∃ (tbl : List Nat) (n : Int) (s : List Nat), ds = [.tup [.str tbl, .int n], .str s] ∧ RuleOk tbl n ∧ (∀ c ∈ s, c ∈ sgs n) ∧ s.length ≤ 1000
def postBeat (f : List Nat → List Nat → List Nat → List Nat) (ds : List D) (d : D) : Prop := ∃ (tbl : List Nat) (n : Int) (s : List Nat), ds = [.tup [.str tbl, .int n], .str s] ∧ d = .str (f tbl (sgs n) s)
end
section
variable {P : Program} {w : World} {K : PySem.W.Frag} {mg : Str → Option Value} {base : Heap}
def Lbt (m t : D) (tbl : List Nat) (n : Int) (f : List Nat) : List Sl := [.dat m, .dat t, .dat (.str tbl), .dat (.int n), .dat (.str f), .any, .any, .any, .any]
theorem ok_law_beat {f : Addr} {fd : FuncData} (F : Fun K "_law_beat" "_law_beat" s_law_beat f fd) (T : Tb mg) : FnOk P w K mg base CX0 1 f fd ["_law_made", "_law_text_here"] (SpX K false preBeat false (postBeat rngS)) := by
  refine okD F sc_law_beat (fun ds ⟨_, _, _, e, _⟩ => by rw [e] <;> rfl) (fun cdv A outer s0 H E hr => ?_)
  refine ⟨_, (pss_cons (ps_asg (pv 0) (pg_tup rfl (pgs_cons (pg_name (i := 2) sc_law_beat.nd rfl (Or.inl rfl)) (pgs_cons (pg_name (i := 3) sc_law_beat.nd rfl (Or.inl rfl)) pgs_nil))))
    (pss_cons (ps_set (i := 4) sc_law_beat.nd rfl (Or.inl rfl) pe_str)
    (pss_cons (ps_for PassesOwn.never rfl (pi_enumS (by rfl) T.enumerate (pa_cons (pv 1) pa_nil)) (pg_tup rfl (pgs_cons (pg_name (i := 5) sc_law_beat.nd rfl (Or.inl rfl)) (pgs_cons (pg_name (i := 6) sc_law_beat.nd rfl (Or.inl rfl)) pgs_nil))) (pss_cons (ps_set (i := 7) sc_law_beat.nd rfl (Or.inl rfl) (pe_lst (pa_cons (pe_ix ix_str (pv 1) (pe_op op_sub (pv 5) pe_int) (fun _ _ => rfl)) (pa_cons (pe_ix ix_str (pv 1) (pe_op op_mod (pe_callTy call_int1 (by rfl) T.int (by decide +kernel) (pa_cons (pe_op op_add (pv 5) pe_int) pa_nil)) (pe_callB call_len_str (by rfl) T.len PySem.boot_len (pa_cons (pv 1) pa_nil))) (fun _ _ => rfl)) pa_nil))))
    (pss_one (ps_if (pt_cmpR op_eq (pv 6) pe_str (nomark _)) (pss_one (ps_set (i := 4) sc_law_beat.nd rfl (Or.inl rfl) (pe_op op_add_str (pv 4) (pe_ix ix_str (pv 2) (pe_callTy call_int_bit (by rfl) T.int (by decide +kernel) (pa_cons (pe_join pe_str (pe_lc (own := [("_law_one", 8)]) (g := gName 8) rfl sc_law_beat.nd (pi_list (pv 7)) (blkOk_by (own := [("_law_one", 8)]) (N := N_law_beat) (sc := defScope s_law_beat) (by decide +kernel)) (fun _ _ _ _ _ => pg_name (i := 8) sc_law_beat.nd rfl (Or.inl rfl)) (fun _ _ _ _ _ => pts_nil) (fun _ _ _ _ _ => (pe_callTy call_str_int (by rfl) T.str (by decide +kernel) (pa_cons (pe_callTy call_int1 (by rfl) T.int (by decide +kernel) (pa_cons (pe_cmpR op_eq (pv 8) pe_str (nomark _)) pa_nil)) pa_nil))))) (pa_cons pe_int pa_nil))) (fun _ _ => rfl))))) (pss_one (ps_set (i := 4) sc_law_beat.nd rfl (Or.inl rfl) (pe_op op_add_str (pv 4) (pe_ix ix_str pe_str (pe_op op_mod (pe_callTy call_int1 (by rfl) T.int (by decide +kernel) (pa_cons (pe_op op_add (pe_callTy call_int_str (by rfl) T.int (by decide +kernel) (pa_cons (pv 6) pa_nil)) pe_int) pa_nil)) (pe_op op_add (pv 3) pe_int)) (fun _ _ => rfl)))))))))
    (pss_one (ps_ret (pv 4)))))), fun R ds σ Q hp hb A k => ?_⟩
  obtain ⟨tbl, n, s, rfl, ok, sg, few⟩ := hp
  have len := sgs_len ok.n0 ok.n1
  have lo := ok.n0
  have hi := ok.n1
  refine s_pairT A (F := false) (P := fun a b => a = .str tbl ∧ b = .int n) (Ev.impF (ev_var (i := 0) rfl) fun d e => ⟨_, _, e, rfl, rfl⟩) fun a b σ H ⟨e1, e2⟩ A => ?_
  subst e1; subst e2
  dsimp only
  refine s_asgD A (ev_str (s := [])) fun σ H A => ?_
  have A := A.wk (ss' := Lbt (.tup [.str tbl, .int n]) (.str s) tbl n []) (by repeat (first | exact Wk.nil | apply Wk.same | apply Wk.any))
  dsimp only
  refine s_forE A (i1 := 5) (j1 := 6) (s := s) (ea_consD (ev_var (i := 1) rfl) ea_nil) (fun i ss' os' => ss' = Lbt (.tup [.str tbl, .int n]) (.str s) tbl n ((rngS tbl (sgs n) s).take i) ∧ os' = []) ⟨by rw [List.take_zero], rfl⟩ (fun i c ss' os' σ H hc hj A => ?_) (fun ss' os' σ H hj A => ?_)
  · obtain ⟨rfl, rfl⟩ := hj
    have hi' : i < s.length := by
      rcases Nat.lt_or_ge i s.length with h | h
      · exact h
      · rw [List.getElem?_eq_none h] at hc
        cases hc
    have ec : c = s.getD i 0 := by rw [List.getD_eq_getElem?_getD, hc] <;> rfl
    have step : (rngS tbl (sgs n) s).take (i + 1) = (rngS tbl (sgs n) s).take i ++ [bec tbl (sgs n) (s.getD (if i = 0 then s.length - 1 else i - 1) 0) c (s.getD (if i + 1 = s.length then 0 else i + 1) 0)] := by
      rw [List.take_succ, rngS_get hi', ec] <;> rfl
    have tl : ((rngS tbl (sgs n) s).take i).length ≤ 1000 := by rw [List.length_take, rngS_len]; omega
    have cs : c ∈ sgs n := by rw [ec]; exact sg _ (getD_mem hi')
    generalize ea : s.getD (if i = 0 then s.length - 1 else i - 1) 0 = a at step
    generalize eb : s.getD (if i + 1 = s.length then 0 else i + 1) 0 = b at step
    have ha := at_left hi'
    rw [ea] at ha
    have hb' := at_right hi'
    rw [eb] at hb'
    refine s_asgD A (d := .lst [.str [a], .str [b]]) (ev_lstD (ea_consD (ev_op2 (ev_var (i := 1) rfl) (ev_op2 (ev_var (i := 5) rfl) (ev_int (i := 1)) o_sub) (o_ixS (by omega) ha)) (ea_consD (ev_op2 (ev_var (i := 1) rfl) (ev_op2 (ev_cb1 (ev_op2 (ev_var (i := 5) rfl) (ev_int (i := 1)) o_add) c_intI) (ev_cb1 (ev_var (i := 1) rfl) (c_lenS (by omega))) (o_mod (by omega))) (o_ixS (by omega) hb')) ea_nil)) (by show (2 : Nat) ≤ 1000; decide)) fun σ H A => ?_
    dsimp only
    refine s_if A (et_testD (ev_op2 (ev_var (i := 6) rfl) (ev_str (s := [48])) o_eqS)) (fun H hc A => ?_) (fun H hc A => ?_)
    · have e : c = 48 := by
        have := of_decide_eq_true hc.symm
        simpa using this
      have bit : ∀ x : Nat, IsBit (if x = 49 then 49 else 48) := fun x => by
        unfold IsBit
        split <;> omega
      have ix : atI tbl ((bitNum [if a = 49 then 49 else 48, if b = 49 then 49 else 48] : Nat) : Int) = some (tbl.getD (2 * (if a = 49 then 1 else 0) + (if b = 49 then 1 else 0)) 0) := by
        have q : bitNum [if a = 49 then 49 else 48, if b = 49 then 49 else 48] = 2 * (if a = 49 then 1 else 0) + (if b = 49 then 1 else 0) := by
          by_cases h1 : a = 49 <;> by_cases h2 : b = 49 <;> simp [h1, h2, bitNum]
        have lt : 2 * (if a = 49 then 1 else 0) + (if b = 49 then 1 else 0) < tbl.length := by rw [ok.four]; split <;> split <;> decide
        rw [q, atI_nat (List.getElem?_eq_getElem lt), List.getD_eq_getElem?_getD, List.getElem?_eq_getElem lt] <;> rfl
      refine s_asgD A (d := .str ((rngS tbl (sgs n) s).take (i + 1))) (Ev.impF (ev_op2 (ev_var (i := 4) rfl) (ev_op2 (ev_var (i := 2) rfl) (ev_cb (PR := fun ds => ds = [.str [if a = 49 then 49 else 48, if b = 49 then 49 else 48], .int 2]) (ea_consD (ev_join (P := fun d => d = .str [if a = 49 then 49 else 48, if b = 49 then 49 else 48]) (ev_str (s := [])) (ev_lcD (m := true) (F := false) (fun d => match d with | .str [x] => .str [if x = 49 then 49 else 48] | d => d) (ei_list (ev_var (i := 7) rfl)) (by decide) (by show (2 : Nat) ≤ 1000000; decide) (fun x hx => ?_)) fun d e => ?_) (ea_consD (ev_int (i := 2)) ea_nil)) (fun _ e => by subst e; exact c_intBit (by simp [bit]) (by simp) (by show (2 : Nat) ≤ 640; decide))) (o_ixS (by rw [ok.four]; decide) ix)) (o_addS (by show _ + 1 ≤ 1000000; omega))) fun d e2 => ?_) fun σ H A => ?_
      · have hx : x = .str [a] ∨ x = .str [b] := by simpa using hx
        have one : ∀ y : Nat, decide ([y] = [49]) = decide (y = 49) := fun y => decide_eq_decide.mpr (by simp)
        have w : ∀ y : Nat, x = .str [y] → EvD K R (bagsOf false [.tup [.str tbl, .int n], .str s]) true ((wip ((((Lbt (.tup [.str tbl, .int n]) (.str s) tbl n ((rngS tbl (sgs n) s).take i)).set 5 (.dat (.int i))).set 6 (.dat (.str [c]))).set 7 (.dat (.lst [.str [a], .str [b]]))) [8]).set 8 (.dat x)) [] _ (.str [if y = 49 then 49 else 48]) := fun y e => by
          subst e
          refine (ev_cb1 (ev_cb1 (ev_op2 (ev_var (i := 8) rfl) (ev_str (s := [49])) o_eqS) c_intB) c_strB).impF fun d e => ?_
          rw [e, one]
          by_cases h : y = 49 <;> simp [h]
        rcases hx with rfl | rfl
        · exact w a rfl
        · exact w b rfl
      · exact ⟨[[if a = 49 then 49 else 48], [if b = 49 then 49 else 48]], e, by simp, rfl⟩
      · rw [e2, step]
        congr 2
        unfold bec
        rw [if_pos e]
      exact ⟨_, _, ⟨rfl, rfl⟩, A.wk (by repeat (first | exact Wk.nil | apply Wk.same | apply Wk.any))⟩
    · have e : c ≠ 48 := fun z => by
        have := of_decide_eq_false hc.symm
        exact this (by rw [z])
      have sl := sgs_le cs
      have ix : atI [48, 49, 50, 51] (((c : Int) - 48 + 1) % (n + 2)) = some ((sgs n).getD ((c - 48 + 1) % (sgs n).length) 0) := by
        have h3 : n = 0 ∨ n = 1 ∨ n = 2 := by omega
        have h4 : c = 49 ∨ c = 50 ∨ c = 51 := by omega
        rcases h3 with rfl | rfl | rfl <;> rcases h4 with rfl | rfl | rfl <;> rfl
      refine s_asgD A (d := .str ((rngS tbl (sgs n) s).take (i + 1))) (Ev.impF (ev_op2 (ev_var (i := 4) rfl) (ev_op2 (ev_str (s := [48, 49, 50, 51])) (ev_op2 (ev_cb1 (ev_op2 (ev_cb1 (ev_var (i := 6) rfl) (c_intS (one_digit sl) (by show (1 : Nat) ≤ 640; decide))) (ev_int (i := 1)) o_add) c_intI) (ev_op2 (ev_var (i := 3) rfl) (ev_int (i := 2)) o_add) (o_mod (by omega))) (o_ixS (by decide) ix)) (o_addS (by show _ + 1 ≤ 1000000; omega))) fun d e2 => ?_) fun σ H A => ?_
      · rw [e2, step]
        congr 2
        unfold bec
        rw [if_neg e]
      exact ⟨_, _, ⟨rfl, rfl⟩, A.wk (by repeat (first | exact Wk.nil | apply Wk.same | apply Wk.any))⟩
  obtain ⟨rfl, rfl⟩ := hj
  refine s_ret A List.mem_cons_self (P := postBeat rngS [.tup [.str tbl, .int n], .str s]) (Ev.impF (ev_var (i := 4) rfl) fun d e => ⟨tbl, n, s, rfl, ?_⟩) hb k rfl
  rw [e, List.take_of_length_le (by rw [rngS_len]; exact Nat.le_refl _)]
end
end Lw
namespace Lw
open PySem L2 Da
variable [Tbs]
section
variable {P : Program} {w : World} {K : PySem.W.Frag} {mg : Str → Option Value} {base : Heap}
theorem bag1 {b : Addr} {B : List Addr} {r : List D} (h : b ∈ B) : ∀ a, a ∈ bagsOf true (.raw (.ref b) :: r) → a ∈ B := fun a ha => by
  have z : a = b := by simpa [bagsOf] using ha
  rw [z]
  exact h
theorem cut_sub {α : Type} {xs : List α} {lo hi : Option Int} : ∀ c ∈ cutL xs lo hi, c ∈ xs := fun c h => List.mem_of_mem_drop (List.mem_of_mem_take h)
theorem cut_le {α : Type} {xs : List α} {lo hi : Option Int} : (cutL xs lo hi).length ≤ xs.length := by
  unfold cutL
  rw [List.length_take, List.length_drop]
  omega
theorem sgs_low {n : Int} {s : List Nat} (h : ∀ c ∈ s, c ∈ sgs n) : ∀ c ∈ s, c < 128 := fun c hc => by
  have := sgs_le (h c hc)
  omega
def SpLaw (K : PySem.W.Frag) : Sp := fun vs H Q _ => ∃ (a : Addr) (ns : List Int), vs = [.ref a] ∧ SqL K H a (ns.map V.int) ∧ ns.length ≤ 63 ∧ Da.Tbl Tbs.tabs H ∧ ∀ H', Q (.bl true) H'
theorem ev_beat {E B : List Addr} {ss : List Sl} {m : Bool} {o0 : Os} {X : XK} {t : TA} {tbl s : List Nat} {n : Int} {f : List Nat → List Nat → List Nat → List Nat} (ht : EaD K E B m ss o0 t [.tup [.str tbl, .int n], .str s]) (ok : RuleOk tbl n) (sg : ∀ c ∈ s, c ∈ sgs n) (few : s.length ≤ 1000) :
    EvD K E B m ss o0 (tCall (SpX K false preBeat false (postBeat f)) [] X t) (.str (f tbl (sgs n) s)) :=
  ev_callD ht ⟨tbl, n, s, rfl, ok, sg, few⟩ (by intro _ h; cases h) (by
    rintro d ⟨tbl', n', s', e, e2⟩
    cases e
    exact e2)
theorem ev_textB {E B : List Addr} {ss : List Sl} {m : Bool} {o0 : Os} {X : XK} {b : Addr} {i : Nat} {r N : Int} {te tr : TE} (hi : ss[i]? = some (Sl.dat (.raw (.ref b)))) (hb : b ∈ B) (h0 : 0 ≤ r) (h1 : r < 3) (hr : EvD K E B m ss o0 tr (.int r)) (h : EvD K E B m ss o0 te (.int N)) (n0 : 0 < N) (n1 : N ≤ 1000) :
    Ev K E B m ss o0 false (tCall (SpX K true preText false postText) [] X (tCons (tVar i) (tCons tr (tCons te tNil)))) (fun d => ∃ s, d = .str s ∧ Stand r N s) :=
  ev_callD (ea_consD (ev_var hi) (ea_consD hr (ea_consD h ea_nil))) ⟨b, r, N, rfl, h0, h1, n0, n1⟩ (bag1 hb) (by
    rintro d ⟨b', r', n', s, e, e2, st⟩
    cases e
    exact ⟨s, e2, st⟩)
theorem ev_alike {E B : List Addr} {ss : List Sl} {m : Bool} {o0 : Os} {X : XK} {t : TA} {d : D} {w n : Nat} (ht : EaD K E B m ss o0 t [d, d]) (pl : Pl w n d) (hw : w ≤ 250000) (hn : n ≤ 60) : EvD K E B m ss o0 (tCall (SpX K false preAlike false postAlike) [] X t) (.bl true) :=
  ev_callD ht ⟨d, w, n, rfl, pl, hw, hn⟩ (by intro _ h; cases h) fun d e => e
end
/-! ### runs -/
/-- what is done so many times -/
def itr (f : List Nat → List Nat) : Nat → List Nat → List Nat
  | 0, s => s
  | k + 1, s => f (itr f k s)
theorem itr_len {f : List Nat → List Nat} (h : ∀ s, (f s).length ≤ s.length) : ∀ (k : Nat) (s : List Nat), (itr f k s).length ≤ s.length
  | 0, _ => Nat.le_refl _
  | k + 1, s => Nat.le_trans (h _) (itr_len h k s)
theorem itr_mem {f : List Nat → List Nat} {p : Nat → Prop} (h : ∀ s, (∀ c ∈ s, p c) → ∀ c ∈ f s, p c) : ∀ (k : Nat) (s : List Nat), (∀ c ∈ s, p c) → ∀ c ∈ itr f k s, p c
  | 0, _, hs => hs
  | k + 1, s, hs => h _ (itr_mem h k s hs)
theorem itr_ne {f : List Nat → List Nat} (h : ∀ s, s ≠ [] → f s ≠ []) : ∀ (k : Nat) (s : List Nat), s ≠ [] → itr f k s ≠ []
  | 0, _, hs => hs
  | k + 1, s, hs => h _ (itr_ne h k s hs)
theorem itr_nil {f : List Nat → List Nat} (h : f [] = []) : ∀ k : Nat, itr f k [] = []
  | 0 => rfl
  | k + 1 => by
    show f (itr f k []) = []
    rw [itr_nil h k, h]
theorem inn_le (tbl sg s : List Nat) : (inn tbl sg s).length ≤ s.length := by
  unfold inn
  rw [List.length_map, List.length_range]
  omega
theorem rngS_ne {tbl sg s : List Nat} (h : s ≠ []) : rngS tbl sg s ≠ [] := fun z => by
  have := rngS_len tbl sg s
  rw [z] at this
  exact h (List.length_eq_zero_iff.mp this.symm)
def runD (f : List Nat → List Nat) (s : List Nat) (j : Nat) : List D := (List.range j).map fun (i : Nat) => D.str (itr f i s)
theorem runD_len (f : List Nat → List Nat) (s : List Nat) (j : Nat) : (runD f s j).length = j := by
  unfold runD
  rw [List.length_map, List.length_range]
theorem runD_succ (f : List Nat → List Nat) (s : List Nat) (j : Nat) : runD f s (j + 1) = runD f s j ++ [.str (itr f j s)] := by
  unfold runD
  rw [List.range_succ, List.map_append] <;> rfl
theorem itr_rlen {tbl sg : List Nat} : ∀ (k : Nat) (s : List Nat), (itr (rngS tbl sg) k s).length = s.length
  | 0, _ => rfl
  | k + 1, s => by
    show (rngS tbl sg (itr (rngS tbl sg) k s)).length = s.length
    rw [rngS_len, itr_rlen k s]
section
variable {P : Program} {w : World} {K : PySem.W.Frag} {mg : Str → Option Value} {base : Heap}
def preTurn (ds : List D) : Prop := ∃ (s : List Nat) (p : Int), ds = [.str s, .int p] ∧ s ≠ [] ∧ s.length ≤ 1000
def postTurn (ds : List D) (d : D) : Prop := ∃ (s : List Nat) (p : Int), ds = [.str s, .int p] ∧ d = .str (trn s p)
theorem ok_turned_by {f : Addr} {fd : FuncData} (F : Fun K "turned_by" "turned_by" s_turned_by f fd) (T : Tb mg) : FnOk P w K mg base CX0 1 f fd ["text", "places"] (SpX K false preTurn false postTurn) := by
  refine okD F sc_turned_by (fun ds ⟨s, p, e, _⟩ => by rw [e] <;> rfl) (fun cdv A outer s0 H E hr => ?_)
  refine ⟨_, (pss_cons (ps_set (i := 2) sc_turned_by.nd rfl (Or.inl rfl) (pe_op op_sub (pe_callB call_len_str (by rfl) T.len PySem.boot_len (pa_cons (pv 0) pa_nil)) (pe_op op_mod (pv 1) (pe_callB call_len_str (by rfl) T.len PySem.boot_len (pa_cons (pv 0) pa_nil)))))
    (pss_one (ps_ret (pe_op op_add_str (pe_slice sl_str (pv 0) (po_some (pv 2)) po_none) (pe_slice sl_str (pv 0) po_none (po_some (pv 2))))))), fun R ds σ Q hp hb A k => ?_⟩
  obtain ⟨s, p, rfl, hne, hz⟩ := hp
  have hl : 0 < s.length := List.length_pos_iff.mpr hne
  -- cut = len(text) - places % len(text)
  refine s_asgD A (ev_op2 (ev_cb1 (ev_var (i := 0) rfl) (c_lenS (by omega))) (ev_op2 (ev_var (i := 1) rfl) (ev_cb1 (ev_var (i := 0) rfl) (c_lenS (by omega))) (o_mod (by omega))) o_sub) fun σ H A => ?_
  -- return text[cut:] + text[:cut]
  refine s_ret A List.mem_cons_self (P := postTurn [.str s, .int p]) (Ev.impF (ev_op2 (ev_slS (ev_var (i := 0) rfl) (eo_someD (ev_var (i := 2) rfl)) eo_none (by omega)) (ev_slS (ev_var (i := 0) rfl) eo_none (eo_someD (ev_var (i := 2) rfl)) (by omega)) (o_addS (by rw [← List.length_append, trn_cut hne, trn_len]; omega))) fun d e => ?_) hb k rfl
  exact ⟨s, p, rfl, by rw [e, trn_cut hne]⟩
end
end Lw
namespace Lw
open PySem L2 Da
variable [Tbs]
/-! ### stands read round and round -/
def cyc (s : List Nat) (j : Int) : Nat := s.getD (j % (s.length : Int)).toNat 0
theorem cyc_ext {a b : List Nat} (hl : a.length = b.length) (h : ∀ i : Nat, i < a.length → cyc a i = cyc b i) : a = b := by
  refine List.ext_getElem hl fun i h1 h2 => ?_
  have := h i h1
  unfold cyc at this
  rw [← hl, Int.emod_eq_of_lt (by omega) (by omega), Int.toNat_natCast, List.getD_eq_getElem?_getD, List.getD_eq_getElem?_getD, List.getElem?_eq_getElem h1, List.getElem?_eq_getElem h2] at this
  exact this
theorem cyc_mod (s : List Nat) (j : Int) : cyc s (j % s.length) = cyc s j := by
  unfold cyc
  rw [Int.emod_emod_of_dvd _ (Int.dvd_refl _)]
theorem cyc_at {s : List Nat} {i : Nat} (h : i < s.length) : cyc s i = s.getD i 0 := by
  unfold cyc
  rw [Int.emod_eq_of_lt (by omega) (by omega), Int.toNat_natCast]
theorem cyc_add {s : List Nat} (j m : Int) : cyc s (j + m * s.length) = cyc s j := by
  unfold cyc
  rw [Int.add_mul_emod_self_right]
/-- a number within -/
theorem mod_nat {s : List Nat} (h : s ≠ []) (j : Int) : ∃ i : Nat, i < s.length ∧ j % (s.length : Int) = i := by
  have hl : 0 < s.length := List.length_pos_iff.mpr h
  have h0 := Int.emod_nonneg j (show (s.length : Int) ≠ 0 by omega)
  have h1 := Int.emod_lt_of_pos j (show (0 : Int) < s.length by omega)
  exact ⟨(j % (s.length : Int)).toNat, by omega, by omega⟩
theorem cyc_trn {s : List Nat} (h : s ≠ []) (p j : Int) : cyc (trn s p) j = cyc s (j - p) := by
  obtain ⟨i, hi, e⟩ := mod_nat h j
  rw [← cyc_mod (trn s p), trn_len, e, cyc_at (by rw [trn_len]; exact hi), List.getD_eq_getElem?_getD, trn_get hi]
  show cyc s ((i : Int) - p) = _
  rw [← e, ← cyc_mod s (j % (s.length : Int) - p), ← cyc_mod s (j - p), Int.emod_sub_emod]
theorem trn_ne {s : List Nat} (h : s ≠ []) (p : Int) : trn s p ≠ [] := fun z => by
  have := trn_len s p
  rw [z] at this
  exact h (List.length_eq_zero_iff.mp this.symm)
theorem cyc_rng {tbl sg s : List Nat} (h : s ≠ []) (j : Int) : cyc (rngS tbl sg s) j = bec tbl sg (cyc s (j - 1)) (cyc s j) (cyc s (j + 1)) := by
  obtain ⟨i, hi, e⟩ := mod_nat h j
  have hl : 0 < s.length := List.length_pos_iff.mpr h
  rw [← cyc_mod (rngS tbl sg s), rngS_len, e, cyc_at (by rw [rngS_len]; exact hi), List.getD_eq_getElem?_getD, rngS_get hi]
  have e1 : cyc s (j - 1) = s.getD (if i = 0 then s.length - 1 else i - 1) 0 := by
    rw [← cyc_mod s (j - 1), ← Int.emod_sub_emod, e]
    by_cases h0 : i = 0
    · rw [if_pos h0, h0, cyc_mod, ← cyc_add ((0 : Nat) - 1) 1, ← cyc_at (by omega)]
      congr 1
      omega
    · rw [if_neg h0, cyc_mod, ← cyc_at (by omega)]
      congr 1
      omega
  have e2 : cyc s j = s.getD i 0 := by rw [← cyc_mod, e, cyc_at hi]
  have e3 : cyc s (j + 1) = s.getD (if i + 1 = s.length then 0 else i + 1) 0 := by
    rw [← cyc_mod s (j + 1), ← Int.emod_add_emod, e, cyc_mod]
    by_cases h1 : i + 1 = s.length
    · rw [if_pos h1, ← cyc_at hl, ← cyc_add ((0 : Nat) : Int) 1]
      congr 1
      omega
    · rw [if_neg h1, ← cyc_at (by omega)] <;> rfl
  rw [e1, e2, e3] <;> rfl
/-- a stand, so many times -/
def reps (t : Nat) (s : List Nat) : List Nat := (List.replicate t s).flatten
theorem reps_len (t : Nat) (s : List Nat) : (reps t s).length = t * s.length := by
  unfold reps
  rw [List.length_flatten, List.map_replicate, List.sum_replicate_nat]
theorem reps_ne {t : Nat} {s : List Nat} (ht : 0 < t) (h : s ≠ []) : reps t s ≠ [] := fun z => by
  have := reps_len t s
  rw [z] at this
  have hl : 0 < s.length := List.length_pos_iff.mpr h
  have := Nat.mul_pos ht hl
  simp at *
  omega
theorem reps_get {s : List Nat} (h : s ≠ []) : ∀ (t i : Nat), i < t * s.length → (reps t s).getD i 0 = s.getD (i % s.length) 0
  | 0, i, hi => by omega
  | t + 1, i, hi => by
    have hl : 0 < s.length := List.length_pos_iff.mpr h
    have e : reps (t + 1) s = s ++ reps t s := by
      unfold reps
      rw [List.replicate_succ, List.flatten_cons]
    rw [e]
    rcases Nat.lt_or_ge i s.length with h1 | h1
    · rw [getD_app1 h1, Nat.mod_eq_of_lt h1]
    · rw [getD_app2 h1, reps_get h t _ (by rw [Nat.succ_mul] at hi; omega), Nat.mod_eq_sub_mod h1]
theorem cyc_reps {s : List Nat} {t : Nat} (ht : 0 < t) (h : s ≠ []) (j : Int) : cyc (reps t s) j = cyc s j := by
  obtain ⟨i, hi, e⟩ := mod_nat (reps_ne ht h) j
  have hl : 0 < s.length := List.length_pos_iff.mpr h
  rw [← cyc_mod (reps t s), e, cyc_at hi, reps_get h t i (by rw [← reps_len]; exact hi)]
  have e2 : j % (s.length : Int) = ((i % s.length : Nat) : Int) := by
    rw [Int.natCast_emod, ← e, Int.emod_emod_of_dvd _ (by rw [reps_len, Int.natCast_mul]; exact Int.dvd_mul_left _ _)]
  rw [← cyc_mod s j, e2, cyc_at (Nat.mod_lt _ hl)]
theorem cyc_rev {s : List Nat} (h : s ≠ []) (j : Int) : cyc s.reverse j = cyc s (-1 - j) := by
  obtain ⟨i, hi, e⟩ := mod_nat h j
  rw [← cyc_mod s.reverse, List.length_reverse, e, cyc_at (by rw [List.length_reverse]; exact hi), List.getD_eq_getElem?_getD, List.getElem?_reverse hi, ← List.getD_eq_getElem?_getD, ← cyc_at (by omega), ← cyc_mod s (-1 - j), ← Int.sub_emod_emod, e, cyc_mod, ← cyc_add (-1 - (i : Int)) 1]
  congr 1
  omega
theorem rng_trn {tbl sg s : List Nat} (h : s ≠ []) (p : Int) : rngS tbl sg (trn s p) = trn (rngS tbl sg s) p := by
  refine cyc_ext (by rw [rngS_len, trn_len, trn_len, rngS_len]) fun i _ => ?_
  rw [cyc_rng (trn_ne h p), cyc_trn h, cyc_trn h, cyc_trn h, cyc_trn (rngS_ne h), cyc_rng h]
  congr 2 <;> omega
theorem rng_reps {tbl sg s : List Nat} {t : Nat} (ht : 0 < t) (h : s ≠ []) : rngS tbl sg (reps t s) = reps t (rngS tbl sg s) := by
  refine cyc_ext (by rw [rngS_len, reps_len, reps_len, rngS_len]) fun i _ => ?_
  rw [cyc_rng (reps_ne ht h), cyc_reps ht h, cyc_reps ht h, cyc_reps ht h, cyc_reps ht (rngS_ne h), cyc_rng h]
theorem trn_reps {s : List Nat} {t : Nat} (ht : 0 < t) (h : s ≠ []) (p : Int) : trn (reps t s) p = reps t (trn s p) := by
  refine cyc_ext (by rw [trn_len, reps_len, reps_len, trn_len]) fun i _ => ?_
  rw [cyc_trn (reps_ne ht h), cyc_reps ht h, cyc_reps ht (trn_ne h p), cyc_trn h]
theorem trn_trn {s : List Nat} (h : s ≠ []) (p r : Int) : trn (trn s p) r = trn s (p + r) := by
  refine cyc_ext (by rw [trn_len, trn_len, trn_len]) fun i _ => ?_
  rw [cyc_trn (trn_ne h p), cyc_trn h, cyc_trn h]
  congr 1
  omega
theorem trn_zero {s : List Nat} (h : s ≠ []) : trn s 0 = s := by
  refine cyc_ext (trn_len _ _) fun i _ => ?_
  rw [cyc_trn h, Int.sub_zero]
theorem trn_more {s : List Nat} (h : s ≠ []) (p m : Int) : trn s (p + m * s.length) = trn s p := by
  refine cyc_ext (by rw [trn_len, trn_len]) fun i _ => ?_
  rw [cyc_trn h, cyc_trn h, ← cyc_add ((i : Int) - (p + m * s.length)) m]
  congr 1
  omega
theorem trn_rev {s : List Nat} (h : s ≠ []) (p : Int) : trn s.reverse (-p) = (trn s p).reverse := by
  have hr : s.reverse ≠ [] := by simpa using h
  refine cyc_ext (by rw [trn_len, List.length_reverse, List.length_reverse, trn_len]) fun i _ => ?_
  rw [cyc_trn hr, cyc_rev h, cyc_rev (trn_ne h p), cyc_trn h]
  congr 1
  omega
/-- the mirrored table -/
def mir (tbl : List Nat) : List Nat := [tbl.getD 0 0, tbl.getD 2 0, tbl.getD 1 0, tbl.getD 3 0]
theorem bec_mir (tbl sg : List Nat) (l s r : Nat) : bec (mir tbl) sg l s r = bec tbl sg r s l := by
  unfold bec mir
  by_cases h1 : l = 49 <;> by_cases h2 : r = 49 <;> simp [h1, h2]
theorem rng_rev {tbl sg s : List Nat} (h : s ≠ []) : rngS (mir tbl) sg s.reverse = (rngS tbl sg s).reverse := by
  have hr : s.reverse ≠ [] := by simpa using h
  refine cyc_ext (by rw [rngS_len, List.length_reverse, List.length_reverse, rngS_len]) fun i _ => ?_
  rw [cyc_rng hr, cyc_rev h, cyc_rev h, cyc_rev h, cyc_rev (rngS_ne h), cyc_rng h, bec_mir]
  congr 2 <;> omega
/-! ### what goes with the beat -/
theorem itr_add (f : List Nat → List Nat) (s : List Nat) : ∀ (a b : Nat), itr f (a + b) s = itr f a (itr f b s)
  | 0, b => by rw [Nat.zero_add] <;> rfl
  | a + 1, b => by
    rw [show a + 1 + b = (a + b) + 1 by omega]
    show f (itr f (a + b) s) = f (itr f a (itr f b s))
    rw [itr_add f s a b]
structure Goes (f g : List Nat → List Nat) : Prop where
  ne : ∀ {s}, s ≠ [] → g s ≠ []
  len : ∀ {s}, s ≠ [] → (g s).length = s.length
  beat : ∀ {s}, s ≠ [] → f (g s) = g (f s)
  turn : ∀ {s}, s ≠ [] → ∀ p, trn (g s) p = g (trn s p)
theorem Goes.self (tbl sg : List Nat) : Goes (rngS tbl sg) (rngS tbl sg) := ⟨rngS_ne, fun _ => rngS_len _ _ _, fun _ => rfl, fun h p => (rng_trn h p).symm⟩
theorem Goes.turned (tbl sg : List Nat) (r : Int) : Goes (rngS tbl sg) (fun s => trn s r) := ⟨fun h => trn_ne h r, fun _ => trn_len _ _, fun h => rng_trn h r, fun h p => by rw [trn_trn h, trn_trn h, Int.add_comm]⟩
theorem Goes.both {f g h : List Nat → List Nat} (fn : ∀ {s}, s ≠ [] → f s ≠ []) (a : Goes f g) (b : Goes f h) : Goes f (fun s => g (h s)) :=
  ⟨fun e => a.ne (b.ne e), fun e => (a.len (b.ne e)).trans (b.len e), fun e => by rw [a.beat (b.ne e), b.beat e], fun e p => by rw [a.turn (b.ne e), b.turn e]⟩
theorem Goes.later (tbl sg : List Nat) : ∀ k : Nat, Goes (rngS tbl sg) (itr (rngS tbl sg) k)
  | 0 => ⟨fun h => h, fun _ => rfl, fun _ => rfl, fun _ _ => rfl⟩
  | k + 1 =>
    have z := Goes.both rngS_ne (Goes.self tbl sg) (Goes.later tbl sg k)
    ⟨fun h => z.ne h, fun h => z.len h, fun h => z.beat h, fun h p => z.turn h p⟩
theorem Goes.itr {f g : List Nat → List Nat} (fn : ∀ {s}, s ≠ [] → f s ≠ []) (a : Goes f g) {s : List Nat} (h : s ≠ []) : ∀ k, itr f k (g s) = g (itr f k s)
  | 0 => rfl
  | k + 1 => by
    show f (Lw.itr f k (g s)) = g (f (Lw.itr f k s))
    rw [Goes.itr fn a h k, a.beat (itr_ne (fun s h => fn h) k s h)]
/-- a shape stays one -/
theorem Goes.shape {f g : List Nat → List Nat} (fn : ∀ {s}, s ≠ [] → f s ≠ []) (a : Goes f g) {s : List Nat} (h : s ≠ []) {p : Int} {q : Nat} (e : Lw.itr f q s = trn s p) : Lw.itr f q (g s) = trn (g s) p := by
  rw [a.itr fn h, e, a.turn h]
theorem shape_reps {tbl sg s : List Nat} {t : Nat} (ht : 0 < t) (h : s ≠ []) : ∀ k, itr (rngS tbl sg) k (reps t s) = reps t (itr (rngS tbl sg) k s)
  | 0 => rfl
  | k + 1 => by
    show rngS tbl sg (itr (rngS tbl sg) k (reps t s)) = reps t (rngS tbl sg (itr (rngS tbl sg) k s))
    rw [shape_reps ht h k, rng_reps ht (itr_ne (fun s h => rngS_ne h) k s h)]
theorem shape_rev {tbl sg s : List Nat} (h : s ≠ []) : ∀ k, itr (rngS (mir tbl) sg) k s.reverse = (itr (rngS tbl sg) k s).reverse
  | 0 => rfl
  | k + 1 => by
    show rngS (mir tbl) sg (itr (rngS (mir tbl) sg) k s.reverse) = (rngS tbl sg (itr (rngS tbl sg) k s)).reverse
    rw [shape_rev h k, rng_rev (itr_ne (fun s h => rngS_ne h) k s h)]
theorem shape_sum {tbl sg s : List Nat} (h : s ≠ []) {p r : Int} {a b : Nat} (e1 : itr (rngS tbl sg) a s = trn s p) (e2 : itr (rngS tbl sg) b s = trn s r) : itr (rngS tbl sg) (a + b) s = trn s (p + r) := by
  rw [itr_add, e2, (Goes.turned tbl sg r).itr rngS_ne h, e1, trn_trn h]
theorem shape_times {tbl sg s : List Nat} (h : s ≠ []) {p : Int} {q : Nat} (e : itr (rngS tbl sg) q s = trn s p) : ∀ m : Nat, itr (rngS tbl sg) (m * q) s = trn s (m * p)
  | 0 => by
    rw [Nat.zero_mul, show ((0 : Nat) : Int) * p = 0 by omega, trn_zero h] <;> rfl
  | m + 1 => by
    rw [Nat.succ_mul, shape_sum h (shape_times h e m) e, show ((m + 1 : Nat) : Int) * p = m * p + p by rw [Int.natCast_add, Int.add_mul]; omega]
/-! ### steps, turning numbers -/
def stpI (n : Int) (a b : Nat) : Int := if ((b : Int) - a) % (n + 2) = n + 1 then -1 else ((b : Int) - a) % (n + 2)
def prv (s : List Nat) (i : Nat) : Nat := s.getD (if i = 0 then s.length - 1 else i - 1) 0
def nxt (s : List Nat) (i : Nat) : Nat := s.getD (if i + 1 = s.length then 0 else i + 1) 0
def stps (n : Int) (s : List Nat) : List Int := (List.range s.length).map fun i => stpI n (s.getD i 0) (nxt s i)
theorem stps_len (n : Int) (s : List Nat) : (stps n s).length = s.length := by
  unfold stps
  rw [List.length_map, List.length_range]
def numO (n : Int) (s : List Nat) : Option Int := if (2 : Int) ∈ stps n s then none else some ((stps n s).sum / (n + 2))
def keepB (tbl : List Nat) (n : Int) : Bool := decide (tbl.getD 1 0 = 49) && (decide (tbl.getD 2 0 = 49) && (decide (n = 1) || decide (tbl.getD 3 0 = 49)))
def tabs4 : List (List Nat) := [48, 49].flatMap fun a => [48, 49].flatMap fun b => [48, 49].flatMap fun c => [48, 49].map fun d => [a, b, c, d]
theorem mem_tabs4 {tbl : List Nat} {n : Int} (ok : RuleOk tbl n) : tbl ∈ tabs4 := by
  have four := ok.four
  have bits := ok.bits
  match tbl, four with
  | [a, b, c, d], _ =>
    have ha := bits a (by simp)
    have hb := bits b (by simp)
    have hc := bits c (by simp)
    have hd := bits d (by simp)
    rcases ha with rfl | rfl <;> rcases hb with rfl | rfl <;> rcases hc with rfl | rfl <;> rcases hd with rfl | rfl <;> decide
/-- what a seat goes on by -/
def adv (tbl : List Nat) (l c r : Nat) : Int := if c = 48 then (if tbl.getD (2 * (if l = 49 then 1 else 0) + (if r = 49 then 1 else 0)) 0 = 49 then 1 else if l = 49 ∧ r = 49 then 3 else 0) else 1
def locB (t : List Nat) (n : Int) (l a b r : Nat) : Bool := decide (stpI n l a = 2) || (decide (stpI n a b = 2) || (decide (stpI n b r = 2) || (decide (stpI n (bec t (sgs n) l a b) (bec t (sgs n) a b r) = stpI n a b + (adv t a b r - adv t l a b)) && !decide (stpI n (bec t (sgs n) l a b) (bec t (sgs n) a b r) = 2))))
theorem loc_all : (([(1 : Int), 2]).all fun n => tabs4.all fun t => !keepB t n || (sgs n).all fun l => (sgs n).all fun a => (sgs n).all fun b => (sgs n).all fun r => locB t n l a b r) = true := by decide +kernel
theorem loc_is {tbl : List Nat} {n : Int} {l a b r : Nat} (ok : RuleOk tbl n) (hn : n = 1 ∨ n = 2) (hk : keepB tbl n = true) (hl : l ∈ sgs n) (ha : a ∈ sgs n) (hb : b ∈ sgs n) (hr : r ∈ sgs n) (e1 : stpI n l a ≠ 2) (e2 : stpI n a b ≠ 2) (e3 : stpI n b r ≠ 2) :
    stpI n (bec tbl (sgs n) l a b) (bec tbl (sgs n) a b r) = stpI n a b + (adv tbl a b r - adv tbl l a b) ∧ stpI n (bec tbl (sgs n) l a b) (bec tbl (sgs n) a b r) ≠ 2 := by
  have h := List.all_eq_true.mp loc_all n (by rcases hn with rfl | rfl <;> simp)
  have h := List.all_eq_true.mp h tbl (mem_tabs4 ok)
  rw [hk] at h
  have h := List.all_eq_true.mp (by simpa using h : (sgs n).all (fun l => (sgs n).all fun a => (sgs n).all fun b => (sgs n).all fun r => locB tbl n l a b r) = true) l hl
  have h := List.all_eq_true.mp h a ha
  have h := List.all_eq_true.mp h b hb
  have h := List.all_eq_true.mp h r hr
  unfold locB at h
  rw [decide_eq_false e1, decide_eq_false e2, decide_eq_false e3] at h
  simpa using h
theorem sum_app : ∀ (xs ys : List Int), (xs ++ ys).sum = xs.sum + ys.sum
  | [], ys => by simp
  | x :: xs, ys => by
    rw [List.cons_append, List.sum_cons, List.sum_cons, sum_app xs ys]
    omega
theorem sum_map3 {f x y z : Nat → Int} : ∀ (l : List Nat), (∀ i ∈ l, f i = x i + (y i - z i)) → (l.map f).sum = (l.map x).sum + ((l.map y).sum - (l.map z).sum)
  | [], _ => by simp
  | i :: l, h => by
    have ih := sum_map3 (f := f) (x := x) (y := y) (z := z) l fun i hi => h i (List.mem_cons_of_mem _ hi)
    have hi := h i List.mem_cons_self
    rw [List.map_cons, List.map_cons, List.map_cons, List.map_cons, List.sum_cons, List.sum_cons, List.sum_cons, List.sum_cons, ih, hi]
    omega
theorem rot_sum (g : Nat → Int) : ∀ n : Nat, ((List.range n).map fun i => g (if i + 1 = n then 0 else i + 1)).sum = ((List.range n).map g).sum
  | 0 => rfl
  | k + 1 => by
    conv => lhs; rw [List.range_succ]
    conv => rhs; rw [List.range_succ_eq_map]
    rw [List.map_append, sum_app, List.map_cons (l := []), List.sum_cons]
    have e : (List.range k).map (fun i => g (if i + 1 = k + 1 then 0 else i + 1)) = (List.range k).map (g ∘ Nat.succ) := List.map_congr_left fun i hi => by
      have := List.mem_range.mp hi
      rw [if_neg (by omega)] <;> rfl
    rw [e, List.map_cons, List.sum_cons, List.map_map, if_pos rfl]
    simp
    omega
theorem prv_nxt {s : List Nat} {i : Nat} (hi : i < s.length) : prv s (if i + 1 = s.length then 0 else i + 1) = s.getD i 0 := by
  unfold prv
  by_cases h : i + 1 = s.length
  · rw [if_pos h, if_pos rfl, show s.length - 1 = i by omega]
  · rw [if_neg h, if_neg (by omega), show i + 1 - 1 = i by omega]
theorem stps_mem {n : Int} {s : List Nat} {i : Nat} (hi : i < s.length) : stpI n (s.getD i 0) (nxt s i) ∈ stps n s := List.mem_map.mpr ⟨i, List.mem_range.mpr hi, rfl⟩
theorem num_keep {tbl : List Nat} {n : Int} {s : List Nat} {k : Int} (ok : RuleOk tbl n) (hn : n = 1 ∨ n = 2) (hk : keepB tbl n = true) (sg : ∀ c ∈ s, c ∈ sgs n) (h : numO n s = some k) : numO n (rngS tbl (sgs n) s) = some k := by
  unfold numO at h
  split at h
  · cases h
  rename_i no
  have ev : ∀ i, i < s.length → stpI n (s.getD i 0) (nxt s i) ≠ 2 := fun i hi z => no (by rw [← z]; exact stps_mem hi)
  have mem : ∀ i, i < s.length → s.getD i 0 ∈ sgs n := fun i hi => sg _ (getD_mem hi)
  have nj : ∀ i, i < s.length → (if i + 1 = s.length then 0 else i + 1) < s.length := fun i hi => by split <;> omega
  have pj : ∀ i, i < s.length → (if i = 0 then s.length - 1 else i - 1) < s.length := fun i hi => by split <;> omega
  have pe : ∀ i, i < s.length → stpI n (prv s i) (s.getD i 0) ≠ 2 := fun i hi => by
    have e := ev _ (pj i hi)
    have : nxt s (if i = 0 then s.length - 1 else i - 1) = s.getD i 0 := by
      unfold nxt
      by_cases h : i = 0
      · rw [if_pos h, if_pos (by omega), h]
      · rw [if_neg h, if_neg (by omega), show i - 1 + 1 = i by omega]
    rw [this] at e
    exact e
  have get : ∀ i, i < s.length → (rngS tbl (sgs n) s).getD i 0 = bec tbl (sgs n) (prv s i) (s.getD i 0) (nxt s i) := fun i hi => by
    rw [List.getD_eq_getElem?_getD, rngS_get hi] <;> rfl
  have len := rngS_len tbl (sgs n) s
  have each : ∀ i, i < s.length → stpI n ((rngS tbl (sgs n) s).getD i 0) (nxt (rngS tbl (sgs n) s) i) = stpI n (s.getD i 0) (nxt s i) + (adv tbl (prv s (if i + 1 = s.length then 0 else i + 1)) (s.getD (if i + 1 = s.length then 0 else i + 1) 0) (nxt s (if i + 1 = s.length then 0 else i + 1)) - adv tbl (prv s i) (s.getD i 0) (nxt s i)) ∧ stpI n ((rngS tbl (sgs n) s).getD i 0) (nxt (rngS tbl (sgs n) s) i) ≠ 2 := fun i hi => by
    have hj := nj i hi
    have e1 : nxt (rngS tbl (sgs n) s) i = bec tbl (sgs n) (s.getD i 0) (nxt s i) (nxt s (if i + 1 = s.length then 0 else i + 1)) := by
      unfold nxt
      rw [len, get _ hj, prv_nxt hi] <;> rfl
    rw [e1, get i hi, prv_nxt hi]
    exact loc_is ok hn hk (mem _ (pj i hi)) (mem i hi) (mem _ hj) (mem _ (nj _ hj)) (pe i hi) (ev i hi) (ev _ hj)
  have no2 : ¬ (2 : Int) ∈ stps n (rngS tbl (sgs n) s) := fun z => by
    unfold stps at z
    obtain ⟨i, hi, e⟩ := List.mem_map.mp z
    rw [len] at hi
    exact (each i (List.mem_range.mp hi)).2 e
  have sums : (stps n (rngS tbl (sgs n) s)).sum = (stps n s).sum := by
    unfold stps
    rw [len, sum_map3 (x := fun i => stpI n (s.getD i 0) (nxt s i)) (y := fun i => (fun j => adv tbl (prv s j) (s.getD j 0) (nxt s j)) (if i + 1 = s.length then 0 else i + 1)) (z := fun j => adv tbl (prv s j) (s.getD j 0) (nxt s j)) (List.range s.length) fun i hi => (each i (List.mem_range.mp hi)).1]
    have q := rot_sum (fun j => adv tbl (prv s j) (s.getD j 0) (nxt s j)) s.length
    dsimp only at q ⊢
    omega
  unfold numO
  rw [if_neg no2, sums]
  exact h
def optI : Option Int → D
  | none => .non
  | some i => .int i
def optS : Option (List Nat) → D
  | none => .non
  | some s => .str s
/-! ### waves: who stands stood up beside one who stood, and so on back to the first -/
/-- x t i: seat i after t beats -/
structure Wav (x : Nat → Int → Nat) : Prop where
  up : ∀ t i, x (t + 1) i = 49 → x t i = 48 ∧ (x t (i - 1) = 49 ∨ x t (i + 1) = 49)
  dn : ∀ t i, x t i = 49 → x (t + 1) i = 50
/-- from the right, from the left, back to the first -/
def FroR (x : Nat → Int → Nat) (t : Nat) (i : Int) : Prop := ∀ k : Nat, k ≤ t → x (t - k) (i + k) = 49
def FroL (x : Nat → Int → Nat) (t : Nat) (i : Int) : Prop := ∀ k : Nat, k ≤ t → x (t - k) (i - k) = 49
theorem FroR.next {x : Nat → Int → Nat} {t : Nat} {i : Int} (h : x (t + 1) i = 49) (f : FroR x t (i + 1)) : FroR x (t + 1) i := fun k hk => by
  cases k with
  | zero =>
    rw [show i + ((0 : Nat) : Int) = i by omega]
    exact h
  | succ k =>
    have := f k (by omega)
    rw [show t + 1 - (k + 1) = t - k by omega, show i + ((k + 1 : Nat) : Int) = i + 1 + k by omega]
    exact this
theorem FroL.next {x : Nat → Int → Nat} {t : Nat} {i : Int} (h : x (t + 1) i = 49) (f : FroL x t (i - 1)) : FroL x (t + 1) i := fun k hk => by
  cases k with
  | zero =>
    rw [show i - ((0 : Nat) : Int) = i by omega]
    exact h
  | succ k =>
    have := f k (by omega)
    rw [show t + 1 - (k + 1) = t - k by omega, show i - ((k + 1 : Nat) : Int) = i - 1 - k by omega]
    exact this
/-- who stands comes from one side all the way -/
theorem Wav.from {x : Nat → Int → Nat} (w : Wav x) : ∀ (t : Nat) (i : Int), x t i = 49 → FroR x t i ∨ FroL x t i
  | 0, i, h => .inl fun k hk => by
    obtain rfl : k = 0 := by omega
    rw [show i + ((0 : Nat) : Int) = i by omega]
    exact h
  | t + 1, i, h => by
    obtain ⟨h0, side⟩ := w.up t i h
    have twice : ∀ u, u + 1 = t → x u i = 49 → False := fun u e q => by
      have := w.dn u i q
      rw [e, h0] at this
      cases this
    rcases side with s | s
    · rcases w.from t (i - 1) s with f | f
      · cases t with
        | zero => exact .inr (FroL.next h fun k hk => by
            obtain rfl : k = 0 := by omega
            rw [show i - 1 - ((0 : Nat) : Int) = i - 1 by omega]
            exact s)
        | succ t =>
          refine (twice t rfl ?_).elim
          have := f 1 (by omega)
          rw [show i - 1 + ((1 : Nat) : Int) = i by omega, show t + 1 - 1 = t by omega] at this
          exact this
      · exact .inr (FroL.next h f)
    · rcases w.from t (i + 1) s with f | f
      · exact .inl (FroR.next h f)
      · cases t with
        | zero => exact .inl (FroR.next h fun k hk => by
            obtain rfl : k = 0 := by omega
            rw [show i + 1 + ((0 : Nat) : Int) = i + 1 by omega]
            exact s)
        | succ t =>
          refine (twice t rfl ?_).elim
          have := f 1 (by omega)
          rw [show i + 1 - ((1 : Nat) : Int) = i by omega, show t + 1 - 1 = t by omega] at this
          exact this
/-- where a seat among any n in a row never stands, nobody stands after n - 1 beats -/
theorem Wav.over {x : Nat → Int → Nat} (w : Wav x) {n : Nat} (no : ∀ i : Int, (∃ k : Nat, k < n ∧ ∀ t, x t (i + k) ≠ 49) ∧ ∃ k : Nat, k < n ∧ ∀ t, x t (i - k) ≠ 49) {t : Nat} (ht : n ≤ t + 1) (i : Int) : x t i ≠ 49 := fun h => by
  rcases w.from t i h with f | f
  · obtain ⟨k, hk, q⟩ := (no i).1
    exact q _ (f k (by omega))
  · obtain ⟨k, hk, q⟩ := (no i).2
    exact q _ (f k (by omega))
end Lw
namespace Lw
open PySem L2 Da
variable [Tbs]
/-! ### rows with ends: nobody ever stands beside them -/
def rowF (tbl sg r : List Nat) : List Nat := inn tbl sg ([48] ++ r ++ [48])
theorem rowF_len (tbl sg r : List Nat) : (rowF tbl sg r).length = r.length := by
  unfold rowF inn
  rw [List.length_map, List.length_range]
  simp
theorem rowF_get {tbl sg r : List Nat} {i : Nat} (h : i < r.length) : (rowF tbl sg r)[i]? = some (bec tbl sg (if i = 0 then 48 else r.getD (i - 1) 0) (r.getD i 0) (if i + 1 = r.length then 48 else r.getD (i + 1) 0)) := by
  obtain ⟨a1, a2, a3⟩ := around (s := r) (a := 48) (b := 48) h
  unfold rowF inn
  rw [List.getElem?_map, List.getElem?_range (by simp; omega)]
  show some (bec tbl sg _ _ _) = _
  rw [a1, a2, a3]
theorem rowF_getD {tbl sg r : List Nat} {i : Nat} (h : i < r.length) : (rowF tbl sg r).getD i 0 = bec tbl sg (if i = 0 then 48 else r.getD (i - 1) 0) (r.getD i 0) (if i + 1 = r.length then 48 else r.getD (i + 1) 0) := by
  rw [List.getD_eq_getElem?_getD, rowF_get h] <;> rfl
theorem zero_sgs {n : Int} (h : 0 ≤ n) : 48 ∈ sgs n := by
  unfold sgs
  exact List.mem_of_getElem? (i := 0) (by rw [List.getElem?_take_of_lt (by omega)] <;> rfl)
theorem rowF_mem {tbl : List Nat} {n : Int} {r : List Nat} (ok : RuleOk tbl n) (h : ∀ c ∈ r, c ∈ sgs n) : ∀ c ∈ rowF tbl (sgs n) r, c ∈ sgs n := inn_mem ok fun c hc => by
  simp only [List.mem_append, List.mem_singleton] at hc
  rcases hc with (e | hc) | e
  · rw [e]; exact zero_sgs ok.n0
  · exact h c hc
  · rw [e]; exact zero_sgs ok.n0
theorem itr_rowlen {tbl sg : List Nat} : ∀ (k : Nat) (r : List Nat), (itr (rowF tbl sg) k r).length = r.length
  | 0, _ => rfl
  | k + 1, r => by
    show (rowF tbl sg (itr (rowF tbl sg) k r)).length = r.length
    rw [rowF_len, itr_rowlen k r]
theorem itr_rowmem {tbl : List Nat} {n : Int} {r : List Nat} (ok : RuleOk tbl n) (h : ∀ c ∈ r, c ∈ sgs n) (k : Nat) : ∀ c ∈ itr (rowF tbl (sgs n)) k r, c ∈ sgs n := itr_mem (p := fun c => c ∈ sgs n) (fun s h => rowF_mem ok h) k r h
/-- what does not sit becomes another sign -/
theorem bec_ne {tbl : List Nat} {n : Int} {l s r : Nat} (ok : RuleOk tbl n) (hs : s ∈ sgs n) (h : s ≠ 48) : bec tbl (sgs n) l s r ≠ s := by
  have h3 : n = 0 ∨ n = 1 ∨ n = 2 := by have := ok.n0; have := ok.n1; omega
  unfold bec
  rw [if_neg h]
  rcases h3 with rfl | rfl | rfl
  · have : s = 48 ∨ s = 49 := by simpa [sgs] using hs
    rcases this with rfl | rfl <;> first | exact absurd rfl h | decide
  · have : s = 48 ∨ s = 49 ∨ s = 50 := by simpa [sgs] using hs
    rcases this with rfl | rfl | rfl <;> first | exact absurd rfl h | decide
  · have : s = 48 ∨ s = 49 ∨ s = 50 ∨ s = 51 := by simpa [sgs] using hs
    rcases this with rfl | rfl | rfl | rfl <;> first | exact absurd rfl h | decide
theorem row_still {tbl : List Nat} {n : Int} {r : List Nat} (ok : RuleOk tbl n) (h : ∀ c ∈ r, c ∈ sgs n) (e : rowF tbl (sgs n) r = r) : ∀ c ∈ r, c = 48 := fun c hc => by
  obtain ⟨i, hi, rfl⟩ := List.mem_iff_getElem.mp hc
  have q := rowF_getD (tbl := tbl) (sg := sgs n) hi
  rw [e] at q
  have g : r.getD i 0 = r[i] := by rw [List.getD_eq_getElem?_getD, List.getElem?_eq_getElem hi] <;> rfl
  rw [g] at q
  by_cases z : r[i] = 48
  · exact z
  · exact absurd q.symm (bec_ne ok (h _ hc) z)
/-- mirrored -/
theorem row_rev {tbl sg r : List Nat} : rowF (mir tbl) sg r.reverse = (rowF tbl sg r).reverse := by
  have rl := rowF_len tbl sg r
  refine List.ext_getElem? fun i => ?_
  by_cases hi : i < r.length
  · have back : ∀ {j : Nat}, j < r.length → r.reverse.getD j 0 = r.getD (r.length - 1 - j) 0 := fun {j} hj => by
      rw [List.getD_eq_getElem?_getD, List.getD_eq_getElem?_getD, List.getElem?_reverse hj]
    rw [rowF_get (by simpa using hi), List.getElem?_reverse (by omega), rl, rowF_get (by omega), bec_mir, List.length_reverse, back hi]
    congr 2
    · by_cases h : i + 1 = r.length
      · rw [if_pos h, if_pos (by omega)]
      · rw [if_neg h, if_neg (by omega), back (by omega), show r.length - 1 - (i + 1) = r.length - 1 - i - 1 by omega]
    · by_cases h : i = 0
      · rw [if_pos h, if_pos (by omega)]
      · rw [if_neg h, if_neg (by omega), back (by omega), show r.length - 1 - (i - 1) = r.length - 1 - i + 1 by omega]
  · rw [List.getElem?_eq_none (by rw [rowF_len]; simpa using hi), List.getElem?_eq_none (by rw [List.length_reverse, rl]; omega)]
theorem itr_rowrev {tbl sg r : List Nat} : ∀ k, itr (rowF (mir tbl) sg) k r.reverse = (itr (rowF tbl sg) k r).reverse
  | 0 => rfl
  | k + 1 => by
    show rowF (mir tbl) sg (itr (rowF (mir tbl) sg) k r.reverse) = (rowF tbl sg (itr (rowF tbl sg) k r)).reverse
    rw [itr_rowrev k, row_rev]
/-! one neighbour enough, one rest -/
def T7 : List Nat := [48, 49, 49, 49]
theorem T7_ok : RuleOk T7 1 := ⟨rfl, fun c hc => by
  have : c = 48 ∨ c = 49 ∨ c = 49 ∨ c = 49 := by simpa [T7] using hc
  omega, by decide, by decide⟩
theorem bec7 {l s r : Nat} (hs : s ∈ sgs 1) : bec T7 (sgs 1) l s r = if s = 48 then (if l = 49 ∨ r = 49 then 49 else 48) else if s = 49 then 50 else 48 := by
  have : s = 48 ∨ s = 49 ∨ s = 50 := by simpa [sgs] using hs
  rcases this with rfl | rfl | rfl
  · unfold bec
    by_cases hl : l = 49 <;> by_cases hr : r = 49 <;> simp [hl, hr, T7]
  · rfl
  · rfl
/-- the seats of a row, beat by beat; outside all sit -/
def rowX (r : List Nat) (t : Nat) (i : Int) : Nat := if 0 ≤ i ∧ i < r.length then (itr (rowF T7 (sgs 1)) t r).getD i.toNat 0 else 48
theorem rowX_step {r : List Nat} (h : ∀ c ∈ r, c ∈ sgs 1) (t : Nat) {i : Int} (h0 : 0 ≤ i) (h1 : i < r.length) : rowX r (t + 1) i = bec T7 (sgs 1) (rowX r t (i - 1)) (rowX r t i) (rowX r t (i + 1)) ∧ rowX r t i ∈ sgs 1 := by
  have len := itr_rowlen (tbl := T7) (sg := sgs 1) t r
  obtain ⟨j, rfl⟩ := Int.eq_ofNat_of_zero_le h0
  have hj : j < r.length := by omega
  have e : rowX r (t + 1) j = (rowF T7 (sgs 1) (itr (rowF T7 (sgs 1)) t r)).getD j 0 := by
    unfold rowX
    rw [if_pos ⟨h0, h1⟩] <;> rfl
  have e0 : rowX r t j = (itr (rowF T7 (sgs 1)) t r).getD j 0 := by
    unfold rowX
    rw [if_pos ⟨h0, h1⟩] <;> rfl
  have el : rowX r t ((j : Int) - 1) = if j = 0 then 48 else (itr (rowF T7 (sgs 1)) t r).getD (j - 1) 0 := by
    unfold rowX
    by_cases q : j = 0
    · rw [if_pos q, if_neg (by omega)]
    · rw [if_neg q, if_pos (by omega), show ((j : Int) - 1).toNat = j - 1 by omega]
  have er : rowX r t ((j : Int) + 1) = if j + 1 = (itr (rowF T7 (sgs 1)) t r).length then 48 else (itr (rowF T7 (sgs 1)) t r).getD (j + 1) 0 := by
    unfold rowX
    rw [len]
    by_cases q : j + 1 = r.length
    · rw [if_pos q, if_neg (by omega)]
    · rw [if_neg q, if_pos (by omega), show ((j : Int) + 1).toNat = j + 1 by omega]
  refine ⟨by rw [e, rowF_getD (by omega), e0, el, er], ?_⟩
  rw [e0]
  exact itr_rowmem T7_ok h t _ (getD_mem (by omega))
theorem rowX_wav {r : List Nat} (h : ∀ c ∈ r, c ∈ sgs 1) : Wav (rowX r) := by
  have out : ∀ t i, ¬ (0 ≤ i ∧ i < (r.length : Int)) → rowX r t i = 48 := fun t i q => if_neg q
  refine ⟨fun t i q => ?_, fun t i q => ?_⟩
  · by_cases hi : 0 ≤ i ∧ i < (r.length : Int)
    · obtain ⟨e, m⟩ := rowX_step h t hi.1 hi.2
      rw [e, bec7 m] at q
      by_cases z : rowX r t i = 48
      · rw [if_pos z] at q
        refine ⟨z, ?_⟩
        by_cases y : rowX r t (i - 1) = 49 ∨ rowX r t (i + 1) = 49
        · exact y
        · rw [if_neg y] at q
          cases q
      · rw [if_neg z] at q
        split at q <;> cases q
    · rw [out _ _ hi] at q
      cases q
  · by_cases hi : 0 ≤ i ∧ i < (r.length : Int)
    · obtain ⟨e, m⟩ := rowX_step h t hi.1 hi.2
      rw [e, bec7 m, q] <;> rfl
    · rw [out _ _ hi] at q
      cases q
/-- a row of n is quiet after n + 1 beats -/
theorem row7_quiet {r : List Nat} (h : ∀ c ∈ r, c ∈ sgs 1) {t : Nat} (ht : r.length < t) : itr (rowF T7 (sgs 1)) t r = List.replicate r.length 48 := by
  have w := rowX_wav h
  have no : ∀ t, r.length ≤ t → ∀ i, rowX r t i ≠ 49 := fun t ht i => by
    intro q
    have inside : 0 ≤ i ∧ i < (r.length : Int) := by
      by_cases z : 0 ≤ i ∧ i < (r.length : Int)
      · exact z
      · rw [show rowX r t i = 48 from if_neg z] at q
        cases q
    rcases w.from t i q with f | f
    · have := f t (Nat.le_refl _)
      rw [show rowX r (t - t) (i + t) = 48 from if_neg (by omega)] at this
      cases this
    · have := f t (Nat.le_refl _)
      rw [show rowX r (t - t) (i - t) = 48 from if_neg (by omega)] at this
      cases this
  have len := itr_rowlen (tbl := T7) (sg := sgs 1) t r
  refine List.ext_getElem (by rw [len, List.length_replicate]) fun j h1 h2 => ?_
  rw [List.getElem_replicate]
  obtain ⟨u, rfl⟩ : ∃ u, t = u + 1 := ⟨t - 1, by omega⟩
  have hj : j < r.length := by omega
  obtain ⟨e, m⟩ := rowX_step h u (i := (j : Int)) (by omega) (by omega)
  have e0 : rowX r (u + 1) j = (itr (rowF T7 (sgs 1)) (u + 1) r).getD j 0 := by
    unfold rowX
    rw [if_pos ⟨by omega, by omega⟩] <;> rfl
  rw [bec7 m, if_neg (no u (by omega) j)] at e
  have g : (itr (rowF T7 (sgs 1)) (u + 1) r).getD j 0 = (itr (rowF T7 (sgs 1)) (u + 1) r)[j] := by rw [List.getD_eq_getElem?_getD, List.getElem?_eq_getElem h1] <;> rfl
  rw [← g, ← e0, e]
  by_cases z : rowX r u j = 48
  · rw [if_pos z, if_neg fun q => q.elim (no u (by omega) _) (no u (by omega) _)]
  · rw [if_neg z]
/-! ### rings by one neighbour enough: from some beat on they only turn -/
/-- all seats sit, stand or rest; who sits beside one who stands stands up -/
structure Wav3 (x : Nat → Int → Nat) : Prop extends Wav x where
  val : ∀ t i, x t i = 48 ∨ x t i = 49 ∨ x t i = 50
  re : ∀ t i, x (t + 1) i = 50 → x t i = 49
  sit : ∀ t i, x t i = 48 → x t (i - 1) = 49 ∨ x t (i + 1) = 49 → x (t + 1) i = 49
theorem Wav.two {x : Nat → Int → Nat} (w : Wav x) {t : Nat} {i : Int} (h : x t i = 49) (h2 : x (t + 2) i = 49) : False := by
  have a := w.dn t i h
  have b := (w.up (t + 1) i h2).1
  rw [a] at b
  cases b
/-- one from the right and one from the left, d apart, cannot both have come far -/
theorem Wav.cross {x : Nat → Int → Nat} (w : Wav x) {t : Nat} {i j : Int} (R : FroR x t i) (L : FroL x t j) (h1 : 1 ≤ j - i) (ht : j - i + 1 ≤ 2 * t) : False := by
  obtain ⟨d, hd⟩ : ∃ d : Nat, j - i = d := ⟨(j - i).toNat, by omega⟩
  rcases Nat.mod_two_eq_zero_or_one d with e | e
  · obtain ⟨k, rfl⟩ : ∃ k, d = 2 * (k + 1) := ⟨d / 2 - 1, by omega⟩
    have a := R k (by omega)
    have b := L (k + 2) (by omega)
    obtain ⟨u, rfl⟩ : ∃ u, t = u + (k + 2) := ⟨t - (k + 2), by omega⟩
    rw [show u + (k + 2) - k = u + 2 by omega] at a
    rw [show u + (k + 2) - (k + 2) = u by omega, show j - ((k + 2 : Nat) : Int) = i + k by omega] at b
    exact w.two b a
  · obtain ⟨k, rfl⟩ : ∃ k, d = 2 * k + 1 := ⟨d / 2, by omega⟩
    have a := R k (by omega)
    have b := L (k + 1) (by omega)
    obtain ⟨u, rfl⟩ : ∃ u, t = u + (k + 1) := ⟨t - (k + 1), by omega⟩
    rw [show u + (k + 1) - k = u + 1 by omega] at a
    rw [show u + (k + 1) - (k + 1) = u by omega, show j - ((k + 1 : Nat) : Int) = i + k by omega] at b
    have c := w.dn u _ b
    rw [a] at c
    cases c
section
variable {x : Nat → Int → Nat} {n : Nat}
/-- round the ring -/
def Rnd (n : Nat) (x : Nat → Int → Nat) : Prop := ∀ t (i j : Int), x t (i + n * j) = x t i
theorem FroL.rnd (p : Rnd n x) {t : Nat} {i : Int} (h : FroL x t i) (j : Int) : FroL x t (i + n * j) := fun k hk => by
  rw [show i + n * j - (k : Int) = (i - k) + n * j by omega, p]
  exact h k hk
theorem mix_no (w : Wav x) (p : Rnd n x) (hn : 0 < n) {t : Nat} (ht : n + 1 ≤ 2 * t) {i j : Int} (R : FroR x t i) (L : FroL x t j) : False := by
  have h0 : 0 ≤ (j - i - 1) % (n : Int) := Int.emod_nonneg _ (by omega)
  have h1 : (j - i - 1) % (n : Int) < n := Int.emod_lt_of_pos _ (by omega)
  have h2 := Int.emod_add_mul_ediv (j - i - 1) n
  have L2 := L.rnd p (-((j - i - 1) / n))
  rw [Int.mul_neg] at L2
  exact w.cross R L2 (by omega) (by omega)
theorem FroR.one {t : Nat} {i : Int} (h : FroR x (t + 1) i) : FroR x t (i + 1) := fun k hk => by
  have := h (k + 1) (by omega)
  rw [show t + 1 - (k + 1) = t - k by omega, show i + ((k + 1 : Nat) : Int) = i + 1 + k by omega] at this
  exact this
theorem FroL.one {t : Nat} {i : Int} (h : FroL x (t + 1) i) : FroL x t (i - 1) := fun k hk => by
  have := h (k + 1) (by omega)
  rw [show t + 1 - (k + 1) = t - k by omega, show i - ((k + 1 : Nat) : Int) = i - 1 - k by omega] at this
  exact this
theorem FroR.here {t : Nat} {i : Int} (h : FroR x t i) : x t i = 49 := by
  have := h 0 (Nat.zero_le _)
  rwa [show i + ((0 : Nat) : Int) = i by omega] at this
theorem FroL.here {t : Nat} {i : Int} (h : FroL x t i) : x t i = 49 := by
  have := h 0 (Nat.zero_le _)
  rwa [show i - ((0 : Nat) : Int) = i by omega] at this
/-- all who stand come from the right -/
def AllR (x : Nat → Int → Nat) (t : Nat) : Prop := ∀ i, x t i = 49 → FroR x t i
/-- .. then who stands goes on to the left, and nobody else does -/
theorem on_left (w : Wav3 x) (p : Rnd n x) (hn : 3 ≤ n) {t : Nat} (ht : n + 1 ≤ 2 * t) (a : AllR x t) (i : Int) : x (t + 1) i = 49 ↔ x t (i + 1) = 49 := by
  have w1 := w.toWav
  obtain ⟨u, rfl⟩ : ∃ u, t = u + 1 := ⟨t - 1, by omega⟩
  refine ⟨fun h => ?_, fun h => ?_⟩
  · rcases w1.from (u + 2) i h with f | f
    · exact f.one.here
    · exact (mix_no w1 p (by omega) ht (a _ f.one.here) f.one).elim
  · have R := a _ h
    have here : x (u + 1) i = 48 := by
      rcases w.val (u + 1) i with q | q | q
      · exact q
      · have R2 := (a i q).one.here
        have := w.dn u (i + 1) R2
        rw [h] at this
        cases this
      · have s := w.re u i q
        rcases w1.from u i s with f | f
        · cases u with
          | zero => omega
          | succ u => exact (w1.two (t := u) (i := i + 1) f.one.here h).elim
        · have R1 := R.one
          have L1 := f.rnd p 1
          exact (w1.cross R1 L1 (by omega) (by omega)).elim
    exact w.sit (u + 1) i here (.inr h)
theorem AllR.next (w : Wav3 x) (p : Rnd n x) (hn : 3 ≤ n) {t : Nat} (ht : n + 1 ≤ 2 * t) (a : AllR x t) : AllR x (t + 1) := fun i h => by
  have w1 := w.toWav
  rcases w1.from (t + 1) i h with f | f
  · exact f
  · exact (mix_no w1 p (by omega) ht (a _ f.one.here) f.one).elim
theorem AllR.all (w : Wav3 x) (p : Rnd n x) (hn : 3 ≤ n) {t : Nat} (ht : n + 1 ≤ 2 * t) (a : AllR x t) : ∀ k, AllR x (t + k)
  | 0 => a
  | k + 1 => (AllR.all w p hn ht a k).next w p hn (show n + 1 ≤ 2 * (t + k) by omega)
/-- .. and all of it turns to the left -/
theorem turn_left (w : Wav3 x) (p : Rnd n x) (hn : 3 ≤ n) {t : Nat} (ht : n + 1 ≤ 2 * t) (a : AllR x t) (i : Int) : x (t + 2) i = x (t + 1) (i + 1) := by
  have s1 := on_left w p hn ht a
  have a2 := a.next w p hn ht
  have s2 := on_left w p hn (show n + 1 ≤ 2 * (t + 1) by omega) a2
  rcases w.val (t + 1) (i + 1) with q | q | q
  · rcases w.val (t + 2) i with r | r | r
    · rw [q, r]
    · rw [(s2 i).mp r] at q
      cases q
    · have := (s1 i).mp (w.re (t + 1) i r)
      rw [w.dn t _ this] at q
      cases q
  · rw [q, (s2 i).mpr q]
  · have := w.re t (i + 1) q
    rw [q, w.dn (t + 1) i ((s1 i).mpr this)]
end
/-! mirrored -/
def flip (x : Nat → Int → Nat) : Nat → Int → Nat := fun t i => x t (-i)
theorem Wav3.flip {x : Nat → Int → Nat} (w : Wav3 x) : Wav3 (flip x) := by
  refine ⟨⟨fun t i h => ?_, fun t i h => w.dn t _ h⟩, fun t i => w.val t _, fun t i h => w.re t _ h, fun t i h s => ?_⟩
  · obtain ⟨a, b⟩ := w.up t (-i) h
    refine ⟨a, ?_⟩
    show x t (-(i - 1)) = 49 ∨ x t (-(i + 1)) = 49
    rw [show -(i - 1) = -i + 1 by omega, show -(i + 1) = -i - 1 by omega]
    exact b.symm
  · have s : x t (-(i - 1)) = 49 ∨ x t (-(i + 1)) = 49 := s
    rw [show -(i - 1) = -i + 1 by omega, show -(i + 1) = -i - 1 by omega] at s
    exact w.sit t (-i) h s.symm
theorem Rnd.flip {x : Nat → Int → Nat} {n : Nat} (p : Rnd n x) : Rnd n (flip x) := fun t i j => by
  show x t (-(i + n * j)) = x t (-i)
  rw [show -(i + n * j) = -i + n * (-j) by rw [Int.mul_neg]; omega]
  exact p t _ _
theorem FroL.flip {x : Nat → Int → Nat} {t : Nat} {i : Int} (h : FroL x t i) : FroR (flip x) t (-i) := fun k hk => by
  show x (t - k) (-(-i + k)) = 49
  rw [show -(-i + (k : Int)) = i - k by omega]
  exact h k hk
/-- at such a beat all who stand come from one side -/
theorem one_side {x : Nat → Int → Nat} {n : Nat} (w : Wav3 x) (p : Rnd n x) (hn : 3 ≤ n) {t : Nat} (ht : n + 1 ≤ 2 * t) : AllR x t ∨ AllR (flip x) t := by
  by_cases h : ∃ j, FroL x t j
  · obtain ⟨j, L⟩ := h
    refine .inr fun i hi => ?_
    rcases w.toWav.from t (-i) hi with f | f
    · exact (mix_no w.toWav p (by omega) ht f L).elim
    · have := f.flip
      rwa [Int.neg_neg] at this
  · refine .inl fun i hi => ?_
    rcases w.toWav.from t i hi with f | f
    · exact f
    · exact absurd ⟨i, f⟩ h
/-! the ring's seats, beat by beat -/
theorem rngS_getD {tbl sg s : List Nat} {i : Nat} (h : i < s.length) : (rngS tbl sg s).getD i 0 = bec tbl sg (s.getD (if i = 0 then s.length - 1 else i - 1) 0) (s.getD i 0) (s.getD (if i + 1 = s.length then 0 else i + 1) 0) := by
  rw [List.getD_eq_getElem?_getD, rngS_get h] <;> rfl
abbrev run7 (s : List Nat) (t : Nat) : List Nat := itr (rngS T7 (sgs 1)) t s
def ringX (s : List Nat) (t : Nat) (i : Int) : Nat := (run7 s t).getD (i % s.length).toNat 0
theorem ringX_nat {s : List Nat} {t i : Nat} (h : i < s.length) : ringX s t (i : Int) = (run7 s t).getD i 0 := by
  unfold ringX
  rw [Int.emod_eq_of_lt (by omega) (by omega)] <;> rfl
theorem ringX_rnd (s : List Nat) : Rnd s.length (ringX s) := fun t i j => by
  unfold ringX
  rw [Int.add_mul_emod_self_left]
theorem run7_len (s : List Nat) (t : Nat) : (run7 s t).length = s.length := itr_rlen t s
theorem run7_mem {s : List Nat} (h : ∀ c ∈ s, c ∈ sgs 1) (t : Nat) : ∀ c ∈ run7 s t, c ∈ sgs 1 := itr_mem (p := fun c => c ∈ sgs 1) (fun s h => rngS_mem T7_ok h) t s h
theorem mod_in {n : Nat} (hn : 0 < n) (i : Int) : ∃ j : Nat, j < n ∧ i % (n : Int) = j := by
  have h0 : 0 ≤ i % (n : Int) := Int.emod_nonneg _ (by omega)
  have h1 : i % (n : Int) < n := Int.emod_lt_of_pos _ (by omega)
  exact ⟨(i % (n : Int)).toNat, by omega, by omega⟩
theorem ringX_step {s : List Nat} (h : ∀ c ∈ s, c ∈ sgs 1) (ne : s ≠ []) (t : Nat) (i : Int) : ringX s (t + 1) i = bec T7 (sgs 1) (ringX s t (i - 1)) (ringX s t i) (ringX s t (i + 1)) ∧ ringX s t i ∈ sgs 1 := by
  have hn := List.length_pos_iff.mpr ne
  obtain ⟨j, hj, e⟩ := mod_in hn i
  have len := run7_len s t
  have e0 : ringX s t i = (run7 s t).getD j 0 := by unfold ringX; rw [e] <;> rfl
  have q := Int.emod_add_mul_ediv i s.length
  rw [e] at q
  have el : ringX s t (i - 1) = (run7 s t).getD (if j = 0 then (run7 s t).length - 1 else j - 1) 0 := by
    have : i - 1 = (((if j = 0 then (run7 s t).length - 1 else j - 1 : Nat)) : Int) + s.length * (i / s.length - (if j = 0 then 1 else 0)) := by
      rw [Int.mul_sub]
      split <;> simp only [Int.mul_one, Int.mul_zero] <;> omega
    rw [this, ringX_rnd, ringX_nat (by split <;> omega)]
  have er : ringX s t (i + 1) = (run7 s t).getD (if j + 1 = (run7 s t).length then 0 else j + 1) 0 := by
    have : i + 1 = (((if j + 1 = (run7 s t).length then 0 else j + 1 : Nat)) : Int) + s.length * (i / s.length + (if j + 1 = (run7 s t).length then 1 else 0)) := by
      rw [Int.mul_add]
      split <;> simp only [Int.mul_one, Int.mul_zero] <;> omega
    rw [this, ringX_rnd, ringX_nat (by split <;> omega)]
  have e1 : ringX s (t + 1) i = (rngS T7 (sgs 1) (run7 s t)).getD j 0 := by unfold ringX; rw [e] <;> rfl
  refine ⟨by rw [e1, rngS_getD (by omega), e0, el, er], ?_⟩
  rw [e0]
  exact run7_mem h t _ (getD_mem (by omega))
theorem sgs1 {c : Nat} (h : c ∈ sgs 1) : c = 48 ∨ c = 49 ∨ c = 50 := by simpa [sgs] using h
theorem ringX_wav {s : List Nat} (h : ∀ c ∈ s, c ∈ sgs 1) (ne : s ≠ []) : Wav3 (ringX s) := by
  have st := ringX_step h ne
  refine ⟨⟨fun t i q => ?_, fun t i q => ?_⟩, fun t i => sgs1 (st t i).2, fun t i q => ?_, fun t i q r => ?_⟩
  · obtain ⟨e, m⟩ := st t i
    rw [e, bec7 m] at q
    by_cases z : ringX s t i = 48
    · rw [if_pos z] at q
      refine ⟨z, ?_⟩
      by_cases y : ringX s t (i - 1) = 49 ∨ ringX s t (i + 1) = 49
      · exact y
      · rw [if_neg y] at q
        cases q
    · rw [if_neg z] at q
      split at q <;> cases q
  · obtain ⟨e, m⟩ := st t i
    rw [e, bec7 m, q] <;> rfl
  · obtain ⟨e, m⟩ := st t i
    rw [e, bec7 m] at q
    by_cases z : ringX s t i = 48
    · rw [if_pos z] at q
      split at q <;> cases q
    · rw [if_neg z] at q
      by_cases y : ringX s t i = 49
      · exact y
      · rw [if_neg y] at q
        cases q
  · obtain ⟨e, m⟩ := st t i
    rw [e, bec7 m, if_pos q, if_pos r]
/-- two stands of one size whose seats are the same -/
theorem ext7 {n : Nat} {a b : List Nat} (ha : a.length = n) (hb : b.length = n) (h : ∀ i, i < n → a.getD i 0 = b.getD i 0) : a = b := by
  refine List.ext_getElem (by omega) fun i h1 h2 => ?_
  have := h i (by omega)
  rw [List.getD_eq_getElem?_getD, List.getD_eq_getElem?_getD, List.getElem?_eq_getElem h1, List.getElem?_eq_getElem h2] at this
  exact this
theorem trn_getD {s : List Nat} {p : Int} {i : Nat} (h : i < s.length) : (trn s p).getD i 0 = s.getD (((i : Int) - p) % s.length).toNat 0 := by
  rw [List.getD_eq_getElem?_getD, trn_get h] <;> rfl
/-- from then on -/
def lateT (s : List Nat) : Nat := s.length / 2 + 2
/-- small rings are still by then -/
theorem small7 : ([[48], [49], [50], [48, 48], [48, 49], [48, 50], [49, 48], [49, 49], [49, 50], [50, 48], [50, 49], [50, 50]].all fun s => decide (run7 s (s.length / 2 + 2) = List.replicate s.length 48)) = true := by decide
theorem zero7 {n : Nat} : rngS T7 (sgs 1) (List.replicate n 48) = List.replicate n 48 := by
  refine ext7 (n := n) (by rw [rngS_len]; simp) (by simp) fun i hi => ?_
  have g : ∀ j, j < n → (List.replicate n 48).getD j 0 = 48 := fun j hj => by
    rw [List.getD_eq_getElem?_getD, List.getElem?_replicate_of_lt hj] <;> rfl
  rw [rngS_getD (by simpa using hi), g i hi, List.length_replicate, g _ (by split <;> omega), g _ (by split <;> omega)] <;> rfl
theorem zero7_all {s : List Nat} {t : Nat} (h : run7 s t = List.replicate s.length 48) : ∀ k, run7 s (t + k) = List.replicate s.length 48
  | 0 => h
  | k + 1 => by
    show rngS T7 (sgs 1) (run7 s (t + k)) = _
    rw [zero7_all h k, zero7]
theorem tiny7 {s : List Nat} (h : ∀ c ∈ s, c ∈ sgs 1) (ne : s ≠ []) (l2 : s.length ≤ 2) : run7 s (lateT s) = List.replicate s.length 48 := by
  have m : s ∈ [[48], [49], [50], [48, 48], [48, 49], [48, 50], [49, 48], [49, 49], [49, 50], [50, 48], [50, 49], [50, 50]] := by
    match s, ne, l2 with
    | [a], _, _ =>
      rcases sgs1 (h a (by simp)) with rfl | rfl | rfl <;> simp
    | [a, b], _, _ =>
      rcases sgs1 (h a (by simp)) with rfl | rfl | rfl <;> rcases sgs1 (h b (by simp)) with rfl | rfl | rfl <;> simp
  exact of_decide_eq_true (List.all_eq_true.mp small7 s m)
/-- a side to which all turns: -1 to the left, 1 to the right -/
inductive Side (s : List Nat) : Int → Prop
  | left : (∀ t, lateT s ≤ t + 1 → AllR (ringX s) t) → (∃ t, lateT s ≤ t + 1 ∧ ∃ i, ringX s t i = 49) → 3 ≤ s.length → Side s (-1)
  | right : (∀ t, lateT s ≤ t + 1 → AllR (flip (ringX s)) t) → (∃ t, lateT s ≤ t + 1 ∧ ∃ i, ringX s t i = 49) → 3 ≤ s.length → Side s 1
  | none : (∀ t, lateT s ≤ t → run7 s t = List.replicate s.length 48) → Side s 0
theorem side_ex {s : List Nat} (h : ∀ c ∈ s, c ∈ sgs 1) (ne : s ≠ []) : ∃ p, Side s p := by
  have hn := List.length_pos_iff.mpr ne
  rcases Nat.lt_or_ge 2 s.length with l3 | l2
  · have w := ringX_wav h ne
    have p := ringX_rnd s
    have ht : s.length + 1 ≤ 2 * (s.length / 2 + 1) := by omega
    by_cases none : ∃ i, ringX s (s.length / 2 + 1) i = 49
    · rcases one_side w p l3 ht with a | a
      · exact ⟨-1, .left (fun t q => by
          have := a.all w p l3 ht (t - (s.length / 2 + 1))
          unfold lateT at q
          rwa [show s.length / 2 + 1 + (t - (s.length / 2 + 1)) = t by omega] at this) ⟨s.length / 2 + 1, Nat.le_refl _, none⟩ l3⟩
      · exact ⟨1, .right (fun t q => by
          have := a.all w.flip p.flip l3 ht (t - (s.length / 2 + 1))
          unfold lateT at q
          rwa [show s.length / 2 + 1 + (t - (s.length / 2 + 1)) = t by omega] at this) ⟨s.length / 2 + 1, Nat.le_refl _, none⟩ l3⟩
    · refine ⟨0, .none fun t q => ?_⟩
      have z : run7 s (s.length / 2 + 2) = List.replicate s.length 48 := by
        refine ext7 (run7_len s _) (by simp) fun i hi => ?_
        rw [List.getD_eq_getElem?_getD (l := List.replicate _ _), List.getElem?_replicate_of_lt hi]
        have : ringX s (s.length / 2 + 1 + 1) i = 48 := by
          rcases w.val (s.length / 2 + 1 + 1) i with r | r | r
          · exact r
          · exact absurd ((w.up _ _ r).2.elim (fun z => ⟨_, z⟩) fun z => ⟨_, z⟩) none
          · exact absurd ⟨_, w.re _ _ r⟩ none
        rw [ringX_nat hi] at this
        exact this
      have := zero7_all z (t - (s.length / 2 + 2))
      unfold lateT at q
      rwa [show s.length / 2 + 2 + (t - (s.length / 2 + 2)) = t by omega] at this
  · refine ⟨0, .none fun t q => ?_⟩
    have := zero7_all (tiny7 h ne l2) (t - lateT s)
    rwa [show lateT s + (t - lateT s) = t by omega] at this
/-- from then on each beat turns the ring to that side -/
theorem Side.turn {s : List Nat} {p : Int} (h : ∀ c ∈ s, c ∈ sgs 1) (ne : s ≠ []) (d : Side s p) {t : Nat} (ht : lateT s ≤ t) : run7 s (t + 1) = trn (run7 s t) p := by
  have hn := List.length_pos_iff.mpr ne
  have w := ringX_wav h ne
  have rp := ringX_rnd s
  have len := run7_len s t
  have big : s.length + 1 ≤ 2 * (t - 1) := by unfold lateT at ht; omega
  have t1 : 1 ≤ t := by unfold lateT at ht; omega
  cases d with
  | left a _ l3 =>
    refine ext7 (run7_len s _) (by rw [trn_len, len]) fun i hi => ?_
    have q := turn_left w rp l3 (t := t - 1) big (a (t - 1) (by omega)) i
    rw [show t - 1 + 2 = t + 1 by omega, show t - 1 + 1 = t by omega, ringX_nat hi] at q
    rw [q, trn_getD (by omega), len]
    unfold ringX
    rw [show (i : Int) - -1 = i + 1 by omega]
  | right a _ l3 =>
    refine ext7 (run7_len s _) (by rw [trn_len, len]) fun i hi => ?_
    have q := turn_left w.flip rp.flip l3 (t := t - 1) big (a (t - 1) (by omega)) (-i)
    rw [show t - 1 + 2 = t + 1 by omega, show t - 1 + 1 = t by omega] at q
    have q : ringX s (t + 1) (-(-(i : Int))) = ringX s t (-(-(i : Int) + 1)) := q
    rw [Int.neg_neg, show -(-(i : Int) + 1) = (i : Int) - 1 by omega, ringX_nat hi] at q
    rw [q, trn_getD (by omega), len]
    rfl
  | none z =>
    rw [z t ht, z (t + 1) (by omega)]
    refine ext7 (n := s.length) (by simp) (by rw [trn_len]; simp) fun i hi => ?_
    have g : ∀ j, j < s.length → (List.replicate s.length 48).getD j 0 = 48 := fun j hj => by
      rw [List.getD_eq_getElem?_getD, List.getElem?_replicate_of_lt hj] <;> rfl
    obtain ⟨j, hj, e⟩ := mod_in hn ((i : Int) - 0)
    rw [g i hi, trn_getD (by simpa using hi), List.length_replicate, e]
    exact (g j hj).symm
end Lw
namespace Lw
open PySem L2 Da
variable [Tbs]
/-! ### the turning number tells the side -/
abbrev num7 (s : List Nat) : Int := (stps 1 s).sum / 3
theorem stpI1 (a b : Nat) : stpI 1 a b ≠ 2 := by
  unfold stpI
  split <;> omega
theorem no2_1 (s : List Nat) : ¬ (2 : Int) ∈ stps 1 s := fun h => by
  obtain ⟨i, _, e⟩ := List.mem_map.mp h
  exact stpI1 _ _ e
theorem numO7 (s : List Nat) : numO 1 s = some (num7 s) := by
  unfold numO
  rw [if_neg (no2_1 s)] <;> rfl
theorem num7_keep {s : List Nat} (h : ∀ c ∈ s, c ∈ sgs 1) (t : Nat) : num7 (run7 s t) = num7 s := by
  induction t with
  | zero => rfl
  | succ t ih =>
    have := num_keep T7_ok (.inl rfl) (by decide) (run7_mem h t) (numO7 (run7 s t))
    rw [numO7] at this
    have := Option.some.inj this
    exact this.trans ih
theorem sum_mod {f g : Nat → Int} : ∀ (l : List Nat), (∀ i ∈ l, (f i - g i) % 3 = 0) → ((l.map f).sum - (l.map g).sum) % 3 = 0
  | [], _ => rfl
  | i :: l, h => by
    have ih := sum_mod (f := f) (g := g) l fun i hi => h i (List.mem_cons_of_mem _ hi)
    have hi := h i List.mem_cons_self
    rw [List.map_cons, List.map_cons, List.sum_cons, List.sum_cons]
    omega
theorem stpI_mod (a b : Nat) : (stpI 1 a b - ((b : Int) - a)) % 3 = 0 := by
  unfold stpI
  split <;> omega
/-- the steps of a ring add up to a multiple of three -/
theorem stps_mod (s : List Nat) : (stps 1 s).sum % 3 = 0 := by
  have h := sum_mod (f := fun i => stpI 1 (s.getD i 0) (nxt s i)) (g := fun i => ((nxt s i : Nat) : Int) - (s.getD i 0 : Nat)) (List.range s.length) fun i _ => stpI_mod _ _
  have q := sum_map3 (f := fun i => ((nxt s i : Nat) : Int) - (s.getD i 0 : Nat)) (x := fun _ => 0) (y := fun i => ((nxt s i : Nat) : Int)) (z := fun i => ((s.getD i 0 : Nat) : Int)) (List.range s.length) fun i _ => by omega
  have r := rot_sum (fun i => ((s.getD i 0 : Nat) : Int)) s.length
  have z : ∀ l : List Nat, (l.map fun _ => (0 : Int)).sum = 0 := fun l => by
    induction l with
    | nil => rfl
    | cons a l ih => rw [List.map_cons, List.sum_cons, ih] <;> rfl
  have e : (List.range s.length).map (fun i => ((nxt s i : Nat) : Int)) = (List.range s.length).map fun i => (fun i => ((s.getD i 0 : Nat) : Int)) (if i + 1 = s.length then 0 else i + 1) := List.map_congr_left fun i _ => rfl
  rw [e, r, z] at q
  unfold stps
  rw [q] at h
  omega
theorem sum_pos : ∀ (l : List Int), (∀ a ∈ l, 0 ≤ a) → 0 ≤ l.sum ∧ ((∃ a ∈ l, 1 ≤ a) → 1 ≤ l.sum)
  | [], _ => ⟨Int.le_refl _, fun ⟨a, h, _⟩ => nomatch h⟩
  | a :: l, h => by
    have ha := h a List.mem_cons_self
    obtain ⟨i1, i2⟩ := sum_pos l fun b hb => h b (List.mem_cons_of_mem _ hb)
    rw [List.sum_cons]
    refine ⟨by omega, fun ⟨b, hb, b1⟩ => ?_⟩
    rcases List.mem_cons.mp hb with e | hb
    · subst e
      omega
    · have := i2 ⟨b, hb, b1⟩
      omega
theorem sum_negs (l : List Int) : (l.map fun a => -a).sum = -l.sum := by
  induction l with
  | nil => rfl
  | cons a l ih => rw [List.map_cons, List.sum_cons, List.sum_cons, ih]; omega
/-- sitting, standing, resting: one wave -/
theorem wave_l {x : Nat → Int → Nat} {n : Nat} (w : Wav3 x) (p : Rnd n x) (hn : 3 ≤ n) {t : Nat} (ht : n + 1 ≤ 2 * t) (a : AllR x t) (i : Int) :
    (x (t + 2) i = 49 → x (t + 2) (i + 1) = 50) ∧ (x (t + 2) i = 50 → x (t + 2) (i + 1) = 48) ∧ (x (t + 2) (i + 1) = 50 → x (t + 2) i = 49) := by
  have a1 := a.next w p hn ht
  have a2 := a1.next w p hn (show n + 1 ≤ 2 * (t + 1) by omega)
  have s1 := on_left w p hn (show n + 1 ≤ 2 * (t + 1) by omega) a1
  refine ⟨fun h => w.dn (t + 1) _ ((s1 i).mp h), fun h => ?_, fun h => (s1 i).mpr (w.re (t + 1) _ h)⟩
  have q := (a1 i (w.re (t + 1) i h)).one.here
  have r := w.dn t _ q
  rcases w.val (t + 2) (i + 1) with z | z | z
  · exact z
  · have := (w.up (t + 1) _ z).1
    rw [r] at this
    cases this
  · have := w.re (t + 1) _ z
    rw [r] at this
    cases this
theorem nxtX {s : List Nat} {t i : Nat} (hi : i < s.length) : nxt (run7 s t) i = ringX s t ((i : Int) + 1) := by
  have len := run7_len s t
  unfold nxt
  rw [len]
  by_cases h : i + 1 = s.length
  · rw [if_pos h, show (i : Int) + 1 = ((0 : Nat) : Int) + s.length * 1 by omega, ringX_rnd, ringX_nat (by omega)]
  · rw [if_neg h, show (i : Int) + 1 = ((i + 1 : Nat) : Int) by omega, ringX_nat (by omega)]
theorem stand_in {s : List Nat} (ne : s ≠ []) {t : Nat} {i : Int} (h : ringX s t i = 49) : ∃ j : Nat, j < s.length ∧ ringX s t (j : Int) = 49 := by
  obtain ⟨j, hj, e⟩ := mod_in (List.length_pos_iff.mpr ne) i
  refine ⟨j, hj, ?_⟩
  rw [ringX_nat hj]
  unfold ringX at h
  rw [e] at h
  exact h
theorem Side.num {s : List Nat} {p : Int} (h : ∀ c ∈ s, c ∈ sgs 1) (ne : s ≠ []) (d : Side s p) : (p = -1 ∧ 0 < num7 s) ∨ (p = 1 ∧ num7 s < 0) ∨ (p = 0 ∧ num7 s = 0) := by
  have hn := List.length_pos_iff.mpr ne
  have w := ringX_wav h ne
  have rp := ringX_rnd s
  cases d with
  | left a st l3 =>
    refine .inl ⟨rfl, ?_⟩
    obtain ⟨t, ht, i, hi⟩ := st
    have big : s.length + 1 ≤ 2 * t := by unfold lateT at ht; omega
    have A := a t ht
    have A1 := A.next w rp l3 big
    have wv := wave_l w rp l3 big A
    have k1 : ringX s (t + 1) (i - 1) = 49 := (on_left w rp l3 big A (i - 1)).mpr (by rw [show i - 1 + 1 = i by omega]; exact hi)
    have k2 : ringX s (t + 2) (i - 1 - 1) = 49 := (on_left w rp l3 (show s.length + 1 ≤ 2 * (t + 1) by omega) A1 (i - 1 - 1)).mpr (by rw [show i - 1 - 1 + 1 = i - 1 by omega]; exact k1)
    obtain ⟨j, hj, kj⟩ := stand_in ne k2
    rw [← num7_keep h (t + 2)]
    have len := run7_len s (t + 2)
    have each : ∀ i, i < s.length → 0 ≤ stpI 1 ((run7 s (t + 2)).getD i 0) (nxt (run7 s (t + 2)) i) ∧ (ringX s (t + 2) (i : Int) = 49 → stpI 1 ((run7 s (t + 2)).getD i 0) (nxt (run7 s (t + 2)) i) = 1) := fun i hi => by
      rw [nxtX hi, ← ringX_nat hi]
      obtain ⟨w1, w2, w3⟩ := wv i
      rcases w.val (t + 2) i with q | q | q
      · rw [q]
        rcases w.val (t + 2) (i + 1) with r | r | r
        · rw [r]; exact ⟨by decide, fun z => by cases z⟩
        · rw [r]; exact ⟨by decide, fun z => by cases z⟩
        · rw [w3 r] at q; cases q
      · rw [q, w1 q]; exact ⟨by decide, fun _ => by decide⟩
      · rw [q, w2 q]; exact ⟨by decide, fun z => by cases z⟩
    have pos := (sum_pos (stps 1 (run7 s (t + 2))) fun a ha => by
      obtain ⟨i, hi, rfl⟩ := List.mem_map.mp ha
      exact (each i (by have := List.mem_range.mp hi; omega)).1).2 ⟨_, List.mem_map.mpr ⟨j, List.mem_range.mpr (by omega), rfl⟩, by rw [(each j hj).2 kj]; exact Int.le_refl _⟩
    have := stps_mod (run7 s (t + 2))
    show 0 < (stps 1 (run7 s (t + 2))).sum / 3
    omega
  | right a st l3 =>
    refine .inr (.inl ⟨rfl, ?_⟩)
    obtain ⟨t, ht, i, hi⟩ := st
    have big : s.length + 1 ≤ 2 * t := by unfold lateT at ht; omega
    have A := a t ht
    have A1 := A.next w.flip rp.flip l3 big
    have wv := wave_l w.flip rp.flip l3 big A
    have hi : flip (ringX s) t (-i) = 49 := by show ringX s t (-(-i)) = 49; rw [Int.neg_neg]; exact hi
    have k1 : flip (ringX s) (t + 1) (-i - 1) = 49 := (on_left w.flip rp.flip l3 big A (-i - 1)).mpr (by rw [show -i - 1 + 1 = -i by omega]; exact hi)
    have k2 : flip (ringX s) (t + 2) (-i - 1 - 1) = 49 := (on_left w.flip rp.flip l3 (show s.length + 1 ≤ 2 * (t + 1) by omega) A1 (-i - 1 - 1)).mpr (by rw [show -i - 1 - 1 + 1 = -i - 1 by omega]; exact k1)
    have k3 : ringX s (t + 2) (-(-i - 1 - 1) - 1 + 1) = 49 := by rw [show -(-i - 1 - 1) - 1 + 1 = -(-i - 1 - 1) by omega]; exact k2
    obtain ⟨j, hj, ej⟩ := mod_in hn (-(-i - 1 - 1) - 1)
    have kj : ringX s (t + 2) ((j : Int) + 1) = 49 := by
      have q := Int.emod_add_mul_ediv (-(-i - 1 - 1) - 1) s.length
      have := rp (t + 2) ((j : Int) + 1) ((-(-i - 1 - 1) - 1) / s.length)
      rw [← this, show (j : Int) + 1 + s.length * ((-(-i - 1 - 1) - 1) / s.length) = -(-i - 1 - 1) - 1 + 1 by omega]
      exact k3
    rw [← num7_keep h (t + 2)]
    have len := run7_len s (t + 2)
    have each : ∀ i, i < s.length → 0 ≤ -stpI 1 ((run7 s (t + 2)).getD i 0) (nxt (run7 s (t + 2)) i) ∧ (ringX s (t + 2) ((i : Int) + 1) = 49 → -stpI 1 ((run7 s (t + 2)).getD i 0) (nxt (run7 s (t + 2)) i) = 1) := fun i hi => by
      rw [nxtX hi, ← ringX_nat hi]
      obtain ⟨w1, w2, w3⟩ := wv (-((i : Int) + 1))
      have f1 : flip (ringX s) (t + 2) (-((i : Int) + 1)) = ringX s (t + 2) ((i : Int) + 1) := by show ringX s (t + 2) (-(-((i : Int) + 1))) = _; rw [Int.neg_neg]
      have f2 : flip (ringX s) (t + 2) (-((i : Int) + 1) + 1) = ringX s (t + 2) (i : Int) := by show ringX s (t + 2) (-(-((i : Int) + 1) + 1)) = _; congr 1; omega
      rw [f1, f2] at w1 w2 w3
      rcases w.val (t + 2) ((i : Int) + 1) with q | q | q
      · rw [q]
        rcases w.val (t + 2) i with r | r | r
        · rw [r]; exact ⟨by decide, fun z => by cases z⟩
        · rw [r]; exact ⟨by decide, fun z => by cases z⟩
        · rw [w3 r] at q; cases q
      · rw [q, w1 q]; exact ⟨by decide, fun _ => by decide⟩
      · rw [q, w2 q]; exact ⟨by decide, fun z => by cases z⟩
    have pos := (sum_pos ((stps 1 (run7 s (t + 2))).map fun a => -a) fun a ha => by
      obtain ⟨b, hb, rfl⟩ := List.mem_map.mp ha
      obtain ⟨i, hi, rfl⟩ := List.mem_map.mp hb
      exact (each i (by have := List.mem_range.mp hi; omega)).1).2 ⟨_, List.mem_map.mpr ⟨_, List.mem_map.mpr ⟨j, List.mem_range.mpr (by omega), rfl⟩, rfl⟩, by rw [(each j hj).2 kj]; exact Int.le_refl _⟩
    rw [sum_negs] at pos
    have := stps_mod (run7 s (t + 2))
    show (stps 1 (run7 s (t + 2))).sum / 3 < 0
    omega
  | none z =>
    refine .inr (.inr ⟨rfl, ?_⟩)
    rw [← num7_keep h (lateT s), z _ (Nat.le_refl _)]
    have g : ∀ j, j < s.length → (List.replicate s.length 48).getD j 0 = 48 := fun j hj => by
      rw [List.getD_eq_getElem?_getD, List.getElem?_replicate_of_lt hj] <;> rfl
    have e : stps 1 (List.replicate s.length 48) = (List.range s.length).map fun _ => 0 := by
      unfold stps
      rw [List.length_replicate]
      refine List.map_congr_left fun i hi => ?_
      have hi := List.mem_range.mp hi
      unfold nxt
      rw [List.length_replicate, g i hi, g _ (by split <;> omega)] <;> rfl
    have zz : ∀ l : List Nat, (l.map fun _ => (0 : Int)).sum = 0 := fun l => by
      induction l with
      | nil => rfl
      | cons a l ih => rw [List.map_cons, List.sum_cons, ih] <;> rfl
    show (stps 1 (List.replicate s.length 48)).sum / 3 = 0
    rw [e, zz] <;> rfl
/-! ### crowds: a hexadecimal digit for each seat -/
/-- the number of such digits, the last one ahead -/
def hexR : List Nat → Nat
  | [] => 0
  | d :: r => 2 ^ 4 * hexR r + d
theorem hexR_bit : ∀ (r : List Nat), (∀ d ∈ r, d < 16) → ∀ j, (hexR r).testBit j = (r.getD (j / 4) 0).testBit (j % 4)
  | [], _, j => by simp [hexR]
  | d :: r, h, j => by
    have ih := hexR_bit r fun d hd => h d (List.mem_cons_of_mem _ hd)
    unfold hexR
    rw [Nat.testBit_two_pow_mul_add _ (h d List.mem_cons_self)]
    split
    · rename_i q
      rw [show j / 4 = 0 by omega, show j % 4 = j by omega] <;> rfl
    · rename_i q
      rw [ih, show j / 4 = (j - 4) / 4 + 1 by omega, show j % 4 = (j - 4) % 4 by omega] <;> rfl
/-- the crowd of the seats with b -/
def crdB (n : Nat) (b : Nat → Bool) : Nat := hexR ((List.range n).map fun k => if b (n - 1 - k) then 1 else 0)
theorem crdB_bit (n : Nat) (b : Nat → Bool) (j : Nat) : (crdB n b).testBit j = (decide (j % 4 = 0) && (decide (j / 4 < n) && b (n - 1 - j / 4))) := by
  unfold crdB
  rw [hexR_bit _ (fun d hd => by obtain ⟨k, _, rfl⟩ := List.mem_map.mp hd; split <;> decide)]
  by_cases h : j / 4 < n
  · have e : ((List.range n).map fun k => if b (n - 1 - k) then 1 else 0).getD (j / 4) 0 = if b (n - 1 - j / 4) then 1 else 0 := by
      rw [List.getD_eq_getElem?_getD, List.getElem?_map, List.getElem?_range h] <;> rfl
    rw [e, decide_eq_true h]
    cases b (n - 1 - j / 4) with
    | false => simp
    | true =>
      have : j % 4 = 0 ∨ j % 4 = 1 ∨ j % 4 = 2 ∨ j % 4 = 3 := by omega
      rcases this with q | q | q | q <;> rw [q] <;> decide
  · have e : ((List.range n).map fun k => if b (n - 1 - k) then 1 else 0).getD (j / 4) 0 = 0 := by
      rw [List.getD_eq_getElem?_getD, List.getElem?_eq_none (by simp; omega)] <;> rfl
    rw [e, decide_eq_false h]
    simp
theorem crdB_eq {n S : Nat} {b : Nat → Bool} (h : ∀ j, S.testBit j = (decide (j % 4 = 0) && (decide (j / 4 < n) && b (n - 1 - j / 4)))) : S = crdB n b := Nat.eq_of_testBit_eq fun j => by rw [h, crdB_bit]
theorem crdB_congr {n : Nat} {b c : Nat → Bool} (h : ∀ i, i < n → b i = c i) : crdB n b = crdB n c := crdB_eq fun j => by
  rw [crdB_bit]
  by_cases q : j / 4 < n
  · rw [h _ (by omega)]
  · rw [decide_eq_false q]
    simp
theorem crdB_inj {n : Nat} {b c : Nat → Bool} (h : crdB n b = crdB n c) : ∀ i, i < n → b i = c i := fun i hi => by
  have q := congrArg (fun S => S.testBit (4 * (n - 1 - i))) h
  simp only [crdB_bit] at q
  rw [show 4 * (n - 1 - i) % 4 = 0 by omega, show 4 * (n - 1 - i) / 4 = n - 1 - i by omega, show n - 1 - (n - 1 - i) = i by omega, decide_eq_true (show n - 1 - i < n by omega)] at q
  simpa using q
theorem crdB_zero {n : Nat} {b : Nat → Bool} : crdB n b = 0 ↔ ∀ i, i < n → b i = false := by
  constructor
  · intro h i hi
    have q := crdB_bit n b (4 * (n - 1 - i))
    rw [h, show 4 * (n - 1 - i) % 4 = 0 by omega, show 4 * (n - 1 - i) / 4 = n - 1 - i by omega, show n - 1 - (n - 1 - i) = i by omega, decide_eq_true (show n - 1 - i < n by omega)] at q
    simpa using q.symm
  · intro h
    refine Nat.eq_of_testBit_eq fun j => ?_
    rw [crdB_bit, Nat.zero_testBit]
    by_cases q : j / 4 < n
    · rw [h _ (by omega)]
      simp
    · rw [decide_eq_false q]
      simp
/-- who is beside one who stands -/
theorem crd_beside {n : Nat} (hn : 0 < n) (b : Nat → Bool) :
    crdB n (fun _ => true) &&& ((((crdB n b <<< 4) ||| (crdB n b >>> (4 * (n - 1)))) ||| (crdB n b >>> 4)) ||| (crdB n b <<< (4 * (n - 1)))) =
    crdB n fun i => b (if i = 0 then n - 1 else i - 1) || b (if i + 1 = n then 0 else i + 1) := by
  refine crdB_eq fun j => ?_
  rw [Nat.testBit_and, crdB_bit]
  by_cases h : j % 4 = 0 ∧ j / 4 < n
  · obtain ⟨h1, h2⟩ := h
    obtain ⟨k, rfl⟩ : ∃ k, j = 4 * k := ⟨j / 4, by omega⟩
    have hk : k < n := by omega
    have q1 : 4 * k % 4 = 0 := by omega
    have q2 : 4 * k / 4 = k := by omega
    simp only [Nat.testBit_or, Nat.testBit_shiftLeft, Nat.testBit_shiftRight, crdB_bit]
    rw [q1, q2, decide_eq_true hk]
    have a1 : (decide (4 * k ≥ 4) && (decide ((4 * k - 4) % 4 = 0) && (decide ((4 * k - 4) / 4 < n) && b (n - 1 - (4 * k - 4) / 4)))) = (decide (1 ≤ k) && b (n - 1 - (k - 1))) := by
      by_cases z : 1 ≤ k
      · rw [decide_eq_true z, decide_eq_true (show 4 * k ≥ 4 by omega), decide_eq_true (show (4 * k - 4) % 4 = 0 by omega), show (4 * k - 4) / 4 = k - 1 by omega, decide_eq_true (show k - 1 < n by omega)] <;> rfl
      · rw [decide_eq_false z, decide_eq_false (show ¬ 4 * k ≥ 4 by omega)] <;> rfl
    have a2 : (decide ((4 * (n - 1) + 4 * k) % 4 = 0) && (decide ((4 * (n - 1) + 4 * k) / 4 < n) && b (n - 1 - (4 * (n - 1) + 4 * k) / 4))) = (decide (k = 0) && b 0) := by
      rw [decide_eq_true (show (4 * (n - 1) + 4 * k) % 4 = 0 by omega), show (4 * (n - 1) + 4 * k) / 4 = n - 1 + k by omega]
      by_cases z : k = 0
      · subst z
        rw [decide_eq_true (show n - 1 + 0 < n by omega), show n - 1 - (n - 1 + 0) = 0 by omega] <;> rfl
      · rw [decide_eq_false z, decide_eq_false (show ¬ n - 1 + k < n by omega)] <;> rfl
    have a3 : (decide ((4 + 4 * k) % 4 = 0) && (decide ((4 + 4 * k) / 4 < n) && b (n - 1 - (4 + 4 * k) / 4))) = (decide (k + 1 < n) && b (n - 1 - (k + 1))) := by
      rw [decide_eq_true (show (4 + 4 * k) % 4 = 0 by omega), show (4 + 4 * k) / 4 = k + 1 by omega, Bool.true_and]
    have a4 : (decide (4 * k ≥ 4 * (n - 1)) && (decide ((4 * k - 4 * (n - 1)) % 4 = 0) && (decide ((4 * k - 4 * (n - 1)) / 4 < n) && b (n - 1 - (4 * k - 4 * (n - 1)) / 4)))) = (decide (k + 1 = n) && b (n - 1)) := by
      by_cases z : k + 1 = n
      · rw [decide_eq_true z, decide_eq_true (show 4 * k ≥ 4 * (n - 1) by omega), show 4 * k - 4 * (n - 1) = 0 by omega, decide_eq_true (show 0 % 4 = 0 by rfl), decide_eq_true (show 0 / 4 < n by omega)] <;> rfl
      · rw [decide_eq_false z, decide_eq_false (show ¬ 4 * k ≥ 4 * (n - 1) by omega)] <;> rfl
    rw [a1, a2, a3, a4]
    simp only [decide_true, Bool.true_and]
    by_cases k0 : k = 0
    · subst k0
      rw [decide_eq_false (show ¬ 1 ≤ 0 by omega), decide_eq_true (show 0 = 0 from rfl)]
      by_cases n1 : n = 1
      · subst n1
        simp
      · rw [decide_eq_true (show 0 + 1 < n by omega), decide_eq_false (show ¬ 0 + 1 = n by omega), if_neg (by omega), if_pos (by omega), show n - 1 - 0 - 1 = n - 1 - (0 + 1) by omega]
        cases b 0 <;> cases b (n - 1 - (0 + 1)) <;> rfl
    · rw [decide_eq_true (show 1 ≤ k by omega), decide_eq_false k0]
      by_cases kn : k + 1 = n
      · rw [decide_eq_false (show ¬ k + 1 < n by omega), decide_eq_true kn, if_pos (by omega), if_neg (by omega), show n - 1 - k + 1 = n - 1 - (k - 1) by omega]
        cases b (n - 1) <;> cases b (n - 1 - (k - 1)) <;> rfl
      · rw [decide_eq_true (show k + 1 < n by omega), decide_eq_false kn, if_neg (by omega), if_neg (by omega), show n - 1 - k + 1 = n - 1 - (k - 1) by omega, show n - 1 - k - 1 = n - 1 - (k + 1) by omega]
        cases b (n - 1 - (k + 1)) <;> cases b (n - 1 - (k - 1)) <;> rfl
  · have z : (decide (j % 4 = 0) && (decide (j / 4 < n) && true)) = false := by
      by_cases q : j % 4 = 0
      · rw [decide_eq_true q, decide_eq_false fun w => h ⟨q, w⟩] <;> rfl
      · rw [decide_eq_false q] <;> rfl
    have z2 : ∀ c : Bool, (decide (j % 4 = 0) && (decide (j / 4 < n) && c)) = false := fun c => by
      by_cases q : j % 4 = 0
      · rw [decide_eq_true q, decide_eq_false fun w => h ⟨q, w⟩] <;> rfl
      · rw [decide_eq_false q] <;> rfl
    rw [z, z2] <;> rfl
theorem crd_and (n : Nat) (b c : Nat → Bool) : crdB n b &&& crdB n c = crdB n fun i => b i && c i := crdB_eq fun j => by
  rw [Nat.testBit_and, crdB_bit, crdB_bit]
  cases decide (j % 4 = 0) <;> cases decide (j / 4 < n) <;> simp
theorem crd_or (n : Nat) (b c : Nat → Bool) : crdB n b ||| crdB n c = crdB n fun i => b i || c i := crdB_eq fun j => by
  rw [Nat.testBit_or, crdB_bit, crdB_bit]
  cases decide (j % 4 = 0) <;> cases decide (j / 4 < n) <;> simp
theorem hexR_sum (f g h : Nat → Nat) : ∀ l : List Nat, (∀ k ∈ l, f k = g k + h k) → hexR (l.map f) = hexR (l.map g) + hexR (l.map h)
  | [], _ => rfl
  | k :: l, q => by
    show 2 ^ 4 * hexR (l.map f) + f k = 2 ^ 4 * hexR (l.map g) + g k + (2 ^ 4 * hexR (l.map h) + h k)
    rw [hexR_sum f g h l fun k hk => q k (List.mem_cons_of_mem _ hk), q k List.mem_cons_self]
    omega
theorem crd_sub (n : Nat) (b c : Nat → Bool) : crdB n b - (crdB n b &&& crdB n c) = crdB n fun i => b i && !c i := by
  rw [crd_and]
  have := hexR_sum (fun k => if b (n - 1 - k) then 1 else 0) (fun k => if b (n - 1 - k) && c (n - 1 - k) then 1 else 0) (fun k => if b (n - 1 - k) && !c (n - 1 - k) then 1 else 0) (List.range n) fun k _ => by
    cases b (n - 1 - k) <;> cases c (n - 1 - k) <;> rfl
  unfold crdB
  dsimp only
  omega
/-- turned -/
theorem crd_turn {n : Nat} (b : Nat → Bool) {m : Nat} (hm : m < n) : ((crdB n b &&& (2 ^ (4 * m) - 1)) <<< (4 * n - 4 * m)) ||| (crdB n b >>> (4 * m)) = crdB n fun i => b (if m ≤ i then i - m else i + n - m) := by
  refine crdB_eq fun j => ?_
  simp only [Nat.testBit_or, Nat.testBit_shiftLeft, Nat.testBit_shiftRight, Nat.testBit_and, crdB_bit, Nat.testBit_two_pow_sub_one]
  rcases Nat.lt_or_ge j (4 * n - 4 * m) with h | h
  · rw [decide_eq_false (show ¬ j ≥ 4 * n - 4 * m by omega), Bool.false_and, Bool.false_or, show (4 * m + j) % 4 = j % 4 by omega, show (4 * m + j) / 4 = m + j / 4 by omega]
    rw [decide_eq_true (show m + j / 4 < n by omega), decide_eq_true (show j / 4 < n by omega), if_pos (by omega), show n - 1 - (m + j / 4) = n - 1 - j / 4 - m by omega]
  · rw [decide_eq_true h, Bool.true_and, show (j - (4 * n - 4 * m)) % 4 = j % 4 by omega, show (j - (4 * n - 4 * m)) / 4 = j / 4 - (n - m) by omega, show (4 * m + j) / 4 = m + j / 4 by omega, decide_eq_false (show ¬ m + j / 4 < n by omega)]
    by_cases q : j / 4 < n
    · rw [decide_eq_true (show j / 4 - (n - m) < n by omega), decide_eq_true (show j - (4 * n - 4 * m) < 4 * m by omega), decide_eq_true q, if_neg (by omega), show n - 1 - (j / 4 - (n - m)) = n - 1 - j / 4 + n - m by omega]
      simp
    · rw [decide_eq_false (show ¬ j - (4 * n - 4 * m) < 4 * m by omega), decide_eq_false q]
      simp
/-- digits of 0, 1, 2 -/
theorem hexR_add (f g : Nat → Nat) : ∀ l : List Nat, hexR (l.map fun k => f k + 2 * g k) = hexR (l.map f) + 2 * hexR (l.map g)
  | [] => rfl
  | k :: l => by
    show 2 ^ 4 * hexR (l.map _) + (f k + 2 * g k) = 2 ^ 4 * hexR (l.map f) + f k + 2 * (2 ^ 4 * hexR (l.map g) + g k)
    rw [hexR_add f g l]
    omega
/-- a number's hexadecimal text, filled up with noughts -/
theorem hexR_text : ∀ (r : List Nat), r ≠ [] → (∀ d ∈ r, d < 10) → ∃ z, r.reverse.map (48 + ·) = List.replicate z 48 ++ (Nat.toDigits 16 (hexR r)).map fun c => c.toNat
  | [d], _, h => by
    have hd := h d List.mem_cons_self
    have e : hexR [d] = d := by simp [hexR]
    refine ⟨0, ?_⟩
    rw [e, Nat.toDigits_of_lt_base (by omega)]
    have : d = 0 ∨ d = 1 ∨ d = 2 ∨ d = 3 ∨ d = 4 ∨ d = 5 ∨ d = 6 ∨ d = 7 ∨ d = 8 ∨ d = 9 := by omega
    rcases this with rfl | rfl | rfl | rfl | rfl | rfl | rfl | rfl | rfl | rfl <;> rfl
  | d :: a :: r, _, h => by
    obtain ⟨z, ih⟩ := hexR_text (a :: r) (by simp) fun d hd => h d (List.mem_cons_of_mem _ hd)
    have hd := h d List.mem_cons_self
    have one : [48 + d] = (Nat.toDigits 16 d).map fun c => c.toNat := by
      rw [Nat.toDigits_of_lt_base (by omega)]
      have : d = 0 ∨ d = 1 ∨ d = 2 ∨ d = 3 ∨ d = 4 ∨ d = 5 ∨ d = 6 ∨ d = 7 ∨ d = 8 ∨ d = 9 := by omega
      rcases this with rfl | rfl | rfl | rfl | rfl | rfl | rfl | rfl | rfl | rfl <;> rfl
    have e : hexR (d :: a :: r) = 2 ^ 4 * hexR (a :: r) + d := rfl
    rw [List.reverse_cons, List.map_append, ih, e]
    show ∃ z', List.replicate z 48 ++ _ ++ [48 + d] = _
    generalize hexR (a :: r) = N at *
    by_cases hN : N = 0
    · subst hN
      refine ⟨z + 1, ?_⟩
      rw [one, Nat.mul_zero, Nat.zero_add, List.replicate_succ', show (Nat.toDigits 16 0).map (fun c => c.toNat) = [48] from by rw [Nat.toDigits_of_lt_base (by omega)] <;> rfl]
    · refine ⟨z, ?_⟩
      rw [one, List.append_assoc, ← List.map_append, Nat.toDigits_append_toDigits (by omega) (by omega) (by omega)]
theorem digs_ge {n : Nat} : ∀ c ∈ (Nat.toDigits 16 n).map fun c => c.toNat, 48 ≤ c := by
  have gen : ∀ k n, n ≤ k → ∀ c ∈ (Nat.toDigits 16 n).map fun c => c.toNat, 48 ≤ c := fun k => by
    induction k with
    | zero =>
      intro n hn c hc
      rw [show n = 0 by omega, Nat.toDigits_of_lt_base (by omega)] at hc
      have e : c = (Nat.digitChar 0).toNat := by simpa using hc
      rw [e]
      decide
    | succ k ih =>
      intro n hn c hc
      have dig : ∀ d, d < 16 → 48 ≤ (Nat.digitChar d).toNat := by decide
      rw [Nat.toDigits_eq_if (by omega)] at hc
      split at hc
      · rename_i q
        have : c = (Nat.digitChar n).toNat := by simpa using hc
        rw [this]
        exact dig n q
      · rw [List.map_append] at hc
        rcases List.mem_append.mp hc with hc | hc
        · exact ih (n / 16) (by omega) c hc
        · have : c = (Nat.digitChar (n % 16)).toNat := by simpa using hc
          rw [this]
          exact dig _ (Nat.mod_lt _ (by omega))
  exact gen n n (Nat.le_refl _)
/-! ### the ends of rings by one neighbour enough -/
theorem run7_s (s : List Nat) (t : Nat) : run7 s (t + 1) = rngS T7 (sgs 1) (run7 s t) := rfl
theorem g48 {n j : Nat} (hj : j < n) : (List.replicate n 48).getD j 0 = 48 := by
  rw [List.getD_eq_getElem?_getD, List.getElem?_replicate_of_lt hj] <;> rfl
/-- who rests stood a beat ahead -/
theorem rest7 {s : List Nat} (h : ∀ c ∈ s, c ∈ sgs 1) (ne : s ≠ []) {t i : Nat} (hi : i < s.length) : (run7 s (t + 1)).getD i 0 = 50 ↔ (run7 s t).getD i 0 = 49 := by
  have w := ringX_wav h ne
  rw [← ringX_nat hi, ← ringX_nat hi]
  exact ⟨w.re t i, w.dn t i⟩
/-- who stands up -/
theorem up7 {s : List Nat} (h : ∀ c ∈ s, c ∈ sgs 1) {t i : Nat} (hi : i < s.length) : (run7 s (t + 1)).getD i 0 = 49 ↔ ((run7 s t).getD (if i = 0 then s.length - 1 else i - 1) 0 = 49 ∨ (run7 s t).getD (if i + 1 = s.length then 0 else i + 1) 0 = 49) ∧ ¬ ((run7 s t).getD i 0 = 49 ∨ (run7 s t).getD i 0 = 50) := by
  have len := run7_len s t
  have m := run7_mem h t _ (getD_mem (show i < (run7 s t).length by omega))
  rw [run7_s, rngS_getD (by omega), bec7 m, len]
  rcases sgs1 m with q | q | q
  · rw [if_pos q, q]
    by_cases z : (run7 s t).getD (if i = 0 then s.length - 1 else i - 1) 0 = 49 ∨ (run7 s t).getD (if i + 1 = s.length then 0 else i + 1) 0 = 49
    · rw [if_pos z]
      exact ⟨fun _ => ⟨z, by decide⟩, fun _ => rfl⟩
    · rw [if_neg z]
      exact ⟨fun a => (by cases a), fun a => absurd a.1 z⟩
  · rw [q, if_neg (by decide), if_pos rfl]
    exact ⟨fun a => (by cases a), fun a => absurd (Or.inl rfl) a.2⟩
  · rw [q, if_neg (by decide), if_neg (by decide)]
    exact ⟨fun a => (by cases a), fun a => absurd (Or.inr rfl) a.2⟩
/-- a stand with nobody who stands or rests -/
theorem all_sit {s : List Nat} (h : ∀ c ∈ s, c ∈ sgs 1) {t : Nat} (n1 : ∀ i, i < s.length → (run7 s t).getD i 0 ≠ 49) (n2 : ∀ i, i < s.length → (run7 s t).getD i 0 ≠ 50) : run7 s t = List.replicate s.length 48 :=
  ext7 (run7_len s t) (by simp) fun i hi => by
    rw [g48 hi]
    rcases sgs1 (run7_mem h t _ (getD_mem (by rw [run7_len]; exact hi))) with q | q | q
    · exact q
    · exact absurd q (n1 i hi)
    · exact absurd q (n2 i hi)
/-- who stands after t beats, as a truth -/
def anyB (s : List Nat) (t : Nat) : Bool := (List.range s.length).any fun i => (run7 s t).getD i 0 == 49
theorem anyB_iff {s : List Nat} {t : Nat} : anyB s t = true ↔ ∃ i, i < s.length ∧ (run7 s t).getD i 0 = 49 := by
  unfold anyB
  rw [List.any_eq_true]
  exact ⟨fun ⟨i, h1, h2⟩ => ⟨i, List.mem_range.mp h1, by simpa using h2⟩, fun ⟨i, h1, h2⟩ => ⟨i, List.mem_range.mpr h1, by simpa using h2⟩⟩
theorem any_zero {s : List Nat} {t : Nat} (z : run7 s t = List.replicate s.length 48) : anyB s t = false := by
  cases h : anyB s t with
  | false => rfl
  | true =>
    obtain ⟨i, hi, e⟩ := anyB_iff.mp h
    rw [z, g48 hi] at e
    cases e
/-- the first beat after which all sit -/
structure Quiet (s : List Nat) (q : Nat) : Prop where
  at_ : run7 s q = List.replicate s.length 48
  first : ∀ t, t < q → run7 s t ≠ List.replicate s.length 48
theorem Quiet.one {s : List Nat} {q r : Nat} (a : Quiet s q) (b : Quiet s r) : q = r := by
  rcases Nat.lt_trichotomy q r with h | h | h
  · exact absurd a.at_ (b.first q h)
  · exact h
  · exact absurd b.at_ (a.first r h)
theorem quiet_ex {s : List Nat} (h : ∀ c ∈ s, c ∈ sgs 1) (ne : s ≠ []) (z : num7 s = 0) : ∃ q, q ≤ lateT s ∧ Quiet s q := by
  obtain ⟨p, d⟩ := side_ex h ne
  have zero : run7 s (lateT s) = List.replicate s.length 48 := by
    cases d with
    | left a b c => exact absurd z (by have := (Side.left a b c).num h ne; omega)
    | right a b c => exact absurd z (by have := (Side.right a b c).num h ne; omega)
    | none q => exact q _ (Nat.le_refl _)
  have gen : ∀ n, run7 s n = List.replicate s.length 48 → ∃ q, q ≤ n ∧ Quiet s q := fun n => by
    induction n with
    | zero => exact fun e => ⟨0, Nat.le_refl _, e, fun t ht => by omega⟩
    | succ n ih =>
      intro e
      by_cases q : run7 s n = List.replicate s.length 48
      · obtain ⟨r, h1, h2⟩ := ih q
        exact ⟨r, by omega, h2⟩
      · refine ⟨n + 1, Nat.le_refl _, e, fun t ht z => q ?_⟩
        have := zero7_all z (n - t)
        rwa [show t + (n - t) = n by omega] at this
  exact gen _ zero
theorem quiet_no {s : List Nat} (h : ∀ c ∈ s, c ∈ sgs 1) (z : num7 s ≠ 0) (t : Nat) : run7 s t ≠ List.replicate s.length 48 := fun e => by
  have k := num7_keep h t
  rw [e] at k
  have e : stps 1 (List.replicate s.length 48) = (List.range s.length).map fun _ => 0 := by
    unfold stps
    rw [List.length_replicate]
    refine List.map_congr_left fun i hi => ?_
    have hi := List.mem_range.mp hi
    unfold nxt
    rw [List.length_replicate, g48 hi, g48 (by split <;> omega)] <;> rfl
  have zz : ∀ l : List Nat, (l.map fun _ => (0 : Int)).sum = 0 := fun l => by
    induction l with
    | nil => rfl
    | cons a l ih => rw [List.map_cons, List.sum_cons, ih] <;> rfl
  apply z
  rw [← k]
  show (stps 1 (List.replicate s.length 48)).sum / 3 = 0
  rw [e, zz] <;> rfl
/-- where somebody stands last at beat L, all sit after L + 2 -/
theorem quiet_last {s : List Nat} (h : ∀ c ∈ s, c ∈ sgs 1) (ne : s ≠ []) {L : Nat} (st : anyB s L = true) (no : ∀ t, L < t → anyB s t = false) : Quiet s (L + 2) := by
  have none : ∀ t, L < t → ∀ i, i < s.length → (run7 s t).getD i 0 ≠ 49 := fun t ht i hi e => by
    have := no t ht
    rw [anyB_iff.mpr ⟨i, hi, e⟩] at this
    cases this
  obtain ⟨i, hi, e⟩ := anyB_iff.mp st
  refine ⟨all_sit h (none _ (by omega)) fun i hi q => none (L + 1) (by omega) i hi ((rest7 h ne hi).mp q), fun t ht z => ?_⟩
  rcases Nat.lt_or_ge t (L + 1) with q | q
  · have := zero7_all z (L - t)
    rw [show t + (L - t) = L by omega] at this
    rw [this, g48 hi] at e
    cases e
  · have : t = L + 1 := by omega
    subst this
    have := (rest7 h ne hi).mpr e
    rw [z, g48 hi] at this
    cases this
/-- where nobody ever stands -/
theorem quiet_none {s : List Nat} (h : ∀ c ∈ s, c ∈ sgs 1) (ne : s ≠ []) (no : ∀ t, anyB s t = false) : Quiet s (if 50 ∈ s then 1 else 0) := by
  have none : ∀ t, ∀ i, i < s.length → (run7 s t).getD i 0 ≠ 49 := fun t i hi e => by
    have := no t
    rw [anyB_iff.mpr ⟨i, hi, e⟩] at this
    cases this
  by_cases m : 50 ∈ s
  · rw [if_pos m]
    refine ⟨all_sit h (none 1) fun i hi q => none 0 i hi ((rest7 h ne hi).mp q), fun t ht z => ?_⟩
    have : t = 0 := by omega
    subst this
    have z : s = List.replicate s.length 48 := z
    rw [z] at m
    have := (List.mem_replicate.mp m).2
    omega
  · rw [if_neg m]
    exact ⟨all_sit h (none 0) fun i hi q => m (by rw [← q]; exact getD_mem hi), fun t ht => by omega⟩
/-! turning -/
theorem Side.far {s : List Nat} {p : Int} (h : ∀ c ∈ s, c ∈ sgs 1) (ne : s ≠ []) (d : Side s p) (k : Nat) : run7 s (lateT s + k) = trn (run7 s (lateT s)) (p * k) := by
  have rn : run7 s (lateT s) ≠ [] := fun z => ne (List.length_eq_zero_iff.mp (by rw [← run7_len s (lateT s), z] <;> rfl))
  induction k with
  | zero =>
    rw [show p * ((0 : Nat) : Int) = 0 by simp, trn_zero rn] <;> rfl
  | succ k ih =>
    have := d.turn h ne (show lateT s ≤ lateT s + k by omega)
    rw [show lateT s + (k + 1) = lateT s + k + 1 by omega, this, ih, trn_trn rn]
    congr 1
    rw [show ((k + 1 : Nat) : Int) = (k : Int) + 1 by omega, Int.mul_add, Int.mul_one]
/-- a beat that only turns -/
def Mv (s : List Nat) (p : Int) (t : Nat) : Prop := run7 s (t + 1) = trn (run7 s t) p
theorem Mv.next {s : List Nat} {p : Int} (ne : s ≠ []) {t : Nat} (m : Mv s p t) : Mv s p (t + 1) := by
  have rn : run7 s t ≠ [] := fun z => ne (List.length_eq_zero_iff.mp (by rw [← run7_len s t, z] <;> rfl))
  unfold Mv at m ⊢
  rw [run7_s s (t + 1), run7_s s t] at *
  conv => lhs; rw [m]
  rw [rng_trn rn]
theorem Mv.up {s : List Nat} {p : Int} (ne : s ≠ []) {t : Nat} (m : Mv s p t) : ∀ k, Mv s p (t + k)
  | 0 => m
  | k + 1 => (m.up ne k).next ne
/-- the same of those who stand alone -/
def Cw (s : List Nat) (p : Int) (t : Nat) : Prop := ∀ i, i < s.length → ((run7 s (t + 1)).getD i 0 = 49 ↔ (trn (run7 s t) p).getD i 0 = 49)
theorem mv_cw {s : List Nat} (h : ∀ c ∈ s, c ∈ sgs 1) (ne : s ≠ []) {p : Int} {t : Nat} : Mv s p (t + 1) ↔ Cw s p (t + 1) ∧ Cw s p t := by
  have hn := List.length_pos_iff.mpr ne
  have l0 := run7_len s t
  have l1 := run7_len s (t + 1)
  have ix : ∀ i : Nat, ∃ j : Nat, j < s.length ∧ ((i : Int) - p) % (s.length : Int) = j := fun i => mod_in hn _
  refine ⟨fun m => ⟨fun i hi => by rw [show run7 s (t + 1 + 1) = trn (run7 s (t + 1)) p from m], fun i hi => ?_⟩, fun ⟨c1, c0⟩ => ?_⟩
  · have e := congrArg (fun u : List Nat => u.getD i 0) (show run7 s (t + 1 + 1) = trn (run7 s (t + 1)) p from m)
    try dsimp only at e
    obtain ⟨j, hj, ej⟩ := ix i
    rw [trn_getD (by omega), l1, ej, Int.toNat_natCast] at e
    rw [trn_getD (by omega), l0, ej, Int.toNat_natCast, ← rest7 h ne hi, e, rest7 h ne hj]
  · refine ext7 (run7_len s _) (by rw [trn_len]; exact l1) fun i hi => ?_
    obtain ⟨j, hj, ej⟩ := ix i
    have a := c1 i hi
    have b := c0 i hi
    rw [trn_getD (by omega), l1, ej, Int.toNat_natCast] at a ⊢
    rw [trn_getD (by omega), l0, ej, Int.toNat_natCast, ← rest7 h ne hi, ← rest7 h ne hj] at b
    have m1 := sgs1 (run7_mem h (t + 1 + 1) _ (getD_mem (by rw [run7_len]; exact hi)))
    have m2 := sgs1 (run7_mem h (t + 1) _ (getD_mem (by rw [run7_len]; exact hj)))
    rcases m1 with q | q | q
    · rcases m2 with r | r | r
      · rw [q, r]
      · rw [a.mpr r] at q; cases q
      · rw [b.mpr r] at q; cases q
    · rw [q, a.mp q]
    · rw [q, b.mp q]
/-! crowds of a ring -/
def stnB (u : List Nat) (i : Nat) : Bool := u.getD i 0 == 49
def rstB (u : List Nat) (i : Nat) : Bool := u.getD i 0 == 50
def crwD (s : List Nat) (t : Nat) : Nat := crdB s.length (stnB (run7 s t))
def rstD (s : List Nat) (t : Nat) : Nat := crdB s.length (rstB (run7 s t))
theorem crw_rest {s : List Nat} (h : ∀ c ∈ s, c ∈ sgs 1) (ne : s ≠ []) (t : Nat) : rstD s (t + 1) = crwD s t := crdB_congr fun i hi => by
  have := rest7 h ne (t := t) hi
  unfold rstB stnB
  by_cases q : (run7 s t).getD i 0 = 49
  · rw [q, this.mpr q] <;> rfl
  · rw [beq_eq_false_iff_ne.mpr q, beq_eq_false_iff_ne.mpr fun z => q (this.mp z)]
theorem crw_next {s : List Nat} (h : ∀ c ∈ s, c ∈ sgs 1) (ne : s ≠ []) (t : Nat) :
    (crdB s.length (fun _ => true) &&& ((((crwD s t <<< 4) ||| (crwD s t >>> (4 * (s.length - 1)))) ||| (crwD s t >>> 4)) ||| (crwD s t <<< (4 * (s.length - 1))))) - ((crdB s.length (fun _ => true) &&& ((((crwD s t <<< 4) ||| (crwD s t >>> (4 * (s.length - 1)))) ||| (crwD s t >>> 4)) ||| (crwD s t <<< (4 * (s.length - 1))))) &&& (crwD s t ||| rstD s t)) = crwD s (t + 1) := by
  have hn := List.length_pos_iff.mpr ne
  unfold crwD rstD
  rw [crd_beside hn, crd_or, crd_sub]
  refine crdB_congr fun i hi => ?_
  have q := up7 h (t := t) hi
  unfold stnB rstB
  rw [Bool.eq_iff_iff]
  simp only [Bool.and_eq_true, Bool.or_eq_true, Bool.not_eq_true', Bool.or_eq_false_iff, beq_iff_eq, beq_eq_false_iff_ne]
  rw [q]
  exact ⟨fun ⟨a, b, c⟩ => ⟨a, fun z => z.elim b c⟩, fun ⟨a, b⟩ => ⟨a, fun z => b (.inl z), fun z => b (.inr z)⟩⟩
theorem crw_pos {s : List Nat} {t : Nat} : decide ((0 : Int) < (crwD s t : Nat)) = anyB s t := by
  cases h : anyB s t with
  | true =>
    obtain ⟨i, hi, e⟩ := anyB_iff.mp h
    refine decide_eq_true ?_
    have : crwD s t ≠ 0 := fun z => by
      have := crdB_zero.mp z i hi
      unfold stnB at this
      rw [e] at this
      cases this
    omega
  | false =>
    refine decide_eq_false ?_
    have : crwD s t = 0 := crdB_zero.mpr fun i hi => by
      unfold stnB
      refine beq_eq_false_iff_ne.mpr fun e => ?_
      rw [anyB_iff.mpr ⟨i, hi, e⟩] at h
      cases h
    omega
/-- turned crowds are the crowds of turned stands -/
theorem crw_turn {u : List Nat} (ne : u ≠ []) (p : Int) : ((crdB u.length (stnB u) &&& (2 ^ (4 * (p % u.length).toNat) - 1)) <<< (4 * u.length - 4 * (p % u.length).toNat)) ||| (crdB u.length (stnB u) >>> (4 * (p % u.length).toNat)) = crdB u.length (stnB (trn u p)) := by
  have hn := List.length_pos_iff.mpr ne
  obtain ⟨m, hm, e⟩ := mod_in hn p
  rw [e, Int.toNat_natCast, crd_turn _ hm]
  refine crdB_congr fun i hi => ?_
  unfold stnB
  rw [trn_getD hi]
  congr 2
  have q := Int.emod_add_mul_ediv p u.length
  rw [e] at q
  have r : ((i : Int) - p) % u.length = ((if m ≤ i then i - m else i + u.length - m : Nat) : Int) := by
    have z : (i : Int) - p = ((if m ≤ i then i - m else i + u.length - m : Nat) : Int) + u.length * (-(p / u.length) - (if m ≤ i then 0 else 1)) := by
      rw [Int.mul_sub, Int.mul_neg]
      split <;> simp only [Int.mul_one, Int.mul_zero] <;> omega
    rw [z, Int.add_mul_emod_self_left, Int.emod_eq_of_lt (by omega) (by split <;> omega)]
  rw [r, Int.toNat_natCast]
theorem cw_iff {s : List Nat} {p : Int} {t : Nat} : Cw s p t ↔ crwD s (t + 1) = crdB s.length (stnB (trn (run7 s t) p)) := by
  unfold Cw crwD
  constructor
  · intro h
    refine crdB_congr fun i hi => ?_
    unfold stnB
    rw [Bool.eq_iff_iff]
    simpa using h i hi
  · intro h i hi
    have := crdB_inj h i hi
    unfold stnB at this
    rw [Bool.eq_iff_iff] at this
    simpa using this
/-- a stand by its digits -/
theorem stand_digits {u : List Nat} (h : ∀ c ∈ u, c ∈ sgs 1) : crdB u.length (stnB u) + 2 * crdB u.length (rstB u) = hexR ((List.range u.length).map fun k => u.getD (u.length - 1 - k) 0 - 48) := by
  unfold crdB
  rw [← hexR_add]
  congr 1
  refine List.map_congr_left fun k hk => ?_
  have hk := List.mem_range.mp hk
  have m := sgs1 (h _ (getD_mem (show u.length - 1 - k < u.length by omega)))
  unfold stnB rstB
  rcases m with q | q | q <;> rw [q] <;> rfl
theorem rev_range (n : Nat) (f : Nat → Nat) : ((List.range n).map fun k => f (n - 1 - k)).reverse = (List.range n).map f := by
  refine List.ext_getElem? fun i => ?_
  by_cases hi : i < n
  · rw [List.getElem?_reverse (by simpa using hi), List.length_map, List.length_range, List.getElem?_map, List.getElem?_map, List.getElem?_range (by omega), List.getElem?_range hi]
    show some (f (n - 1 - (n - 1 - i))) = some (f i)
    rw [show n - 1 - (n - 1 - i) = i by omega]
  · rw [List.getElem?_eq_none (by simpa using hi), List.getElem?_eq_none (by simpa using hi)]
theorem range_get (u : List Nat) : (List.range u.length).map (fun i => u.getD i 0) = u := by
  refine List.ext_getElem? fun i => ?_
  by_cases hi : i < u.length
  · rw [List.getElem?_map, List.getElem?_range hi, List.getElem?_eq_getElem hi]
    show some (u.getD i 0) = _
    rw [List.getD_eq_getElem?_getD, List.getElem?_eq_getElem hi] <;> rfl
  · rw [List.getElem?_eq_none (by simpa using hi), List.getElem?_eq_none (by omega)]
/-- its text, filled up -/
theorem digits_text {n : Nat} (hn : 0 < n) (f : Nat → Nat) (hf : ∀ i, f i < 10) : ∃ z, (List.range n).map (fun i => 48 + f i) = List.replicate z 48 ++ (Nat.toDigits 16 (hexR ((List.range n).map fun k => f (n - 1 - k)))).map fun c => c.toNat := by
  obtain ⟨z, e⟩ := hexR_text ((List.range n).map fun k => f (n - 1 - k)) (fun q => by
    have := congrArg List.length q
    rw [List.length_map, List.length_range] at this
    simp at this
    omega) (fun d hd => by obtain ⟨k, _, rfl⟩ := List.mem_map.mp hd; exact hf _)
  refine ⟨z, ?_⟩
  rw [← e, rev_range, List.map_map] <;> rfl
theorem stand_text {u : List Nat} (h : ∀ c ∈ u, c ∈ sgs 1) (ne : u ≠ []) : ∃ z, u = List.replicate z 48 ++ (Nat.toDigits 16 (crdB u.length (stnB u) + 2 * crdB u.length (rstB u))).map fun c => c.toNat := by
  have hn := List.length_pos_iff.mpr ne
  rw [stand_digits h]
  obtain ⟨z, e⟩ := digits_text hn (fun i => u.getD i 0 - 48) (fun i => by
    by_cases hi : i < u.length
    · rcases sgs1 (h _ (getD_mem hi)) with q | q | q <;> rw [q] <;> decide
    · rw [List.getD_eq_getElem?_getD, List.getElem?_eq_none (by omega)]
      decide)
  refine ⟨z, ?_⟩
  rw [← e]
  conv => lhs; rw [← range_get u]
  refine List.map_congr_left fun i hi => ?_
  have hi := List.mem_range.mp hi
  rcases sgs1 (h _ (getD_mem hi)) with q | q | q <;> rw [q]
theorem crowd_text {n : Nat} (hn : 0 < n) (b : Nat → Bool) : ∃ z, (List.range n).map (fun i => if b i then 49 else 48) = List.replicate z 48 ++ (Nat.toDigits 16 (crdB n b)).map fun c => c.toNat := by
  obtain ⟨z, e⟩ := digits_text hn (fun i => if b i then 1 else 0) (fun i => by split <;> decide)
  refine ⟨z, ?_⟩
  unfold crdB
  rw [← e]
  refine List.map_congr_left fun i _ => ?_
  cases b i <;> rfl
end Lw
namespace Lw
open PySem L2 Da
variable [Tbs]
section
variable {P : Program} {w : World} {K : PySem.W.Frag} {mg : Str → Option Value} {base : Heap}
/-! ### crowds, as the program has them -/
theorem hexNum_R : ∀ (r : List Nat), (∀ c ∈ r, 48 ≤ c ∧ c ≤ 57) → Hx.hexNum r.reverse = hexR (r.map fun c => c - 48)
  | [], _ => rfl
  | c :: r, h => by
    have ih := hexNum_R r fun d hd => h d (List.mem_cons_of_mem _ hd)
    have hc := h c List.mem_cons_self
    rw [List.reverse_cons]
    unfold Hx.hexNum
    rw [List.foldl_append]
    show Hx.hexNum r.reverse * 16 + Hx.hv c = 2 ^ 4 * hexR (r.map fun c => c - 48) + (c - 48)
    rw [ih]
    have : Hx.hv c = c - 48 := by unfold Hx.hv; rw [if_pos hc.2]
    omega
structure St7 (s : List Nat) : Prop where
  sg : ∀ c ∈ s, c ∈ sgs 1
  ne : s ≠ []
  few : s.length ≤ 200
theorem ones_is (n : Nat) : Hx.hexNum (List.replicate n 49) = crdB n fun _ => true := by
  have h := hexNum_R (List.replicate n 49) fun c hc => by rw [(List.mem_replicate.mp hc).2]; omega
  rw [List.reverse_replicate] at h
  rw [h]
  unfold crdB
  congr 1
  rw [List.map_replicate]
  refine List.ext_getElem? fun i => ?_
  by_cases hi : i < n
  · rw [List.getElem?_replicate_of_lt hi, List.getElem?_map, List.getElem?_range hi] <;> rfl
  · rw [List.getElem?_eq_none (by simpa using hi), List.getElem?_eq_none (by simpa using hi)]
def sgN (s : List Nat) : Nat := hexR (s.reverse.map fun c => c - 48)
theorem sg_is {s : List Nat} (h : ∀ c ∈ s, c ∈ sgs 1) : Hx.hexNum s = sgN s := by
  have q := hexNum_R s.reverse fun c hc => by
    rcases sgs1 (h c (List.mem_reverse.mp hc)) with e | e | e <;> omega
  rw [List.reverse_reverse] at q
  exact q
theorem sgN_bit {s : List Nat} (h : ∀ c ∈ s, c ∈ sgs 1) (j : Nat) : (sgN s).testBit j = (if j / 4 < s.length then (s.getD (s.length - 1 - j / 4) 0 - 48).testBit (j % 4) else false) := by
  unfold sgN
  rw [hexR_bit _ (fun d hd => by
    obtain ⟨c, hc, rfl⟩ := List.mem_map.mp hd
    rcases sgs1 (h c (List.mem_reverse.mp hc)) with e | e | e <;> omega)]
  split
  · rename_i q
    rw [List.getD_eq_getElem?_getD, List.getElem?_map, List.getElem?_reverse q, List.getD_eq_getElem?_getD, List.getElem?_eq_getElem (by omega)] <;> rfl
  · rename_i q
    rw [List.getD_eq_getElem?_getD, List.getElem?_eq_none (by simp; omega)]
    simp
theorem first_s {s : List Nat} (h : ∀ c ∈ s, c ∈ sgs 1) : sgN s &&& crdB s.length (fun _ => true) = crwD s 0 := crdB_eq fun j => by
  rw [Nat.testBit_and, crdB_bit, sgN_bit h]
  by_cases q : j / 4 < s.length
  · rw [if_pos q, decide_eq_true q]
    by_cases z : j % 4 = 0
    · rw [decide_eq_true z, z]
      show ((s.getD (s.length - 1 - j / 4) 0 - 48).testBit 0 && (true && (true && true))) = (true && (true && (s.getD (s.length - 1 - j / 4) 0 == 49)))
      rcases sgs1 (h _ (getD_mem (show s.length - 1 - j / 4 < s.length by omega))) with e | e | e <;> rw [e] <;> rfl
    · rw [decide_eq_false z]
      simp
  · rw [if_neg q, decide_eq_false q]
    simp
theorem first_r {s : List Nat} (h : ∀ c ∈ s, c ∈ sgs 1) : (sgN s >>> 1) &&& crdB s.length (fun _ => true) = rstD s 0 := crdB_eq fun j => by
  rw [Nat.testBit_and, Nat.testBit_shiftRight, crdB_bit, sgN_bit h]
  by_cases z : j % 4 = 0
  · rw [show (1 + j) / 4 = j / 4 by omega, show (1 + j) % 4 = 1 by omega]
    by_cases q : j / 4 < s.length
    · rw [if_pos q, decide_eq_true q, decide_eq_true z]
      show ((s.getD (s.length - 1 - j / 4) 0 - 48).testBit 1 && (true && (true && true))) = (true && (true && (s.getD (s.length - 1 - j / 4) 0 == 50)))
      rcases sgs1 (h _ (getD_mem (show s.length - 1 - j / 4 < s.length by omega))) with e | e | e <;> rw [e] <;> rfl
    · rw [if_neg q, decide_eq_false q]
      simp
  · rw [decide_eq_false z]
    simp
theorem crdB_lt (n : Nat) (b : Nat → Bool) : crdB n b < 2 ^ (4 * n) := Nat.lt_pow_two_of_testBit _ fun j hj => by
  rw [crdB_bit, decide_eq_false (show ¬ j / 4 < n by omega)]
  simp
theorem crdB_big {n : Nat} (hn : n ≤ 1000) (b : Nat → Bool) : crdB n b < 2 ^ 100000 := Nat.lt_of_lt_of_le (crdB_lt n b) (Nat.pow_le_pow_right (by decide) (by omega))
def crwL (s : List Nat) (k : Nat) : List D := (List.range k).map fun t => D.int (crwD s t : Nat)
theorem crwL_len (s : List Nat) (k : Nat) : (crwL s k).length = k := by
  unfold crwL
  rw [List.length_map, List.length_range]
theorem crwL_succ (s : List Nat) (k : Nat) : crwL s (k + 1) = crwL s k ++ [.int (crwD s k : Nat)] := by
  unfold crwL
  rw [List.range_succ, List.map_append] <;> rfl
theorem crwL_at {s : List Nat} {k t : Nat} (h : t < k) : (crwL s k)[t]? = some (.int (crwD s t : Nat)) := by
  unfold crwL
  rw [List.getElem?_map, List.getElem?_range h] <;> rfl
def preFc (ds : List D) : Prop := ∃ (s : List Nat) (k : Nat), ds = [.str s, .int (k : Nat)] ∧ St7 s ∧ k ≤ 1000
def postFc (ds : List D) (d : D) : Prop := ∃ (s : List Nat) (k : Nat), ds = [.str s, .int (k : Nat)] ∧ d = .lst (crwL s (k + 1))
def Lfc (s : List Nat) (k t : Nat) (p x y : Sl) : List Sl := [.dat (.str s), .dat (.int (k : Nat)), .dat (.int (crdB s.length (fun _ => true) : Nat)), .dat (.int (4 * (s.length - 1) : Nat)), .dat (.int (sgN s : Nat)), .dat (.int (crwD s t : Nat)), .dat (.int (rstD s t : Nat)), p, x, y]
theorem ok_first_crowds {f : Addr} {fd : FuncData} (F : Fun K "first_crowds" "first_crowds" s_first_crowds f fd) (T : Tb mg) : FnOk P w K mg base CX0 1 f fd ["text", "many"] (SpX K false preFc true postFc) := by
  refine okD F sc_first_crowds (fun ds ⟨_, _, e, _⟩ => by rw [e] <;> rfl) (fun cdv A outer s0 H E hr => ?_)
  refine ⟨_, (pss_cons (ps_set (i := 2) sc_first_crowds.nd rfl (Or.inl rfl) (pe_callTy call_int_hex (by rfl) T.int (by decide +kernel) (pa_cons (pe_op op_mul_str pe_str (pe_callB call_len_str (by rfl) T.len PySem.boot_len (pa_cons (pv 0) pa_nil))) (pa_cons pe_int pa_nil))))
    (pss_cons (ps_set (i := 3) sc_first_crowds.nd rfl (Or.inl rfl) (pe_op op_mul pe_int (pe_op op_sub (pe_callB call_len_str (by rfl) T.len PySem.boot_len (pa_cons (pv 0) pa_nil)) pe_int)))
    (pss_cons (ps_set (i := 4) sc_first_crowds.nd rfl (Or.inl rfl) (pe_callTy call_int_hex (by rfl) T.int (by decide +kernel) (pa_cons (pv 0) (pa_cons pe_int pa_nil))))
    (pss_cons (ps_set (i := 5) sc_first_crowds.nd rfl (Or.inl rfl) (pe_op op_and (pv 4) (pv 2)))
    (pss_cons (ps_set (i := 6) sc_first_crowds.nd rfl (Or.inl rfl) (pe_op op_and (pe_op op_shr (pv 4) pe_int) (pv 2)))
    (pss_cons (ps_set (i := 7) sc_first_crowds.nd rfl (Or.inl rfl) (pe_lst (pa_cons (pv 5) pa_nil)))
    (pss_cons (ps_for PassesOwn.never rfl (pi_range1 (by rfl) T.range (pa_cons (pv 1) pa_nil)) (pg_name (i := 8) sc_first_crowds.nd rfl (Or.inl rfl)) (pss_cons (ps_set (i := 9) sc_first_crowds.nd rfl (Or.inl rfl) (pe_op op_or (pe_op op_or (pe_op op_or (pe_op op_shlW (pv 5) pe_int) (pe_op op_shr (pv 5) (pv 3))) (pe_op op_shr (pv 5) pe_int)) (pe_op op_shlW (pv 5) (pv 3))))
    (pss_cons (ps_pair (i := 5) (j := 6) rfl sc_first_crowds.nd rfl rfl (by decide) (Or.inl rfl) (Or.inl rfl) (fun _ => rfl) (pa_cons (pe_op op_and (pe_op op_and (pv 2) (pv 9)) (pe_un un_inv (pe_op op_or (pv 5) (pv 6)))) (pa_cons (pv 5) pa_nil)) rfl)
    (pss_one (ps_expr (pe_bm PySem.F.plainAttrs_list PySem.F.slot_list_append PySem.F.type_list_append mt_append (pv 7) (pa_cons (pv 5) pa_nil)))))))
    (pss_one (ps_ret (pv 7)))))))))), fun R ds σ Q hp hb A k => ?_⟩
  obtain ⟨s, q, rfl, st, hq⟩ := hp
  have few := st.few
  have hn := List.length_pos_iff.mpr st.ne
  have hex : ∀ c ∈ s, Hx.IsHex c := fun c hc => by rcases sgs1 (st.sg c hc) with e | e | e <;> exact .inl (by omega)
  refine s_asgD A (d := .int (crdB s.length (fun _ => true) : Nat)) (ev_cb (ea_consD (a := .str (List.replicate s.length 49)) (Ev.impF (ev_op2 (ev_str (s := [49])) (ev_cb1 (ev_var (i := 0) rfl) (c_lenS (by omega))) (o_mulS (s := [49]) (by omega) (by omega) (by simp; omega))) fun d e => by rw [e, List.flatten_replicate_singleton, Int.toNat_natCast]) (ea_consD (ev_int (i := 16)) ea_nil)) fun ds e => by
    subst e
    have := c_hex (K := K) (B := bagsOf false [.str s, .int (q : Nat)]) (s := List.replicate s.length 49) (fun z => by have := congrArg List.length z; rw [List.length_replicate, List.length_nil] at this; omega) (by simp; omega) fun c hc => by rw [(List.mem_replicate.mp hc).2]; exact .inl (by omega)
    rw [ones_is] at this
    exact this) fun σ H A => ?_
  dsimp only
  refine s_asgD A (d := .int (4 * (s.length - 1) : Nat)) (Ev.impF (ev_op2 (ev_int (i := 4)) (ev_op2 (ev_cb1 (ev_var (i := 0) rfl) (c_lenS (by omega))) (ev_int (i := 1)) o_sub) (o_mul (.inl ⟨by omega, by omega⟩))) fun d e => by rw [e]; congr 1; omega) fun σ H A => ?_
  dsimp only
  refine s_asgD A (d := .int (sgN s : Nat)) (ev_cb (ea_consD (ev_var (i := 0) rfl) (ea_consD (ev_int (i := 16)) ea_nil)) fun ds e => by
    subst e
    have := c_hex (K := K) (B := bagsOf false [.str s, .int (q : Nat)]) st.ne (by omega) hex
    rw [sg_is st.sg] at this
    exact this) fun σ H A => ?_
  dsimp only
  refine s_asgD A (d := .int (crwD s 0 : Nat)) (Ev.impF (ev_op2 (ev_var (i := 4) rfl) (ev_var (i := 2) rfl) o_andN) fun d e => by rw [e, first_s st.sg]) fun σ H A => ?_
  dsimp only
  refine s_asgD A (d := .int (rstD s 0 : Nat)) (Ev.impF (ev_op2 (ev_op2 (ev_var (i := 4) rfl) (ev_int (i := 1)) (o_shrN (k := 1))) (ev_var (i := 2) rfl) o_andN) fun d e => by rw [e, first_r st.sg]) fun σ H A => ?_
  dsimp only
  refine s_asgO A (P := fun d => d = .lst (crwL s 1)) (ev_lstD (ea_consD (ev_var (i := 5) rfl) ea_nil) (by show (1 : Nat) ≤ 1000; decide)) fun p ds σ H e A => ?_
  have e := D.lst.inj e
  subst e
  have A : At K R (bagsOf false [.str s, .int (q : Nat)]) _ (Lfc s q 0 (.own p) .any .any) [(p, .lst (crwL s 1))] σ H := A
  dsimp only
  refine s_for A (ei_rng1 (n := (q : Int)) (ea_consD (ev_var (i := 1) rfl) ea_nil) (by omega)) (fun _ i ss' os' => (∃ x y, ss' = Lfc s q i (.own p) x y) ∧ os' = [(p, .lst (crwL s (i + 1)))]) (fun _ _ => ⟨⟨_, _, rfl⟩, rfl⟩) (fun _ _ _ _ h => by rw [h.2] <;> rfl) (fun ds z i x ss' os' σ H e hx hj A => ?_) (fun ds ss' os' σ H e hj A => ?_)
  · obtain ⟨⟨x, y, rfl⟩, rfl⟩ := hj
    have hi : i < q := by
      have := (List.getElem?_eq_some_iff.mp hx).1
      rw [e, rngD_len] at this
      omega
    have big : crwD s i < 2 ^ 100000 := crdB_big (by omega) _
    refine s_asgD A (ev_op2 (ev_op2 (ev_op2 (ev_op2 (ev_var (i := 5) rfl) (ev_int (i := 4)) (o_shlN (k := 4) big (by decide))) (ev_op2 (ev_var (i := 5) rfl) (ev_var (i := 3) rfl) o_shrN) o_orN) (ev_op2 (ev_var (i := 5) rfl) (ev_int (i := 4)) (o_shrN (k := 4))) o_orN) (ev_op2 (ev_var (i := 5) rfl) (ev_var (i := 3) rfl) (o_shlN big (by omega))) o_orN) fun σ H A => ?_
    dsimp only
    refine s_pair A (P := fun x y => x = .int (crwD s (i + 1) : Nat) ∧ y = .int (rstD s (i + 1) : Nat)) (EvA.imp (ea_consD (ev_op2 (ev_op2 (ev_var (i := 2) rfl) (ev_var (i := 9) rfl) o_andN) (ev_unD (ev_op2 (ev_var (i := 5) rfl) (ev_var (i := 6) rfl) o_orN) o_inv) o_andNot) (ea_consD (ev_var (i := 5) rfl) ea_nil)) fun ds h => ⟨_, _, h, by rw [crw_next st.sg st.ne], by rw [crw_rest st.sg st.ne]⟩) fun x y σ H ⟨e1, e2⟩ A => ?_
    subst e1; subst e2
    dsimp only
    refine s_app A (i := 7) (P := fun d => d = .int (crwD s (i + 1) : Nat)) rfl (by rw [crwL_len]; omega) (ev_var (i := 5) rfl) fun d σ H e A => ?_
    subst e
    exact ⟨_, _, ⟨⟨_, _, rfl⟩, rfl⟩, A.wk' (crwL_succ _ _).symm (by repeat (first | exact Wk.nil | apply Wk.same | apply Wk.any))⟩
  obtain ⟨⟨x, y, rfl⟩, rfl⟩ := hj
  have hl : ds.length = q := by rw [e, rngD_len]; omega
  rw [hl] at A
  dsimp only
  exact s_retO A List.mem_cons_self (i := 7) rfl List.mem_cons_self (fun v d H' g r f e2 => k v d H' g r f ⟨s, q, rfl, e2⟩) rfl
theorem ev_fc {E B : List Addr} {ss : List Sl} {m : Bool} {o0 : Os} {X : XK} {t : TA} {s : List Nat} {k : Nat} (ht : EaD K E B m ss o0 t [.str s, .int (k : Nat)]) (st : St7 s) (hk : k ≤ 1000) :
    Ev K E B m ss o0 true (tCall (SpX K false preFc true postFc) [] X t) (fun d => d = .lst (crwL s (k + 1))) :=
  ev_callD ht ⟨s, k, rfl, st, hk⟩ (by intro _ h; cases h) (by
    rintro d ⟨s', k', e, e2⟩
    simp only [List.cons.injEq, D.str.injEq, D.int.injEq, and_true] at e
    obtain ⟨e1, e3⟩ := e
    subst e1
    rw [e2, show k' = k by omega])
end
section
variable {P : Program} {w : World} {K : PySem.W.Frag} {mg : Str → Option Value} {base : Heap}
/-! ### numbers, places -/
def preS7 (ds : List D) : Prop := ∃ s : List Nat, ds = [.str s] ∧ St7 s
def postS7 (f : List Nat → D) (ds : List D) (d : D) : Prop := ∃ s : List Nat, ds = [.str s] ∧ d = f s
theorem ev_s7 {E B : List Addr} {ss : List Sl} {m F : Bool} {o0 : Os} {X : XK} {t : TA} {s : List Nat} {f : List Nat → D} (ht : EaD K E B m ss o0 t [.str s]) (st : St7 s) :
    Ev K E B m ss o0 F (tCall (SpX K false preS7 F (postS7 f)) [] X t) (fun d => d = f s) :=
  ev_callD ht ⟨s, rfl, st⟩ (by intro _ h; cases h) (by
    rintro d ⟨s', e, e2⟩
    cases e
    exact e2)
theorem ok_beats_until_turns {f : Addr} {fd : FuncData} (F : Fun K "beats_until_turns" "beats_until_turns" s_beats_until_turns f fd) (T : Tb mg) : FnOk P w K mg base CX0 1 f fd ["text"] (SpX K false preS7 false (postS7 fun s => .int (lateT s : Nat))) := by
  refine okD F sc_beats_until_turns (fun ds ⟨_, e, _⟩ => by rw [e] <;> rfl) (fun cdv A outer s0 H E hr => ?_)
  refine ⟨_, (pss_one (ps_ret (pe_op op_add (pe_op op_fdiv (pe_callB call_len_str (by rfl) T.len PySem.boot_len (pa_cons (pv 0) pa_nil)) pe_int) pe_int))), fun R ds σ Q hp hb A k => ?_⟩
  obtain ⟨s, rfl, st⟩ := hp
  have few := st.few
  exact s_ret A List.mem_cons_self (F := false) (P := postS7 (fun s => .int (lateT s : Nat)) [.str s]) (Ev.impF (ev_op2 (ev_op2 (ev_cb1 (ev_var (i := 0) rfl) (c_lenS (by omega))) (ev_int (i := 2)) (o_div ⟨by omega, by omega⟩)) (ev_int (i := 2)) o_add) fun d e => ⟨s, rfl, by rw [e]; first | rfl | (show D.int _ = D.int _; congr 1; unfold lateT; omega)⟩) hb k rfl
theorem filter_sum (p : Nat → Bool) : ∀ l : List Nat, ((l.filter p).length : Int) = (l.map fun i => if p i then (1 : Int) else 0).sum
  | [] => rfl
  | a :: l => by
    have ih := filter_sum p l
    rw [List.filter_cons, List.map_cons, List.sum_cons, ← ih]
    split
    · rw [List.length_cons]
      omega
    · omega
def ind (a b x y : Nat) : Int := if x == a && y == b then 1 else 0
theorem stp_ind {x y : Nat} (hx : x ∈ sgs 1) (hy : y ∈ sgs 1) : ind 48 49 x y + ind 49 50 x y + ind 50 48 x y - (ind 49 48 x y + ind 50 49 x y + ind 48 50 x y) = stpI 1 x y := by
  rcases sgs1 hx with rfl | rfl | rfl <;> rcases sgs1 hy with rfl | rfl | rfl <;> decide
theorem six_sums (f g h u v z t : Nat → Int) : ∀ l : List Nat, (∀ i ∈ l, f i + g i + h i - (u i + v i + z i) = t i) → (l.map f).sum + (l.map g).sum + (l.map h).sum - ((l.map u).sum + (l.map v).sum + (l.map z).sum) = (l.map t).sum
  | [], _ => rfl
  | a :: l, q => by
    have ih := six_sums f g h u v z t l fun i hi => q i (List.mem_cons_of_mem _ hi)
    have qa := q a List.mem_cons_self
    simp only [List.map_cons, List.sum_cons]
    omega
theorem ring_at {s : List Nat} (ne : s ≠ []) {i : Nat} (hi : i < s.length) : (s ++ [s.getD 0 0]).getD i 0 = s.getD i 0 ∧ (s ++ [s.getD 0 0]).getD (i + 1) 0 = nxt s i := by
  refine ⟨getD_app1 hi, ?_⟩
  unfold nxt
  by_cases h : i + 1 = s.length
  · rw [if_pos h, getD_app2 (by omega), show i + 1 - s.length = 0 by omega] <;> rfl
  · rw [if_neg h, getD_app1 (by omega)]
theorem ok_number_of {f : Addr} {fd : FuncData} (F : Fun K "number_of" "number_of" s_number_of f fd) (T : Tb mg) : FnOk P w K mg base CX0 1 f fd ["text"] (SpX K false preS7 false (postS7 fun s => .int (num7 s))) := by
  refine okD F sc_number_of (fun ds ⟨_, e, _⟩ => by rw [e] <;> rfl) (fun cdv A outer s0 H E hr => ?_)
  refine ⟨_, (pss_cons (ps_set (i := 1) sc_number_of.nd rfl (Or.inl rfl) (pe_op op_add_str (pv 0) (pe_ix ix_str (pv 0) pe_int (fun _ _ => rfl))))
    (pss_cons (ps_set (i := 2) sc_number_of.nd rfl (Or.inl rfl) (pe_op op_add (pe_op op_add (pe_m1 PySem.F.slot_str_count PySem.F.type_str_count mt_count (pv 1) pe_str) (pe_m1 PySem.F.slot_str_count PySem.F.type_str_count mt_count (pv 1) pe_str)) (pe_m1 PySem.F.slot_str_count PySem.F.type_str_count mt_count (pv 1) pe_str)))
    (pss_cons (ps_set (i := 3) sc_number_of.nd rfl (Or.inl rfl) (pe_op op_add (pe_op op_add (pe_m1 PySem.F.slot_str_count PySem.F.type_str_count mt_count (pv 1) pe_str) (pe_m1 PySem.F.slot_str_count PySem.F.type_str_count mt_count (pv 1) pe_str)) (pe_m1 PySem.F.slot_str_count PySem.F.type_str_count mt_count (pv 1) pe_str)))
    (pss_one (ps_ret (pe_op op_fdiv (pe_op op_sub (pv 2) (pv 3)) pe_int)))))), fun R ds σ Q hp hb A k => ?_⟩
  obtain ⟨s, rfl, st⟩ := hp
  have few := st.few
  have hn := List.length_pos_iff.mpr st.ne
  have c0 : atI s (0 : Int) = some (s.getD 0 0) := by
    have := atI_nat (List.getElem?_eq_getElem hn)
    rw [List.getD_eq_getElem?_getD, List.getElem?_eq_getElem hn]
    exact this
  refine s_asgD A (d := .str (s ++ [s.getD 0 0])) (ev_op2 (ev_var (i := 0) rfl) (ev_op2 (ev_var (i := 0) rfl) (ev_int (i := 0)) (o_ixS (by omega) c0)) (o_addS (by simp; omega))) fun σ H A => ?_
  have rne : s ++ [s.getD 0 0] ≠ [] := by simp
  have cnt : ∀ {E B : List Addr} {ss : List Sl} {m : Bool} {o0 : Os} {te ta : TE} {a b : Nat}, EvD K E B m ss o0 te (.str (s ++ [s.getD 0 0])) → EvD K E B m ss o0 ta (.str [a, b]) → a ≠ b → EvD K E B m ss o0 (tM1 (fun x xs H Q => ∃ a b, x = .str a ∧ xs = [.str b] ∧ Q (.int (Txt.count a b)) H) te ta) (.int (((List.range s.length).map fun i => ind a b (s.getD i 0) (nxt s i)).sum)) := fun {E B ss m o0 te ta a b} h1 h2 ab => Ev.impF (ev_cnt2 h1 h2 ab rne) fun d e => by
    rw [e, filter_sum, List.length_append, show s.length + [s.getD 0 0].length - 1 = s.length by simp]
    congr 2
    refine List.map_congr_left fun i hi => ?_
    obtain ⟨q1, q2⟩ := ring_at st.ne (List.mem_range.mp hi)
    rw [q1, q2] <;> rfl
  dsimp only
  refine s_asgD A (ev_op2 (ev_op2 (cnt (ev_var (i := 1) rfl) (ev_str (s := [48, 49])) (by decide)) (cnt (ev_var (i := 1) rfl) (ev_str (s := [49, 50])) (by decide)) o_add) (cnt (ev_var (i := 1) rfl) (ev_str (s := [50, 48])) (by decide)) o_add) fun σ H A => ?_
  dsimp only
  refine s_asgD A (ev_op2 (ev_op2 (cnt (ev_var (i := 1) rfl) (ev_str (s := [49, 48])) (by decide)) (cnt (ev_var (i := 1) rfl) (ev_str (s := [50, 49])) (by decide)) o_add) (cnt (ev_var (i := 1) rfl) (ev_str (s := [48, 50])) (by decide)) o_add) fun σ H A => ?_
  dsimp only
  refine s_ret A List.mem_cons_self (F := false) (P := postS7 (fun s => .int (num7 s)) [.str s]) (Ev.impF (ev_op2 (ev_op2 (ev_var (i := 2) rfl) (ev_var (i := 3) rfl) o_sub) (ev_int (i := 3)) (o_div ⟨by decide, by decide⟩)) fun d e => ⟨s, rfl, ?_⟩) hb k rfl
  · rw [e]
    show D.int _ = D.int (num7 s)
    rw [six_sums _ _ _ _ _ _ (fun i => stpI 1 (s.getD i 0) (nxt s i)) _ fun i hi => ?_]
    · rfl
    · have hi := List.mem_range.mp hi
      exact stp_ind (st.sg _ (getD_mem hi)) (st.sg _ (getD_mem (by split <;> omega)))
def placeI (k : Int) : Int := if k = 0 then 0 else if 0 < k then -1 else 1
def preInt (ds : List D) : Prop := ∃ k : Int, ds = [.int k]
def postInt (f : Int → D) (ds : List D) (d : D) : Prop := ∃ k : Int, ds = [.int k] ∧ d = f k
theorem ok_places_of {f : Addr} {fd : FuncData} (F : Fun K "_places_of" "_places_of" s_places_of f fd) (T : Tb mg) : FnOk P w K mg base CX0 1 f fd ["number"] (SpX K false preInt false (postInt fun k => .int (placeI k))) := by
  refine okD F sc_places_of (fun ds ⟨_, e⟩ => by rw [e] <;> rfl) (fun cdv A outer s0 H E hr => ?_)
  refine ⟨_, (pss_cons (ps_if (pt_cmpR op_eq (pv 0) pe_int (nomark _)) (pss_one (ps_ret pe_int)) pss_nil)
    (pss_one (ps_ret (pe_ifExp (pt_cmpR op_gt (pv 0) pe_int (nomark _)) (pe_un un_neg pe_int) pe_int)))), fun R ds σ Q hp hb A k => ?_⟩
  obtain ⟨n, rfl⟩ := hp
  refine s_if A (et_testD (ev_op2 (ev_var (i := 0) rfl) (ev_int (i := 0)) o_eqI)) (fun H hc A => ?_) (fun H hc A => ?_)
  · have hc := of_decide_eq_true hc.symm
    dsimp only
    exact s_ret A List.mem_cons_self (F := false) (P := postInt (fun k => .int (placeI k)) [.int n]) (Ev.impF (ev_int (i := 0)) fun d e => ⟨n, rfl, by rw [e]; show D.int 0 = D.int (placeI n); unfold placeI; rw [if_pos hc]⟩) hb k rfl
  have hc := of_decide_eq_false hc.symm
  dsimp only [tNext]
  refine s_ret A List.mem_cons_self (F := false) (P := postInt (fun k => .int (placeI k)) [.int n]) (ev_if (T := fun x => x = decide ((0 : Int) < n)) (et_testD (ev_op2 (ev_var (i := 0) rfl) (ev_int (i := 0)) o_gt)) (fun h => ?_) (fun h => ?_)) hb k rfl
  · have h := of_decide_eq_true h.symm
    exact Ev.impF (ev_unD (ev_int (i := 1)) o_neg) fun d e => ⟨n, rfl, by rw [e]; show D.int (-1) = D.int (placeI n); unfold placeI; rw [if_neg hc, if_pos h]⟩
  · have h := of_decide_eq_false h.symm
    exact Ev.impF (ev_int (i := 1)) fun d e => ⟨n, rfl, by rw [e]; show D.int 1 = D.int (placeI n); unfold placeI; rw [if_neg hc, if_neg h]⟩
theorem Side.place {s : List Nat} {p : Int} (h : ∀ c ∈ s, c ∈ sgs 1) (ne : s ≠ []) (d : Side s p) : p = placeI (num7 s) := by
  unfold placeI
  rcases d.num h ne with ⟨rfl, q⟩ | ⟨rfl, q⟩ | ⟨rfl, q⟩
  · rw [if_neg (by omega), if_pos q]
  · rw [if_neg (by omega), if_neg (by omega)]
  · rw [if_pos q]
theorem ev_pl {E B : List Addr} {ss : List Sl} {m : Bool} {o0 : Os} {X : XK} {t : TA} {k : Int} (ht : EaD K E B m ss o0 t [.int k]) : EvD K E B m ss o0 (tCall (SpX K false preInt false (postInt fun k => .int (placeI k))) [] X t) (.int (placeI k)) :=
  ev_callD ht ⟨k, rfl⟩ (by intro _ h; cases h) (by
    rintro d ⟨k', e, e2⟩
    cases e
    exact e2)
end
end Lw
namespace Lw
open PySem L2 Da
variable [Tbs]
section
variable {P : Program} {w : World} {K : PySem.W.Frag} {mg : Str → Option Value} {base : Heap}
/-- a number's hexadecimal text of so many characters -/
def digX (N : Nat) : List Nat := (Nat.toDigits 16 N).map fun c => c.toNat
def hexX (N n : Nat) : List Nat := List.replicate (n - (digX N).length) 48 ++ digX N
theorem digX_ne (N : Nat) : digX N ≠ [] := fun z => by
  have := PyProof.Rows.tDigits_len_ge 16 N
  have z := congrArg List.length z
  unfold digX at z
  rw [List.length_map, List.length_nil] at z
  omega
theorem hexX_is {N z : Nat} {t : List Nat} (e : t = List.replicate z 48 ++ digX N) : (digX N).length ≤ t.length ∧ hexX N t.length = t := by
  have l : t.length = z + (digX N).length := by rw [e, List.length_append, List.length_replicate]
  refine ⟨by omega, ?_⟩
  unfold hexX
  rw [show t.length - (digX N).length = z by omega]
  exact e.symm
theorem ev_hexX {E B : List Addr} {ss : List Sl} {m : Bool} {o0 : Os} {te ta : TE} {N n : Nat} (h : EvD K E B m ss o0 te (.int (N : Int))) (ha : EvD K E B m ss o0 ta (.int (n : Int))) (hl : (digX N).length ≤ n) (hn : n ≤ 1000) :
    EvD K E B m ss o0 (tM1 (fun x xs H Q => ∃ (a : Str) (i : Int), x = .str a ∧ xs = [.int i] ∧ PadOk i = true ∧ Q (.str (Txt.zfill a i)) H) (tHexF te) ta) (.str (hexX N n)) :=
  ev_zfill (ev_hexF h rfl (by show (digX N).length ≤ 1000000; omega)) ha (fun c hc => digs_ge c hc) (z := n - (digX N).length) (by show (digX N).length + _ = n; omega) (digX_ne N) (by omega)
def preSo (ds : List D) : Prop := ∃ a b n : Nat, ds = [.int (a : Nat), .int (b : Nat), .int (n : Nat)] ∧ (digX (a + 2 * b)).length ≤ n ∧ n ≤ 1000
def postSo (ds : List D) (d : D) : Prop := ∃ a b n : Nat, ds = [.int (a : Nat), .int (b : Nat), .int (n : Nat)] ∧ d = .str (hexX (a + 2 * b) n)
theorem ok_stand_of {f : Addr} {fd : FuncData} (F : Fun K "stand_of" "stand_of" s_stand_of f fd) (T : Tb mg) : FnOk P w K mg base CX0 1 f fd ["standing", "resting", "size"] (SpX K false preSo false postSo) := by
  refine okD F sc_stand_of (fun ds ⟨_, _, _, e, _⟩ => by rw [e] <;> rfl) (fun cdv A outer s0 H E hr => ?_)
  refine ⟨_, (pss_one (ps_ret (pe_m1 PySem.F.slot_str_zfill PySem.F.type_str_zfill mt_zfill (pe_hexF (pe_op op_add (pv 0) (pe_op op_mul pe_int (pv 1)))) (pv 2)))), fun R ds σ Q hp hb A k => ?_⟩
  obtain ⟨a, b, n, rfl, hl, hn⟩ := hp
  exact s_ret A List.mem_cons_self (F := false) (P := postSo [.int (a : Nat), .int (b : Nat), .int (n : Nat)]) (Ev.impF (ev_hexX (N := a + 2 * b) (n := n) (Ev.impF (ev_op2 (ev_var (i := 0) rfl) (ev_op2 (ev_int (i := 2)) (ev_var (i := 1) rfl) (o_mul (.inl ⟨by decide, by decide⟩))) o_add) fun d e => by rw [e]; congr 1) (ev_var (i := 2) rfl) hl hn) fun d e => ⟨a, b, n, rfl, e⟩) hb k rfl
/-- the stand of its crowds -/
theorem ev_so {E B : List Addr} {ss : List Sl} {m : Bool} {o0 : Os} {X : XK} {t : TA} {u : List Nat} (ht : EaD K E B m ss o0 t [.int (crdB u.length (stnB u) : Nat), .int (crdB u.length (rstB u) : Nat), .int (u.length : Nat)]) (h : ∀ c ∈ u, c ∈ sgs 1) (ne : u ≠ []) (few : u.length ≤ 1000) :
    EvD K E B m ss o0 (tCall (SpX K false preSo false postSo) [] X t) (.str u) := by
  obtain ⟨z, e⟩ := stand_text h ne
  obtain ⟨l, q⟩ := hexX_is e
  refine ev_callD ht ⟨_, _, _, rfl, l, few⟩ (by intro _ h; cases h) ?_
  rintro d ⟨a', b', n', e, e2⟩
  simp only [List.cons.injEq, D.int.injEq, and_true] at e
  obtain ⟨e1, e3, e4⟩ := e
  rw [e2, show a' = crdB u.length (stnB u) by omega, show b' = crdB u.length (rstB u) by omega, show n' = u.length by omega, q]
end
end Lw
namespace Lw
open PySem L2 Da
variable [Tbs]
theorem c_min2 {K : PySem.W.Frag} {B : List Addr} {i j : Int} : OpA K B (fun xs H Q => ∃ i j, xs = [.int i, .int j] ∧ Q (.int (if j < i then j else i)) H) [.int i, .int j] false (fun x => x = .int (if j < i then j else i)) := fun R H vs _ r Q q => by
  cases r with
  | cons r1 r =>
    cases r with
    | cons r2 r =>
      cases r; cases r1; cases r2
      exact ⟨_, _, rfl, q _ _ H .refl (.int _) (fun z => absurd z (by simp)) rfl⟩
section
variable {P : Program} {w : World} {K : PySem.W.Frag} {mg : Str → Option Value} {base : Heap}
/-! ### a stand after any number of beats -/
def preLs7 (ds : List D) : Prop := ∃ (s : List Nat) (k : Nat), ds = [.str s, .int (k : Nat)] ∧ St7 s ∧ k < 10 ^ 45
def postLs7 (ds : List D) (d : D) : Prop := ∃ (s : List Nat) (k : Nat), ds = [.str s, .int (k : Nat)] ∧ d = .str (run7 s k)
theorem late_is {s : List Nat} (st : St7 s) (k : Nat) : trn (run7 s (min k (lateT s))) (placeI (num7 s) * ((k : Int) - (min k (lateT s) : Nat))) = run7 s k := by
  obtain ⟨p, d⟩ := side_ex st.sg st.ne
  have ne : ∀ t, run7 s t ≠ [] := fun t z => st.ne (List.length_eq_zero_iff.mp (by rw [← run7_len s t, z] <;> rfl))
  rw [← d.place st.sg st.ne]
  rcases Nat.lt_or_ge k (lateT s) with h | h
  · rw [Nat.min_eq_left (by omega), Int.sub_self, Int.mul_zero, trn_zero (ne k)]
  · rw [Nat.min_eq_right h]
    have := d.far st.sg st.ne (k - lateT s)
    rw [show lateT s + (k - lateT s) = k by omega] at this
    rw [this, show (k : Int) - (lateT s : Nat) = ((k - lateT s : Nat) : Int) by omega]
theorem ok_late_stand {f f1 f2 f3 f4 f5 f6 : Addr} {fd fd1 fd2 fd3 fd4 fd5 fd6 : FuncData} (F : Fun K "late_stand" "late_stand" s_late_stand f fd) (T : Tb mg)
    (G_beats_until_turns : Gd P w K mg base 1 "beats_until_turns" f1 fd1 ["text"] (SpX K false preS7 false (postS7 fun s => .int (lateT s : Nat))))
    (G_first_crowds : Gd P w K mg base 1 "first_crowds" f2 fd2 ["text", "many"] (SpX K false preFc true postFc))
    (G_stand_of : Gd P w K mg base 1 "stand_of" f3 fd3 ["standing", "resting", "size"] (SpX K false preSo false postSo))
    (G_places_of : Gd P w K mg base 1 "_places_of" f4 fd4 ["number"] (SpX K false preInt false (postInt fun k => .int (placeI k))))
    (G_number_of : Gd P w K mg base 1 "number_of" f5 fd5 ["text"] (SpX K false preS7 false (postS7 fun s => .int (num7 s))))
    (G_turned_by : Gd P w K mg base 1 "turned_by" f6 fd6 ["text", "places"] (SpX K false preTurn false postTurn)) :
    FnOk P w K mg base CX0 2 f fd ["text", "many"] (SpX K false preLs7 false postLs7) := by
  refine okD F sc_late_stand (fun ds ⟨_, _, e, _⟩ => by rw [e] <;> rfl) (fun cdv A outer s0 H E hr => ?_)
  refine ⟨_, (pss_cons (ps_if (pt_cmpR op_eq (pv 1) pe_int (nomark _)) (pss_one (ps_ret (pv 0))) pss_nil)
    (pss_cons (ps_set (i := 2) sc_late_stand.nd rfl (Or.inl rfl) (pe_callB (call_min2 rfl) (by rfl) T.min (by decide +kernel) (pa_cons (pv 1) (pa_cons (pe_call G_beats_until_turns.ok (hr.mono (by omega)) (by rfl) G_beats_until_turns.mg G_beats_until_turns.kp G_beats_until_turns.b .nil pass0 (pa_cons (pv 0) pa_nil)) pa_nil))))
    (pss_cons (ps_set (i := 3) sc_late_stand.nd rfl (Or.inl rfl) (pe_call G_first_crowds.ok (hr.mono (by omega)) (by rfl) G_first_crowds.mg G_first_crowds.kp G_first_crowds.b .nil pass0 (pa_cons (pv 0) (pa_cons (pv 2) pa_nil))))
    (pss_cons (ps_set (i := 4) sc_late_stand.nd rfl (Or.inl rfl) (pe_call G_stand_of.ok (hr.mono (by omega)) (by rfl) G_stand_of.mg G_stand_of.kp G_stand_of.b .nil pass0 (pa_cons (pe_ix (ix_listK (K := K) rfl) (pv 3) (pv 2) (fun _ _ => rfl)) (pa_cons (pe_ix (ix_listK (K := K) rfl) (pv 3) (pe_op op_sub (pv 2) pe_int) (fun _ _ => rfl)) (pa_cons (pe_callB call_len_str (by rfl) T.len PySem.boot_len (pa_cons (pv 0) pa_nil)) pa_nil)))))
    (pss_one (ps_ret (pe_call G_turned_by.ok (hr.mono (by omega)) (by rfl) G_turned_by.mg G_turned_by.kp G_turned_by.b .nil pass0 (pa_cons (pv 4) (pa_cons (pe_op op_mul (pe_call G_places_of.ok (hr.mono (by omega)) (by rfl) G_places_of.mg G_places_of.kp G_places_of.b .nil pass0 (pa_cons (pe_call G_number_of.ok (hr.mono (by omega)) (by rfl) G_number_of.mg G_number_of.kp G_number_of.b .nil pass0 (pa_cons (pv 0) pa_nil)) pa_nil)) (pe_op op_sub (pv 1) (pv 2))) pa_nil))))))))), fun R ds σ Q hp hb A k => ?_⟩
  obtain ⟨s, q, rfl, st, hq⟩ := hp
  have few := st.few
  have hn := List.length_pos_iff.mpr st.ne
  refine s_if A (et_testD (ev_op2 (ev_var (i := 1) rfl) (ev_int (i := 0)) o_eqI)) (fun H hc A => ?_) (fun H hc A => ?_)
  · have hc := of_decide_eq_true hc.symm
    dsimp only
    exact s_ret A List.mem_cons_self (F := false) (P := postLs7 [.str s, .int (q : Nat)]) (Ev.impF (ev_var (i := 0) rfl) fun d e => ⟨s, q, rfl, by rw [e, show q = 0 by omega] <;> rfl⟩) hb k rfl
  have hc : ¬ (q : Int) = 0 := of_decide_eq_false hc.symm
  have late2 : 2 ≤ lateT s := by unfold lateT; omega
  have late3 : lateT s ≤ 200 := by unfold lateT; omega
  obtain ⟨b, hb1⟩ : ∃ b, min q (lateT s) = b + 1 := ⟨min q (lateT s) - 1, by omega⟩
  dsimp only [tNext]
  refine s_asgD A (d := .int ((b + 1 : Nat) : Int)) (Ev.impF (ev_cb (ea_consD (ev_var (i := 1) rfl) (ea_consD (ev_s7 (f := fun s => .int (lateT s : Nat)) (ea_consD (ev_var (i := 0) rfl) ea_nil) st) ea_nil)) fun ds e => by subst e; exact c_min2) fun d e => by rw [e, ← hb1]; congr 1; omega) fun σ H A => ?_
  dsimp only
  refine s_asgD A (d := .lst (crwL s (b + 2))) (Ev.f (F := true) (ev_fc (ea_consD (ev_var (i := 0) rfl) (ea_consD (ev_var (i := 2) rfl) ea_nil)) st (by omega))) fun σ H A => ?_
  dsimp only
  have sl := run7_len s (b + 1)
  have i1 : atI (crwL s (b + 2)) ((b + 1 : Nat) : Int) = some (.int (crwD s (b + 1) : Nat)) := atI_nat (crwL_at (by omega))
  have i0 : atI (crwL s (b + 2)) ((b : Nat) : Int) = some (.int (crwD s b : Nat)) := atI_nat (crwL_at (by omega))
  have e1 : crwD s (b + 1) = crdB (run7 s (b + 1)).length (stnB (run7 s (b + 1))) := by unfold crwD; rw [sl]
  have e0 : crwD s b = crdB (run7 s (b + 1)).length (rstB (run7 s (b + 1))) := by rw [← crw_rest st.sg st.ne]; unfold rstD; rw [sl]
  refine s_asgD A (d := .str (run7 s (b + 1))) (ev_so (u := run7 s (b + 1)) (ea_consD (Ev.impF (ev_op2 (ev_var (i := 3) rfl) (ev_var (i := 2) rfl) (o_ixL i1)) fun d e => by rw [e, e1]) (ea_consD (Ev.impF (ev_op2 (ev_var (i := 3) rfl) (Ev.impF (P' := fun d => d = .int ((b : Nat) : Int)) (ev_op2 (ev_var (i := 2) rfl) (ev_int (i := 1)) o_sub) fun d e => by rw [e]; congr 1; omega) (o_ixL i0)) fun d e => by rw [e, e0]) (ea_consD (Ev.impF (ev_cb1 (ev_var (i := 0) rfl) (c_lenS (by omega))) fun d e => by rw [e, sl]) ea_nil))) (run7_mem st.sg _) (fun z => st.ne (List.length_eq_zero_iff.mp (by rw [← sl, z] <;> rfl))) (by omega)) fun σ H A => ?_
  dsimp only
  have pl : -1 ≤ placeI (num7 s) ∧ placeI (num7 s) ≤ 1 := by unfold placeI; split <;> (try split) <;> omega
  refine s_ret A List.mem_cons_self (F := false) (P := postLs7 [.str s, .int (q : Nat)]) (ev_callD (ea_consD (ev_var (i := 4) rfl) (ea_consD (ev_op2 (ev_pl (ea_consD (ev_s7 (f := fun s => .int (num7 s)) (ea_consD (ev_var (i := 0) rfl) ea_nil) st) ea_nil)) (ev_op2 (ev_var (i := 1) rfl) (ev_var (i := 2) rfl) o_sub) (o_mul (.inl ⟨by omega, by omega⟩))) ea_nil)) ⟨_, _, rfl, fun z => st.ne (List.length_eq_zero_iff.mp (by rw [← sl, z] <;> rfl)), by omega⟩ (by intro _ h; cases h) fun d h => ?_) hb k rfl
  obtain ⟨s', p', e, e2⟩ := h
  simp only [List.cons.injEq, D.str.injEq, D.int.injEq, and_true] at e
  obtain ⟨q1, q2⟩ := e
  have := late_is st q
  rw [hb1] at this
  exact ⟨s, q, rfl, by rw [e2, ← q1, ← q2, this]⟩
theorem ev_ls {E B : List Addr} {ss : List Sl} {m : Bool} {o0 : Os} {X : XK} {t : TA} {s : List Nat} {k : Nat} (ht : EaD K E B m ss o0 t [.str s, .int (k : Nat)]) (st : St7 s) (hk : k < 10 ^ 45) :
    EvD K E B m ss o0 (tCall (SpX K false preLs7 false postLs7) [] X t) (.str (run7 s k)) :=
  ev_callD ht ⟨s, k, rfl, st, hk⟩ (by intro _ h; cases h) (by
    rintro d ⟨s', k', e, e2⟩
    simp only [List.cons.injEq, D.str.injEq, D.int.injEq, and_true] at e
    obtain ⟨e1, e3⟩ := e
    rw [e2, ← e1, show k' = k by omega])
end
end Lw
namespace Lw
open PySem L2 Da
variable [Tbs]
theorem op_notInK {X : Cx} {K : PySem.W.Frag} (e : X.K = K) : OpR X (compareOp .NotIn) (rIn K true) := e ▸ op_notIn_seq
theorem op_inK {X : Cx} {K : PySem.W.Frag} (e : X.K = K) : OpR X (compareOp .In) (rIn K false) := e ▸ op_in_seq
section
variable {K : PySem.W.Frag} {E B : List Addr} {ss : List Sl} {m F : Bool} {o0 : Os} {te ta : TE}
theorem c_sumI {l : List Int} : OpA K B (fun vs H Q => ∃ (a : Addr) (ns : List Int), vs = [V.ref a] ∧ SqL K H a (ns.map V.int) ∧ Q (.int ns.sum) H) [.lst (l.map .int)] false (fun x => x = .int l.sum) := fun R H vs rg r Q q => by
  cases r with
  | cons r1 r =>
    cases r
    cases r1 with
    | lst h1 h2 =>
      rw [RpAll.ints h2] at h1
      exact ⟨_, l, rfl, .inl (.inl (era_sub _ _ _ _ h1)), q _ _ H .refl (.int _) (fun z => absurd z (by simp)) rfl⟩
end
/-! ### the law's own -/
theorem dig_text {v : Nat} (h : v < 4) : Str.ofString (toString (v : Int)) = mk [48 + v] := by
  have : v = 0 ∨ v = 1 ∨ v = 2 ∨ v = 3 := by omega
  rcases this with rfl | rfl | rfl | rfl <;> decide +kernel
section
variable {K : PySem.W.Frag} {E B : List Addr} {ss : List Sl} {m F : Bool} {o0 : Os} {te ta : TE}
theorem c_strD {v : Nat} (h : v < 4) : OpA K B (fun xs H Q => ∃ i : Int, xs = [.int i] ∧ i.natAbs.log2 < 1920 ∧ Q (.str (Str.ofString (toString i))) H) [.int (v : Nat)] false (fun x => x = .str [48 + v]) := fun R H vs _ r Q q => by
  cases r with
  | cons h1 t =>
    cases t
    cases h1
    refine ⟨_, rfl, by have : v = 0 ∨ v = 1 ∨ v = 2 ∨ v = 3 := by omega
                       rcases this with rfl | rfl | rfl | rfl <;> decide, ?_⟩
    have := q (.str (mk [48 + v])) _ H .refl (.str _) (fun z => absurd z (by simp)) rfl
    rw [← dig_text h] at this
    exact this
theorem OpA.to {r : List V → Hp → VK → Prop} {as : List D} {F : Bool} {d : D} {Pd : D → Prop} (h : OpA K B r as F (fun x => x = d)) (p : Pd d) : OpA K B r as F Pd := fun R H vs rg rr Q q => h R H vs rg rr Q fun z d' H' g r f e => q z d' H' g r f (e ▸ p)
end
section
variable {P : Program} {w : World} {K : PySem.W.Frag} {mg : Str → Option Value} {base : Heap} {C : Addr}
def preLs (ds : List D) : Prop := ∃ (n : Int) (a b : Nat), ds = [.int (n + 2), .str [a], .str [b]] ∧ (n = 1 ∨ n = 2) ∧ a ∈ sgs n ∧ b ∈ sgs n
def postLs (ds : List D) (d : D) : Prop := ∃ (n : Int) (a b : Nat), ds = [.int (n + 2), .str [a], .str [b]] ∧ d = .int (stpI n a b)
theorem ok_law_step {f : Addr} {fd : FuncData} (F : Fun K "_law_step" "_law_step" s_law_step f fd) (T : Tb mg) : FnOk P w K mg base CX0 1 f fd ["_law_many", "_law_left", "_law_right"] (SpX K false preLs false postLs) := by
  refine okD F sc_law_step (fun ds ⟨_, _, _, e, _⟩ => by rw [e] <;> rfl) (fun cdv A outer s0 H E hr => ?_)
  refine ⟨_, (pss_cons (ps_set (i := 3) sc_law_step.nd rfl (Or.inl rfl) (pe_op op_mod (pe_callTy call_int1 (by rfl) T.int (by decide +kernel) (pa_cons (pe_op op_sub (pe_callTy call_int_str (by rfl) T.int (by decide +kernel) (pa_cons (pv 2) pa_nil)) (pe_callTy call_int_str (by rfl) T.int (by decide +kernel) (pa_cons (pv 1) pa_nil))) pa_nil)) (pv 0)))
    (pss_one (ps_ret (pe_ifExp (pt_cmpR op_eq (pv 0) pe_int (nomark _)) (pe_ix (ix_listK (K := K) rfl) (pe_lst (pa_cons pe_int (pa_cons pe_int (pa_cons pe_int (pa_cons (pe_un un_neg pe_int) pa_nil))))) (pv 3) (fun _ _ => rfl)) (pe_ix (ix_listK (K := K) rfl) (pe_lst (pa_cons pe_int (pa_cons pe_int (pa_cons (pe_un un_neg pe_int) pa_nil)))) (pv 3) (fun _ _ => rfl)))))), fun R ds σ Q hp hb A k => ?_⟩
  obtain ⟨n, a, b, rfl, hn, ha, hb2⟩ := hp
  have la := sgs_le ha
  have lb := sgs_le hb2
  refine s_asgD A (d := .int (((b : Int) - a) % (n + 2))) (Ev.impF (ev_op2 (ev_cb1 (ev_op2 (ev_cb1 (ev_var (i := 2) rfl) (c_intS (one_digit lb) (by show (1 : Nat) ≤ 640; decide))) (ev_cb1 (ev_var (i := 1) rfl) (c_intS (one_digit la) (by show (1 : Nat) ≤ 640; decide))) o_sub) c_intI) (ev_var (i := 0) rfl) (o_mod (by omega))) fun d e => by rw [e]; congr 2; omega) fun σ H A => ?_
  dsimp only
  refine s_ret A List.mem_cons_self (F := false) (P := postLs [.int (n + 2), .str [a], .str [b]]) (ev_if (T := fun x => x = decide (n + 2 = 4)) (et_testD (ev_op2 (ev_var (i := 0) rfl) (ev_int (i := 4)) o_eqI)) (fun h => ?_) (fun h => ?_)) hb k rfl
  · have h : n = 2 := by have := of_decide_eq_true h.symm; omega
    subst h
    have r0 : 0 ≤ ((b : Int) - a) % (2 + 2) := Int.emod_nonneg _ (by decide)
    have r1 : ((b : Int) - a) % (2 + 2) < 2 + 2 := Int.emod_lt_of_pos _ (by decide)
    have ix : atI [D.int 0, .int 1, .int 2, .int (-1)] (((b : Int) - a) % (2 + 2)) = some (.int (stpI 2 a b)) := by
      unfold stpI
      generalize ((b : Int) - a) % (2 + 2) = r at *
      have : r = 0 ∨ r = 1 ∨ r = 2 ∨ r = 3 := by omega
      rcases this with rfl | rfl | rfl | rfl <;> rfl
    exact Ev.impF (ev_op2 (Ev.f (ev_lstD (ea_consD (ev_int (i := 0)) (ea_consD (ev_int (i := 1)) (ea_consD (ev_int (i := 2)) (ea_consD (ev_unD (ev_int (i := 1)) o_neg) ea_nil)))) (by show (4 : Nat) ≤ 1000; decide))) (ev_var (i := 3) rfl) (o_ixL ix)) fun d e => ⟨2, a, b, rfl, e⟩
  · have h : n = 1 := by have := of_decide_eq_false h.symm; omega
    subst h
    have r0 : 0 ≤ ((b : Int) - a) % (1 + 2) := Int.emod_nonneg _ (by decide)
    have r1 : ((b : Int) - a) % (1 + 2) < 1 + 2 := Int.emod_lt_of_pos _ (by decide)
    have ix : atI [D.int 0, .int 1, .int (-1)] (((b : Int) - a) % (1 + 2)) = some (.int (stpI 1 a b)) := by
      unfold stpI
      generalize ((b : Int) - a) % (1 + 2) = r at *
      have : r = 0 ∨ r = 1 ∨ r = 2 := by omega
      rcases this with rfl | rfl | rfl <;> rfl
    exact Ev.impF (ev_op2 (Ev.f (ev_lstD (ea_consD (ev_int (i := 0)) (ea_consD (ev_int (i := 1)) (ea_consD (ev_unD (ev_int (i := 1)) o_neg) ea_nil))) (by show (3 : Nat) ≤ 1000; decide))) (ev_var (i := 3) rfl) (o_ixL ix)) fun d e => ⟨1, a, b, rfl, e⟩
/-- so many rests, a stand -/
structure Lt (n : Int) (s : List Nat) : Prop where
  hn : n = 1 ∨ n = 2
  sg : ∀ c ∈ s, c ∈ sgs n
  ne : s ≠ []
  few : s.length ≤ 900
def preLt (ds : List D) : Prop := ∃ (n : Int) (s : List Nat), ds = [.int n, .str s] ∧ Lt n s
def postLt (f : Int → List Nat → D) (ds : List D) (d : D) : Prop := ∃ (n : Int) (s : List Nat), ds = [.int n, .str s] ∧ d = f n s
theorem ev_lt {E B : List Addr} {ss : List Sl} {m F : Bool} {o0 : Os} {X : XK} {t : TA} {f : Int → List Nat → D} {s : List Nat} {n : Int} (ht : EaD K E B m ss o0 t [.int n, .str s]) (h : Lt n s) :
    Ev K E B m ss o0 F (tCall (SpX K false preLt F (postLt f)) [] X t) (fun d => d = f n s) :=
  ev_callD ht ⟨n, s, rfl, h⟩ (by intro _ h; cases h) (by
    rintro d ⟨n', s', e, e2⟩
    cases e
    exact e2)
abbrev gStps : Int → List Nat → D := fun n s => .lst ((stps n s).map .int)
abbrev gNum : Int → List Nat → D := fun n s => optI (numO n s)
theorem ok_law_steps {f f1 : Addr} {fd fd1 : FuncData} (F : Fun K "_law_steps" "_law_steps" s_law_steps f fd) (T : Tb mg)
    (G_law_step : Gd P w K mg base 1 "_law_step" f1 fd1 ["_law_many", "_law_left", "_law_right"] (SpX K false preLs false postLs)) :
    FnOk P w K mg base CX0 2 f fd ["_law_rests", "_law_text_here"] (SpX K false preLt true (postLt gStps)) := by
  refine okD F sc_law_steps (fun ds ⟨_, _, e, _⟩ => by rw [e] <;> rfl) (fun cdv A outer s0 H E hr => ?_)
  refine ⟨_, (pss_one (ps_ret (pe_lc (own := [("_law_k", 2)]) (g := gName 2) rfl sc_law_steps.nd (pi_range1 (by rfl) T.range (pa_cons (pe_callB call_len_str (by rfl) T.len PySem.boot_len (pa_cons (pv 1) pa_nil)) pa_nil)) (blkOk_by (own := [("_law_k", 2)]) (N := N_law_steps) (sc := defScope s_law_steps) (by decide +kernel)) (fun _ _ _ _ _ => pg_name (i := 2) sc_law_steps.nd rfl (Or.inl rfl)) (fun _ _ _ _ _ => pts_nil) (fun _ _ _ _ _ => (pe_call G_law_step.ok (hr.mono (by omega)) (by rfl) G_law_step.mg G_law_step.kp G_law_step.b .nil pass0 (pa_cons (pe_op op_add (pv 0) pe_int) (pa_cons (pe_ix ix_str (pv 1) (pv 2) (fun _ _ => rfl)) (pa_cons (pe_ix ix_str (pv 1) (pe_op op_mod (pe_callTy call_int1 (by rfl) T.int (by decide +kernel) (pa_cons (pe_op op_add (pv 2) pe_int) pa_nil)) (pe_callB call_len_str (by rfl) T.len PySem.boot_len (pa_cons (pv 1) pa_nil))) (fun _ _ => rfl)) pa_nil)))))))), fun R ds σ Q hp hb A k => ?_⟩
  obtain ⟨n, s, rfl, lt⟩ := hp
  have few := lt.few
  have pos : 0 < s.length := List.length_pos_iff.mpr lt.ne
  have at_ : ∀ {i : Nat}, i < s.length → atI s (i : Int) = some (s.getD i 0) := fun {i} hi => by
    have := atI_nat (List.getElem?_eq_getElem hi)
    rw [this, List.getD_eq_getElem?_getD, List.getElem?_eq_getElem hi] <;> rfl
  refine s_ret A List.mem_cons_self (F := true) (P := postLt gStps [.int n, .str s]) (Ev.impF (ev_lcD (F := false) (fun d => .int (stpI n (s.getD d.i.toNat 0) (nxt s d.i.toNat))) (ei_rng1 (n := (s.length : Int)) (ea_consD (ev_cb1 (ev_var (i := 1) rfl) (c_lenS (by omega))) ea_nil) (by omega)) (by decide) (by rw [rngD_len]; omega) (fun x hx => ?_)) fun d e => ⟨n, s, rfl, ?_⟩) hb k rfl
  · obtain ⟨i, hi, rfl⟩ := rngD_mem hx
    have hi : i < s.length := by omega
    show Ev _ _ _ _ _ _ _ _ (fun d => d = .int (stpI n (s.getD ((0 : Int) + (i : Int)).toNat 0) (nxt s ((0 : Int) + (i : Int)).toNat)))
    rw [show ((0 : Int) + (i : Int)) = (i : Nat) from Int.zero_add _, Int.toNat_natCast]
    have j : ((i : Int) + 1) % (s.length : Int) = ((if i + 1 = s.length then 0 else i + 1 : Nat) : Int) := by
      split
      · rename_i h
        have e : ((i : Int) + 1) = (s.length : Int) := by omega
        rw [e, Int.emod_self] <;> rfl
      · rw [Int.emod_eq_of_lt (by omega) (by omega)] <;> omega
    have nj : (if i + 1 = s.length then 0 else i + 1) < s.length := by split <;> omega
    exact ev_callD (ea_consD (ev_op2 (ev_var (i := 0) rfl) (ev_int (i := 2)) o_add) (ea_consD (ev_op2 (ev_var (i := 1) rfl) (ev_var (i := 2) rfl) (o_ixS (by omega) (at_ hi))) (ea_consD (ev_op2 (ev_var (i := 1) rfl) (Ev.impF (ev_op2 (ev_cb1 (ev_op2 (ev_var (i := 2) rfl) (ev_int (i := 1)) o_add) c_intI) (ev_cb1 (ev_var (i := 1) rfl) (c_lenS (by omega))) (o_mod (by omega))) fun d e => by rw [e, j]) (o_ixS (by omega) (at_ nj))) ea_nil))) ⟨n, _, _, rfl, lt.hn, lt.sg _ (getD_mem hi), lt.sg _ (getD_mem nj)⟩ (by intro _ h; cases h) (by
      rintro d ⟨n', a', b', e, e2⟩
      simp only [List.cons.injEq, D.str.injEq, D.int.injEq, and_true] at e
      obtain ⟨q1, q2, q3⟩ := e
      have q1 : n' = n := by omega
      subst q1
      rw [e2, ← q2, ← q3] <;> rfl)
  · rw [e, Int.toNat_natCast]
    show D.lst _ = D.lst _
    unfold rngD stps
    rw [List.map_map, List.map_map]
    congr 1
    refine List.map_congr_left fun i _ => ?_
    show D.int (stpI n (s.getD ((0 : Int) + (i : Int)).toNat 0) (nxt s ((0 : Int) + (i : Int)).toNat)) = _
    rw [show ((0 : Int) + (i : Int)).toNat = i by omega] <;> rfl
end
section
variable {P : Program} {w : World} {K : PySem.W.Frag} {mg : Str → Option Value} {base : Heap} {C : Addr}
/-! the law's own runs -/
def preAf (ds : List D) : Prop := ∃ (s : List Nat) (k : Nat), ds = [.tup [.str T7, .int 1], .str s, .int (k : Nat)] ∧ St7 s ∧ k ≤ 500
def postAf (f : List Nat → Nat → D) (ds : List D) (d : D) : Prop := ∃ (s : List Nat) (k : Nat), ds = [.tup [.str T7, .int 1], .str s, .int (k : Nat)] ∧ d = f s k
theorem ev_af {E B : List Addr} {ss : List Sl} {m F : Bool} {o0 : Os} {X : XK} {t : TA} {s : List Nat} {k : Nat} {f : List Nat → Nat → D} (ht : EaD K E B m ss o0 t [.tup [.str T7, .int 1], .str s, .int (k : Nat)]) (st : St7 s) (hk : k ≤ 500) :
    Ev K E B m ss o0 F (tCall (SpX K false preAf F (postAf f)) [] X t) (fun d => d = f s k) :=
  ev_callD ht ⟨s, k, rfl, st, hk⟩ (by intro _ h; cases h) (by
    rintro d ⟨s', k', e, e2⟩
    simp only [List.cons.injEq, D.str.injEq, D.int.injEq, and_true, true_and] at e
    obtain ⟨e1, e3⟩ := e
    rw [e2, ← e1, show k' = k by omega])
theorem ev_made7 {E B : List Addr} {ss : List Sl} {m : Bool} {o0 : Os} : EvD K E B m ss o0 (tTup (tCons (tC (.str (mk [48, 49, 49, 49]))) (tCons (tC (.int 1)) tNil))) (.tup [.str T7, .int 1]) :=
  Ev.f (ev_tupD (ea_consD (ev_str (s := [48, 49, 49, 49])) (ea_consD (ev_int (i := 1)) ea_nil)) (by show (2 : Nat) ≤ 1000; decide))
end
/-! no step within is two -/
def Chn (n : Int) (s : List Nat) : Prop := ∀ i, i + 1 < s.length → stpI n (s.getD i 0) (s.getD (i + 1) 0) ≠ 2
theorem getD_a1 {l : List Nat} {c i : Nat} (h : i < l.length) : (l ++ [c]).getD i 0 = l.getD i 0 := by
  rw [List.getD_eq_getElem?_getD, List.getElem?_append_left h, ← List.getD_eq_getElem?_getD]
theorem getD_a2 {l : List Nat} {c : Nat} : (l ++ [c]).getD l.length 0 = c := by
  rw [List.getD_eq_getElem?_getD, List.getElem?_append_right (Nat.le_refl _), Nat.sub_self] <;> rfl
theorem Chn.snoc {n : Int} {l : List Nat} {c d : Nat} (h : Chn n (l ++ [c])) (hd : stpI n c d ≠ 2) : Chn n (l ++ [c] ++ [d]) := fun i hi => by
  have hl : (l ++ [c]).length = l.length + 1 := by simp
  have hi : i + 1 < l.length + 2 := by simpa using hi
  rcases Nat.lt_or_ge (i + 1) (l ++ [c]).length with h1 | h1
  · rw [getD_a1 (by omega), getD_a1 h1]
    exact h i h1
  · have e : i = l.length := by omega
    have e2 : i + 1 = (l ++ [c]).length := by omega
    rw [e2, getD_a2, getD_a1 (by omega), e, getD_a2]
    exact hd
theorem Chn.even {n : Int} {l : List Nat} {c : Nat} (h : Chn n (l ++ [c])) (hc : stpI n c ((l ++ [c]).getD 0 0) ≠ 2) : ¬ (2 : Int) ∈ stps n (l ++ [c]) := fun z => by
  unfold stps at z
  obtain ⟨i, hi, e⟩ := List.mem_map.mp z
  have hi := List.mem_range.mp hi
  have hl : (l ++ [c]).length = l.length + 1 := by simp
  unfold nxt at e
  by_cases q : i + 1 = (l ++ [c]).length
  · rw [if_pos q, show i = l.length by omega, getD_a2] at e
    exact hc e
  · rw [if_neg q] at e
    exact h i (by omega) e
/-- a sign further -/
def onB (n : Int) (u : Nat) (d : Int) : Nat := 48 + (((u : Int) - 48 + d) % (n + 2)).toNat
theorem onB_ok {n : Int} {u : Nat} {d : Int} (hn : n = 1 ∨ n = 2) (hu : u ∈ sgs n) (hd : d = 0 ∨ d = 1 ∨ d = n + 1) : onB n u d ∈ sgs n ∧ stpI n u (onB n u d) ≠ 2 ∧ ∃ v : Nat, v < 4 ∧ ((u : Int) - 48 + d) % (n + 2) = (v : Nat) ∧ onB n u d = 48 + v := by
  have b := sgs_le hu
  have r0 : 0 ≤ ((u : Int) - 48 + d) % (n + 2) := Int.emod_nonneg _ (by omega)
  have r1 : ((u : Int) - 48 + d) % (n + 2) < n + 2 := Int.emod_lt_of_pos _ (by omega)
  refine ⟨?_, ?_, _, ?_, (Int.toNat_of_nonneg r0).symm, rfl⟩
  · rcases hn with rfl | rfl
    · have : u = 48 ∨ u = 49 ∨ u = 50 := by simpa [sgs] using hu
      rcases this with rfl | rfl | rfl <;> rcases hd with rfl | rfl | rfl <;> decide
    · have : u = 48 ∨ u = 49 ∨ u = 50 ∨ u = 51 := by simpa [sgs] using hu
      rcases this with rfl | rfl | rfl | rfl <;> rcases hd with rfl | rfl | rfl <;> decide
  · rcases hn with rfl | rfl
    · have : u = 48 ∨ u = 49 ∨ u = 50 := by simpa [sgs] using hu
      rcases this with rfl | rfl | rfl <;> rcases hd with rfl | rfl | rfl <;> decide
    · have : u = 48 ∨ u = 49 ∨ u = 50 ∨ u = 51 := by simpa [sgs] using hu
      rcases this with rfl | rfl | rfl | rfl <;> rcases hd with rfl | rfl | rfl <;> decide
  · omega
theorem close_on {n : Int} {u a : Nat} (hn : n = 1 ∨ n = 2) (hu : u ∈ sgs n) (ha : a ∈ sgs n) (h : stpI n u a = 2) : stpI n (onB n u 1) a ≠ 2 := by
  rcases hn with rfl | rfl
  · have : u = 48 ∨ u = 49 ∨ u = 50 := by simpa [sgs] using hu
    have ha : a = 48 ∨ a = 49 ∨ a = 50 := by simpa [sgs] using ha
    rcases this with rfl | rfl | rfl <;> rcases ha with rfl | rfl | rfl <;> first | (exfalso; revert h; decide) | decide
  · have : u = 48 ∨ u = 49 ∨ u = 50 ∨ u = 51 := by simpa [sgs] using hu
    have ha : a = 48 ∨ a = 49 ∨ a = 50 ∨ a = 51 := by simpa [sgs] using ha
    rcases this with rfl | rfl | rfl | rfl <;> rcases ha with rfl | rfl | rfl | rfl <;> first | (exfalso; revert h; decide) | decide
section
variable {P : Program} {w : World} {K : PySem.W.Frag} {mg : Str → Option Value} {base : Heap} {C : Addr}
def preEt (ds : List D) : Prop := ∃ (b : Addr) (n M : Int), ds = [.raw (.ref b), .int n, .int M] ∧ (n = 1 ∨ n = 2) ∧ 1 ≤ M ∧ M ≤ 100
def postEt (ds : List D) (d : D) : Prop := ∃ (b : Addr) (n M : Int) (s : List Nat), ds = [.raw (.ref b), .int n, .int M] ∧ d = .str s ∧ Lt n s ∧ (s.length : Int) ≤ M + 1 ∧ (n = 1 → (s.length : Int) ≤ M) ∧ ¬ (2 : Int) ∈ stps n s
theorem stp1 (a b : Nat) : stpI 1 a b ≠ 2 := by
  unfold stpI
  split <;> omega
theorem stps1 (s : List Nat) : ¬ (2 : Int) ∈ stps 1 s := fun h => by
  obtain ⟨i, _, e⟩ := List.mem_map.mp h
  exact stp1 _ _ e
def Let (b : Addr) (n M : Int) (z : Nat) (s : List Nat) (x : Sl) : List Sl := [.dat (.raw (.ref b)), .dat (.int n), .dat (.int M), .dat (.int (n + 2)), .dat (.int (z : Nat)), .dat (.str s), x]
theorem ok_law_even_text {f f1 f2 : Addr} {fd fd1 fd2 : FuncData} (F : Fun K "_law_even_text" "_law_even_text" s_law_even_text f fd) (T : Tb mg)
    (G_law_take : Gd P w K mg base 1 "_law_take" f1 fd1 ["_law_bag_here", "_law_many"] (SpX K true preTake false postTake))
    (G_law_steps : Gd P w K mg base 2 "_law_steps" f2 fd2 ["_law_rests", "_law_text_here"] (SpX K false preLt true (postLt gStps))) :
    FnOk P w K mg base CX0 3 f fd ["_law_bag_here", "_law_rests", "_law_most"] (SpX K true preEt false postEt) := by
  refine okD F sc_law_even_text (fun ds ⟨_, _, _, e, _⟩ => by rw [e] <;> rfl) (fun cdv A outer s0 HB E hr => ?_)
  refine ⟨_, (pss_cons (ps_pair (i := 3) (j := 4) rfl sc_law_even_text.nd rfl rfl (by decide) (Or.inl rfl) (Or.inl rfl) (fun _ => rfl) (pa_cons (pe_op op_add (pv 1) pe_int) (pa_cons (pe_op op_add pe_int (pe_call G_law_take.ok (hr.mono (by omega)) (by rfl) G_law_take.mg G_law_take.kp G_law_take.b .nil pass0 (pa_cons (pv 0) (pa_cons (pv 2) pa_nil)))) pa_nil)) rfl)
    (pss_cons (ps_set (i := 5) sc_law_even_text.nd rfl (Or.inl rfl) (pe_callTy call_str_int (by rfl) T.str (by decide +kernel) (pa_cons (pe_call G_law_take.ok (hr.mono (by omega)) (by rfl) G_law_take.mg G_law_take.kp G_law_take.b .nil pass0 (pa_cons (pv 0) (pa_cons (pv 3) pa_nil))) pa_nil)))
    (pss_cons (ps_for PassesOwn.never rfl (pi_range1 (by rfl) T.range (pa_cons (pe_op op_sub (pv 4) pe_int) pa_nil)) (pg_name (i := 6) sc_law_even_text.nd rfl (Or.inl rfl)) (pss_one (ps_set (i := 5) sc_law_even_text.nd rfl (Or.inl rfl) (pe_op op_add_str (pv 5) (pe_callTy call_str_int (by rfl) T.str (by decide +kernel) (pa_cons (pe_op op_mod (pe_callTy call_int1 (by rfl) T.int (by decide +kernel) (pa_cons (pe_op op_add (pe_callTy call_int_str (by rfl) T.int (by decide +kernel) (pa_cons (pe_ix ix_str (pv 5) (pe_un un_neg pe_int) (fun _ _ => rfl)) pa_nil)) (pe_ix (ix_listK (K := K) rfl) (pe_lst (pa_cons pe_int (pa_cons pe_int (pa_cons pe_int (pa_cons (pe_op op_sub (pv 3) pe_int) (pa_cons pe_int pa_nil)))))) (pe_call G_law_take.ok (hr.mono (by omega)) (by rfl) G_law_take.mg G_law_take.kp G_law_take.b .nil pass0 (pa_cons (pv 0) (pa_cons pe_int pa_nil))) (fun _ _ => rfl))) pa_nil)) (pv 3)) pa_nil))))))
    (pss_cons (ps_while PassesOwn.never (pt_cmpR (op_inK (K := K) rfl) pe_int (pe_call G_law_steps.ok (hr.mono (by omega)) (by rfl) G_law_steps.mg G_law_steps.kp G_law_steps.b .nil pass0 (pa_cons (pv 1) (pa_cons (pv 5) pa_nil))) rfl) (pss_one (ps_set (i := 5) sc_law_even_text.nd rfl (Or.inl rfl) (pe_op op_add_str (pv 5) (pe_callTy call_str_int (by rfl) T.str (by decide +kernel) (pa_cons (pe_op op_mod (pe_callTy call_int1 (by rfl) T.int (by decide +kernel) (pa_cons (pe_op op_add (pe_callTy call_int_str (by rfl) T.int (by decide +kernel) (pa_cons (pe_ix ix_str (pv 5) (pe_un un_neg pe_int) (fun _ _ => rfl)) pa_nil)) pe_int) pa_nil)) (pv 3)) pa_nil))))))
    (pss_one (ps_ret (pv 5))))))), fun R ds σ Q hp hb A k => ?_⟩
  obtain ⟨b, n, M, rfl, hn, hM1, hM2⟩ := hp
  have inB : b ∈ bagsOf true [.raw (.ref b), .int n, .int M] := by simp [bagsOf]
  have low48 : ∀ c, c ∈ sgs n → 48 ≤ c ∧ c ≤ 51 := fun c h => sgs_le h
  have dig : ∀ v : Nat, (v : Int) < n + 2 → 48 + v ∈ sgs n := fun v hv => by
    rcases hn with rfl | rfl
    · have : v = 0 ∨ v = 1 ∨ v = 2 := by omega
      rcases this with rfl | rfl | rfl <;> decide
    · have : v = 0 ∨ v = 1 ∨ v = 2 ∨ v = 3 := by omega
      rcases this with rfl | rfl | rfl | rfl <;> decide
  refine s_pair A (P := fun x y => x = .int (n + 2) ∧ ∃ z : Nat, y = .int (z : Nat) ∧ 1 ≤ z ∧ (z : Int) ≤ M) (EvA.imp (ea_cons (ev_op2 (ev_var (i := 1) rfl) (ev_int (i := 2)) o_add) (ea_cons (ev_op (P := fun d => ∃ z : Nat, d = .int (z : Nat) ∧ 1 ≤ z ∧ (z : Int) ≤ M) (ev_int (i := 1)) (ev_take (n := M) (i := 0) rfl inB (ev_var (i := 2) rfl) (by omega) (wide (by omega))) fun x y e ⟨v, e2, v0, v1⟩ => ?_) ea_nil)) fun ds h => ?_) fun x y σ H ⟨e1, z, e2, z1, z16⟩ A => ?_
  · subst e; subst e2
    exact Op2.to o_add ⟨(1 + v).toNat, by congr 1; omega, by omega, by omega⟩
  · obtain ⟨a1, q1, rfl, h1, a2, q2, rfl, h2, rfl⟩ := h
    exact ⟨_, _, rfl, h1, h2⟩
  subst e1; subst e2
  dsimp only
  refine s_asg A (F := false) (P := fun d => ∃ c, d = .str [c] ∧ c ∈ sgs n) (ev_cbR (PA := Drw (n + 2)) (ev_take (n := n + 2) (i := 0) rfl inB (ev_var (i := 3) rfl) (by omega) (wide (by omega))) fun d h => ?_) fun d σ H ⟨c0, e, hc0⟩ A => ?_
  · obtain ⟨v, rfl, v0, v1⟩ := h
    obtain ⟨u, rfl⟩ : ∃ u : Nat, v = (u : Int) := ⟨v.toNat, by omega⟩
    exact OpA.to (c_strD (by omega)) ⟨48 + u, rfl, dig u v1⟩
  subst e
  have A : At K R (bagsOf true [.raw (.ref b), .int n, .int M]) _ (Let b n M z [c0] .any) [] σ H := A
  dsimp only
  refine s_for A (ei_rng1 (n := (z : Int) - 1) (ea_consD (ev_op2 (ev_var (i := 4) rfl) (ev_int (i := 1)) o_sub) ea_nil) (by omega)) (fun _ i ss' os' => (∃ l c x, ss' = Let b n M z (l ++ [c]) x ∧ l.length = i ∧ Chn n (l ++ [c]) ∧ ∀ y ∈ l ++ [c], y ∈ sgs n) ∧ os' = []) (fun _ _ => ⟨⟨[], c0, _, rfl, rfl, fun i h => by simp at h, fun y hy => by rw [List.mem_singleton.mp hy]; exact hc0⟩, rfl⟩) (fun _ _ _ _ h => by rw [h.2]) (fun ds z1 i x ss' os' σ H e hx hj A => ?_) (fun ds ss' os' σ H e hj A => ?_)
  · obtain ⟨⟨l, c, x6, rfl, ll, ch, sg⟩, rfl⟩ := hj
    have hi : (i : Int) < M := by
      have := (List.getElem?_eq_some_iff.mp hx).1
      rw [e, rngD_len] at this
      omega
    have A : At K R (bagsOf true [.raw (.ref b), .int n, .int M]) _ (Let b n M z (l ++ [c]) (.dat x)) [] σ H := A
    have hc := sg c (by simp)
    have lc := low48 c hc
    refine s_asg A (F := false) (P := fun d => ∃ e : Int, (e = 0 ∨ e = 1 ∨ e = n + 1) ∧ d = .str (l ++ [c] ++ [onB n c e])) (ev_op (PB := fun d => ∃ e : Int, (e = 0 ∨ e = 1 ∨ e = n + 1) ∧ d = .str [onB n c e]) (ev_var (i := 5) rfl) (ev_cbR (PA := fun d => ∃ e : Int, (e = 0 ∨ e = 1 ∨ e = n + 1) ∧ d = .int (((c : Int) - 48 + e) % (n + 2))) (ev_op (PA := fun d => ∃ e : Int, (e = 0 ∨ e = 1 ∨ e = n + 1) ∧ d = .int ((c : Int) - 48 + e)) (ev_cbR (PA := fun d => ∃ e : Int, (e = 0 ∨ e = 1 ∨ e = n + 1) ∧ d = .int ((c : Int) - 48 + e)) (ev_op (PB := fun d => ∃ e : Int, (e = 0 ∨ e = 1 ∨ e = n + 1) ∧ d = .int e) (ev_cb1 (ev_op2 (ev_var (i := 5) rfl) (ev_unD (ev_int (i := 1)) o_neg) (o_ixS (c := c) (by simp; omega) (atI_last l c))) (c_intS (one_digit lc) (by show (1 : Nat) ≤ 640; decide))) (ev_op (PB := Drw 5) (Ev.f (ev_lstD (ea_consD (ev_int (i := 0)) (ea_consD (ev_int (i := 1)) (ea_consD (ev_int (i := 1)) (ea_consD (ev_op2 (ev_var (i := 3) rfl) (ev_int (i := 1)) o_sub) (ea_consD (ev_int (i := 0)) ea_nil))))) (by show (5 : Nat) ≤ 1000; decide))) (ev_take (n := 5) (i := 0) rfl inB ev_int (by decide) (wide (by decide))) fun x y e h => ?_) fun x y e1 h => ?_) fun d h => ?_) (ev_var (i := 3) rfl) fun x y h e => ?_) fun d h => ?_) fun x y e1 h => ?_) fun d σ H ⟨e, he, e2⟩ A => ?_
    · subst e
      refine o_ixDraw h rfl fun x hx => ?_
      simp only [List.mem_cons, List.not_mem_nil, or_false] at hx
      rcases hx with rfl | rfl | rfl | rfl | rfl
      · exact ⟨0, .inl rfl, rfl⟩
      · exact ⟨1, .inr (.inl rfl), rfl⟩
      · exact ⟨1, .inr (.inl rfl), rfl⟩
      · exact ⟨n + 1, .inr (.inr rfl), by congr 1; omega⟩
      · exact ⟨0, .inl rfl, rfl⟩
    · obtain ⟨e, he, rfl⟩ := h
      subst e1
      exact Op2.to o_add ⟨e, he, rfl⟩
    · obtain ⟨e, he, rfl⟩ := h
      exact OpA.to c_intI ⟨e, he, rfl⟩
    · obtain ⟨e', he, rfl⟩ := h
      subst e
      exact Op2.to (o_mod (by omega)) ⟨e', he, rfl⟩
    · obtain ⟨e, he, rfl⟩ := h
      obtain ⟨_, _, v, v4, ev, ov⟩ := onB_ok hn hc he
      rw [ev]
      exact OpA.to (c_strD v4) ⟨e, he, by rw [ov]⟩
    · obtain ⟨e, he, rfl⟩ := h
      subst e1
      exact Op2.to (o_addS (by simp; omega)) ⟨e, he, rfl⟩
    subst e2
    obtain ⟨o1, o2, _⟩ := onB_ok hn hc he
    refine ⟨_, _, ⟨⟨l ++ [c], onB n c e, _, rfl, by simp [ll], ch.snoc o2, fun y hy => ?_⟩, rfl⟩, A⟩
    rcases List.mem_append.mp hy with hy | hy
    · exact sg y hy
    · rw [List.mem_singleton.mp hy]
      exact o1
  obtain ⟨⟨l, c, x6, rfl, ll, ch, sg⟩, rfl⟩ := hj
  have ll : (l.length : Int) + 1 ≤ M := by rw [ll, e, rngD_len]; omega
  dsimp only
  refine s_while A (fun m ss' os' => m ≤ 1 ∧ (∃ l c x, ss' = Let b n M z (l ++ [c]) x ∧ (l.length : Int) + m ≤ M ∧ Chn n (l ++ [c]) ∧ (∀ y ∈ l ++ [c], y ∈ sgs n) ∧ (m = 0 → n = 2 ∧ stpI n c ((l ++ [c]).getD 0 0) ≠ 2)) ∧ os' = []) 1 ⟨Nat.le_refl _, ⟨l, c, _, rfl, by omega, ch, sg, fun h => by cases h⟩, rfl⟩ (fun m ss' os' hj => ?_)
  obtain ⟨m1, ⟨l, c, x6, rfl, ll, ch, sg, cl⟩, rfl⟩ := hj
  have lt : Lt n (l ++ [c]) := ⟨hn, sg, by simp, by simp; omega⟩
  have hc := sg c (by simp)
  have lc := low48 c hc
  refine ⟨fun x => x = decide ((2 : Int) ∈ stps n (l ++ [c])), et_testD (Ev.impF (ev_op2 (ev_int (i := 2)) (Ev.f (F := true) (ev_lt (f := gStps) (ea_consD (ev_var (i := 1) rfl) (ea_consD (ev_var (i := 5) rfl) ea_nil)) lt)) o_inInt) fun d e => e), fun h σ H A => ?_, fun h σ H A => ?_⟩
  · have two := of_decide_eq_true h.symm
    have clo : stpI n c ((l ++ [c]).getD 0 0) = 2 := Classical.byContradiction fun q => ch.even q two
    have me : m = 1 := by
      rcases Nat.lt_or_ge m 1 with q | q
      · exact absurd clo (cl (by omega)).2
      · omega
    subst me
    obtain ⟨o1, o2, v, v4, ev, ov⟩ := onB_ok hn hc (.inr (.inl rfl) : (1 : Int) = 0 ∨ (1 : Int) = 1 ∨ (1 : Int) = n + 1)
    refine s_asgD A (d := .str (l ++ [c] ++ [onB n c 1])) (Ev.impF (ev_op2 (ev_var (i := 5) rfl) (ev_cb1 (Ev.impF (ev_op2 (ev_cb1 (ev_op2 (ev_cb1 (ev_op2 (ev_var (i := 5) rfl) (ev_unD (ev_int (i := 1)) o_neg) (o_ixS (c := c) (by simp; omega) (atI_last l c))) (c_intS (one_digit lc) (by show (1 : Nat) ≤ 640; decide))) (ev_int (i := 1)) o_add) c_intI) (ev_var (i := 3) rfl) (o_mod (by omega))) fun d e => by rw [e, ev]) (c_strD v4)) (o_addS (by simp; omega))) fun d e => by rw [e, ov]) fun σ H A => ?_
    refine ⟨0, _, _, by decide, ⟨by decide, ⟨l ++ [c], onB n c 1, _, rfl, by simp; omega, ch.snoc o2, fun y hy => ?_, fun _ => ⟨by
      rcases hn with q | q
      · subst q
        exact absurd two (stps1 _)
      · exact q, ?_⟩⟩, rfl⟩, A⟩
    · rcases List.mem_append.mp hy with hy | hy
      · exact sg y hy
      · rw [List.mem_singleton.mp hy]
        exact o1
    · rw [getD_a1 (by simp)]
      exact close_on hn hc (sg _ (getD_mem (by simp))) clo
  · have no := of_decide_eq_false h.symm
    dsimp only
    exact s_ret A List.mem_cons_self (F := false) (P := postEt [.raw (.ref b), .int n, .int M]) (Ev.impF (ev_var (i := 5) rfl) fun d e => ⟨b, n, M, _, rfl, e, lt, by simp; omega, fun h1 => by
      have : m = 1 := by
        rcases Nat.lt_or_ge m 1 with q | q
        · have := (cl (by omega)).1
          omega
        · omega
      subst this
      simp
      omega, no⟩) hb k rfl
end
end Lw
namespace Lw
open PySem L2 Da
variable [Tbs]
section
variable {P : Program} {w : World} {K : PySem.W.Frag} {mg : Str → Option Value} {base : Heap} {C : Addr}
/-! ### stands with one rest, drawn -/
def prePp (ds : List D) : Prop := ∃ (b : Addr) (M : Int), ds = [.raw (.ref b), .int M] ∧ 1 ≤ M ∧ M ≤ 100
def postPp (ds : List D) (d : D) : Prop := ∃ (b : Addr) (M : Int) (s : List Nat), ds = [.raw (.ref b), .int M] ∧ d = .str s ∧ Stand 1 M s
def Lpp (b : Addr) (M v : Int) (f x : Sl) : List Sl := [.dat (.raw (.ref b)), .dat (.int M), .dat (.int v), f, x]
theorem ok_law_plain_text {f f1 f2 f3 : Addr} {fd fd1 fd2 fd3 : FuncData} (F : Fun K "_law_plain_text" "_law_plain_text" s_law_plain_text f fd) (T : Tb mg)
    (G_law_take : Gd P w K mg base 1 "_law_take" f1 fd1 ["_law_bag_here", "_law_many"] (SpX K true preTake false postTake))
    (G_law_text : Gd P w K mg base 2 "_law_text" f2 fd2 ["_law_bag_here", "_law_rests", "_law_most"] (SpX K true preText false postText))
    (G_law_even_text : Gd P w K mg base 3 "_law_even_text" f3 fd3 ["_law_bag_here", "_law_rests", "_law_most"] (SpX K true preEt false postEt)) :
    FnOk P w K mg base CX0 4 f fd ["_law_bag_here", "_law_most"] (SpX K true prePp false postPp) := by
  refine okD F sc_law_plain_text (fun ds ⟨_, _, e, _⟩ => by rw [e] <;> rfl) (fun cdv A outer s0 HB E hr => ?_)
  refine ⟨_, (pss_cons (ps_set (i := 2) sc_law_plain_text.nd rfl (Or.inl rfl) (pe_call G_law_take.ok (hr.mono (by omega)) (by rfl) G_law_take.mg G_law_take.kp G_law_take.b .nil pass0 (pa_cons (pv 0) (pa_cons pe_int pa_nil))))
    (pss_cons (ps_if (pt_cmpR op_lt (pv 2) pe_int (nomark _)) (pss_one (ps_ret (pe_call G_law_text.ok (hr.mono (by omega)) (by rfl) G_law_text.mg G_law_text.kp G_law_text.b .nil pass0 (pa_cons (pv 0) (pa_cons pe_int (pa_cons (pv 1) pa_nil)))))) pss_nil)
    (pss_cons (ps_if (pt_cmpR op_eq (pv 2) pe_int (nomark _)) (pss_one (ps_ret (pe_call G_law_even_text.ok (hr.mono (by omega)) (by rfl) G_law_even_text.mg G_law_even_text.kp G_law_even_text.b .nil pass0 (pa_cons (pv 0) (pa_cons pe_int (pa_cons (pv 1) pa_nil)))))) pss_nil)
    (pss_cons (ps_set (i := 3) sc_law_plain_text.nd rfl (Or.inl rfl) pe_str)
    (pss_cons (ps_for PassesOwn.never rfl (pi_range1 (by rfl) T.range (pa_cons (pe_op op_add pe_int (pe_call G_law_take.ok (hr.mono (by omega)) (by rfl) G_law_take.mg G_law_take.kp G_law_take.b .nil pass0 (pa_cons (pv 0) (pa_cons pe_int pa_nil)))) pa_nil)) (pg_name (i := 4) sc_law_plain_text.nd rfl (Or.inl rfl)) (pss_one (ps_set (i := 3) sc_law_plain_text.nd rfl (Or.inl rfl) (pe_op op_add_str (pe_op op_add_str (pv 3) (pe_op op_mul_str pe_str (pe_call G_law_take.ok (hr.mono (by omega)) (by rfl) G_law_take.mg G_law_take.kp G_law_take.b .nil pass0 (pa_cons (pv 0) (pa_cons pe_int pa_nil))))) (pe_ix (ix_listK (K := K) rfl) (pe_lst (pa_cons pe_str (pa_cons pe_str (pa_cons pe_str (pa_cons pe_str (pa_cons pe_str pa_nil)))))) (pe_call G_law_take.ok (hr.mono (by omega)) (by rfl) G_law_take.mg G_law_take.kp G_law_take.b .nil pass0 (pa_cons (pv 0) (pa_cons pe_int pa_nil))) (fun _ _ => rfl))))))
    (pss_cons (ps_set (i := 3) sc_law_plain_text.nd rfl (Or.inl rfl) (pe_slice sl_str (pv 3) po_none (po_some (pv 1))))
    (pss_one (ps_ret (pe_ifExp (PW.pt (pw_and (pt_cmpR op_eq (pv 2) pe_int (nomark _)) (pw_and1 (pt_cmpR op_le (pe_op op_mul pe_int (pe_callB call_len_str (by rfl) T.len PySem.boot_len (pa_cons (pv 3) pa_nil))) (pv 1) (nomark _))))) (pe_op op_add_str (pv 3) (pe_revS (pv 3))) (pv 3)))))))))), fun R ds σ Q hp hb A k => ?_⟩
  obtain ⟨b, M, rfl, M1, M2⟩ := hp
  have inB : b ∈ bagsOf true [.raw (.ref b), .int M] := by simp [bagsOf]
  refine s_asg A (F := false) (P := Drw 6) (ev_take (n := 6) (i := 0) rfl inB ev_int (by decide) (wide (by decide))) fun d σ H ⟨v, e, v0, v6⟩ A => ?_
  subst e
  dsimp only
  refine s_if A (et_testD (ev_op2 (ev_var (i := 2) rfl) (ev_int (i := 3)) o_lt)) (fun H hc A => ?_) (fun H hc A => ?_)
  · dsimp only
    exact s_ret A List.mem_cons_self (F := false) (P := postPp [.raw (.ref b), .int M]) (Ev.impF (ev_textB (r := 1) (N := M) (i := 0) rfl inB (by decide) (by decide) (ev_int (i := 1)) (ev_var (i := 1) rfl) (by omega) (by omega)) fun d ⟨s, e, st⟩ => ⟨b, M, s, rfl, e, st⟩) hb k rfl
  dsimp only [tNext]
  refine s_if A (et_testD (ev_op2 (ev_var (i := 2) rfl) (ev_int (i := 3)) o_eqI)) (fun H hc A => ?_) (fun H hc A => ?_)
  · dsimp only
    refine s_ret A List.mem_cons_self (F := false) (P := postPp [.raw (.ref b), .int M]) (ev_callD (ea_consD (ev_var (i := 0) rfl) (ea_consD (ev_int (i := 1)) (ea_consD (ev_var (i := 1) rfl) ea_nil))) ⟨b, 1, M, rfl, .inl rfl, M1, M2⟩ (bag1 inB) fun d h => ?_) hb k rfl
    obtain ⟨b', n', M', s, e, e2, lt, _, l1, _⟩ := h
    cases e
    exact ⟨b, M, s, rfl, e2, List.length_pos_iff.mpr lt.ne, l1 rfl, lt.sg⟩
  dsimp only [tNext]
  refine s_asgD A (ev_str (s := [])) fun σ H A => ?_
  have A : At K R (bagsOf true [.raw (.ref b), .int M]) _ (Lpp b M v (.dat (.str [])) .any) [] σ H := A
  dsimp only
  refine s_for A (PI := fun ds => ∃ n1 : Int, (1 ≤ n1 ∧ n1 ≤ 5) ∧ ds = rngD 0 n1.toNat) (ei_imp (ei_rngR (PA := fun d => ∃ n1 : Int, d = .int n1 ∧ 1 ≤ n1 ∧ n1 ≤ 5) (ev_op (PB := Drw 5) (ev_int (i := 1)) (ev_take (n := 5) (i := 0) rfl inB ev_int (by decide) (wide (by decide))) fun x y e ⟨u, e2, u0, u5⟩ => by subst e; subst e2; exact Op2.to o_add ⟨1 + u, rfl, by omega, by omega⟩) (fun d ⟨n1, e, h0, h1⟩ => ⟨n1, e, by omega, by omega⟩)) (fun ds ⟨n1, ⟨n2, e, h⟩, e2⟩ => ⟨n1, by cases e; exact h, e2⟩)) (fun _ i ss' os' => (∃ s x, ss' = Lpp b M v (.dat (.str s)) x ∧ s.length ≤ 7 * i ∧ (1 ≤ i → s ≠ []) ∧ ∀ c ∈ s, c ∈ sgs 1) ∧ os' = []) (fun _ _ => ⟨⟨[], _, rfl, Nat.le_refl _, fun h => by omega, fun c hc => by cases hc⟩, rfl⟩) (fun _ _ _ _ h => by rw [h.2]) (fun ds z1 i x ss' os' σ H e hx hj A => ?_) (fun ds ss' os' σ H e hj A => ?_)
  · obtain ⟨⟨s, y, rfl, sl, ne, sg⟩, rfl⟩ := hj
    obtain ⟨n1, ⟨h1, h5⟩, e⟩ := e
    have hi : i < 5 := by
      have := (List.getElem?_eq_some_iff.mp hx).1
      rw [e, rngD_len] at this
      omega
    have A : At K R (bagsOf true [.raw (.ref b), .int M]) _ (Lpp b M v (.dat (.str s)) (.dat x)) [] σ H := A
    refine s_asg A (F := false) (P := fun d => ∃ t, d = .str (s ++ t) ∧ t ≠ [] ∧ t.length ≤ 7 ∧ ∀ c ∈ t, c ∈ sgs 1) (ev_op (PA := fun d => ∃ u, d = .str (s ++ List.replicate u 48) ∧ u ≤ 4) (PB := fun d => ∃ t, d = .str t ∧ t ≠ [] ∧ t.length ≤ 3 ∧ ∀ c ∈ t, c ∈ sgs 1) (ev_op (PB := fun d => ∃ u, d = .str (List.replicate u 48) ∧ u ≤ 4) (ev_var (i := 3) rfl) (ev_op (PB := Drw 5) (ev_str (s := [48])) (ev_take (n := 5) (i := 0) rfl inB ev_int (by decide) (wide (by decide))) fun x y e ⟨u, e2, u0, u5⟩ => ?_) fun x y e ⟨u, e2, u4⟩ => ?_) (ev_op (PB := Drw 5) (Ev.f (ev_lstD (ea_consD (ev_str (s := [48, 49, 50])) (ea_consD (ev_str (s := [48, 50, 49])) (ea_consD (ev_str (s := [49, 50])) (ea_consD (ev_str (s := [49])) (ea_consD (ev_str (s := [50])) ea_nil))))) (by show (5 : Nat) ≤ 1000; decide))) (ev_take (n := 5) (i := 0) rfl inB ev_int (by decide) (wide (by decide))) fun x y e h => ?_) fun x y ⟨u, e, u4⟩ ⟨t, e2, tn, tl, ts⟩ => ?_) fun d σ H ⟨t, e, tn, tl, ts⟩ A => ?_
    · subst e; subst e2
      refine Op2.to (o_mulS u0 (by omega) (by simp; omega)) ⟨u.toNat, ?_, by omega⟩
      rw [List.flatten_replicate_singleton]
    · subst e; subst e2
      exact Op2.to (o_addS (by simp; omega)) ⟨u, rfl, u4⟩
    · subst e
      refine o_ixDraw h rfl fun x hx => ?_
      simp only [List.mem_cons, List.not_mem_nil, or_false] at hx
      rcases hx with rfl | rfl | rfl | rfl | rfl
      · exact ⟨_, rfl, by decide, by decide, by decide⟩
      · exact ⟨_, rfl, by decide, by decide, by decide⟩
      · exact ⟨_, rfl, by decide, by decide, by decide⟩
      · exact ⟨_, rfl, by decide, by decide, by decide⟩
      · exact ⟨_, rfl, by decide, by decide, by decide⟩
    · subst e; subst e2
      refine Op2.to (o_addS (by simp; omega)) ⟨List.replicate u 48 ++ t, by rw [List.append_assoc], by simp [tn], by simp; omega, fun c hc => ?_⟩
      rcases List.mem_append.mp hc with hc | hc
      · rw [(List.mem_replicate.mp hc).2]; decide
      · exact ts c hc
    subst e
    refine ⟨_, _, ⟨⟨s ++ t, _, rfl, by simp; omega, fun _ => by simp [tn], fun c hc => (List.mem_append.mp hc).elim (sg c) (ts c)⟩, rfl⟩, A⟩
  obtain ⟨⟨s, y, rfl, sl, ne, sg⟩, rfl⟩ := hj
  obtain ⟨n1, ⟨h1, h5⟩, e⟩ := e
  have hl : ds.length = n1.toNat := by rw [e, rngD_len]
  have ne := ne (by omega)
  have pos := List.length_pos_iff.mpr ne
  dsimp only
  refine s_asgD A (d := .str (cutL s none (some M))) (ev_slS (ev_var (i := 3) rfl) eo_none (eo_someD (ev_var (i := 1) rfl)) (by omega)) fun σ H A => ?_
  have cs : ∀ c ∈ cutL s none (some M), c ∈ sgs 1 := fun c hc => sg c (cut_sub c hc)
  have cl : (cutL s none (some M)).length ≤ s.length := cut_le
  have st : Stand 1 M (cutL s none (some M)) := by
    rcases Int.lt_or_le (s.length : Int) M with q | q
    · have e1 : cutL s none (some M) = s := by
        unfold cutL
        have q1 : HT.sIx s.length s.length (some M) = s.length := by
          unfold HT.sIx
          simp only
          rw [if_neg (by omega)]
          omega
        rw [q1]
        simp [HT.sIx]
      rw [e1]
      exact ⟨pos, by omega, sg⟩
    · rw [cutL_to _ (by omega) (by omega)]
      exact ⟨by rw [List.length_take]; omega, by rw [List.length_take]; omega, fun c hc => sg c (List.mem_of_mem_take hc)⟩
  generalize cutL s none (some M) = t at *
  have A : At K R (bagsOf true [.raw (.ref b), .int M]) _ (Lpp b M v (.dat (.str t)) y) [] σ H := A
  dsimp only
  refine s_ret A List.mem_cons_self (F := false) (P := postPp [.raw (.ref b), .int M]) (ev_if (T := fun x => x = (decide (v = 4) && decide ((2 : Int) * (t.length : Nat) ≤ M))) (et_and (et_testD (ev_op2 (ev_var (i := 2) rfl) (ev_int (i := 4)) o_eqI)) fun _ => et_testD (ev_op2 (ev_op2 (ev_int (i := 2)) (ev_cb1 (ev_var (i := 3) rfl) (c_lenS (by omega))) (o_mul (.inl ⟨by omega, by omega⟩))) (ev_var (i := 1) rfl) o_le)) (fun h => ?_) (fun h => ?_)) hb k rfl
  · have h : (decide (v = 4) && decide ((2 : Int) * (t.length : Nat) ≤ M)) = true := h.symm
    rw [Bool.and_eq_true, decide_eq_true_iff, decide_eq_true_iff] at h
    exact Ev.impF (ev_op2 (ev_var (i := 3) rfl) (ev_revS (ev_var (i := 3) rfl) (by omega)) (o_addS (by simp; omega))) fun d e => ⟨b, M, _, rfl, e, by simp; have := st.ne; omega, by simp; omega, fun c hc => (List.mem_append.mp hc).elim (st.sg c) fun z => st.sg c (List.mem_reverse.mp z)⟩
  · exact Ev.impF (ev_var (i := 3) rfl) fun d e => ⟨b, M, t, rfl, e, st⟩
/-- a rule and a stand -/
theorem ev_pp {E B : List Addr} {ss : List Sl} {m : Bool} {o0 : Os} {X : XK} {te : TE} {b : Addr} {i : Nat} {PM : D → Prop} {N : Int} (hi : ss[i]? = some (Sl.dat (.raw (.ref b)))) (hb : b ∈ B) (h : Ev K E B m ss o0 false te PM) (hm : ∀ d, PM d → ∃ M : Int, d = .int M ∧ 1 ≤ M ∧ M ≤ N) (hN : N ≤ 100) :
    Ev K E B m ss o0 false (tCall (SpX K true prePp false postPp) [] X (tCons (tVar i) (tCons te tNil))) (fun d => ∃ s, d = .str s ∧ Stand 1 N s) :=
  ev_call (ea_cons (ev_var hi) (ea_cons h ea_nil)) (by
    rintro ds ⟨x, r, rfl, rfl, y, r2, rfl, hy, rfl⟩
    obtain ⟨M, rfl, h0, h1⟩ := hm y hy
    refine ⟨⟨b, M, rfl, h0, by omega⟩, bag1 hb, ?_⟩
    rintro d ⟨b', M', s, e, e2, st⟩
    cases e
    exact ⟨s, e2, st.ne, by have := st.le; omega, st.sg⟩)
end
end Lw
namespace Lw
open PySem L2 Da
variable [Tbs]
section
variable {P : Program} {w : World} {K : PySem.W.Frag} {mg : Str → Option Value} {base : Heap} {C : Addr}
theorem ok_law_after {f f1 : Addr} {fd fd1 : FuncData} (F : Fun K "_law_after" "_law_after" s_law_after f fd) (T : Tb mg)
    (G_law_beat : Gd P w K mg base 1 "_law_beat" f1 fd1 ["_law_made", "_law_text_here"] (SpX K false preBeat false (postBeat rngS))) :
    FnOk P w K mg base CX0 2 f fd ["_law_made", "_law_text_here", "_law_many"] (SpX K false preAf false (postAf fun s k => .str (run7 s k))) := by
  refine okD F sc_law_after (fun ds ⟨_, _, e, _⟩ => by rw [e] <;> rfl) (fun cdv A outer s0 H E hr => ?_)
  refine ⟨_, (pss_cons (ps_for PassesOwn.never rfl (pi_range1 (by rfl) T.range (pa_cons (pv 2) pa_nil)) (pg_name (i := 3) sc_law_after.nd rfl (Or.inl rfl)) (pss_one (ps_set (i := 1) sc_law_after.nd rfl (Or.inl rfl) (pe_call G_law_beat.ok (hr.mono (by omega)) (by rfl) G_law_beat.mg G_law_beat.kp G_law_beat.b .nil pass0 (pa_cons (pv 0) (pa_cons (pv 1) pa_nil))))))
    (pss_one (ps_ret (pv 1)))), fun R ds σ Q hp hb A k => ?_⟩
  obtain ⟨s, j, rfl, st, hj⟩ := hp
  have few := st.few
  refine s_for A (ei_rng1 (n := (j : Int)) (ea_consD (ev_var (i := 2) rfl) ea_nil) (by omega)) (fun _ i ss' os' => (∃ x, ss' = [.dat (.tup [.str T7, .int 1]), .dat (.str (run7 s i)), .dat (.int (j : Nat)), x]) ∧ os' = []) (fun _ _ => ⟨⟨_, rfl⟩, rfl⟩) (fun _ _ _ _ h => by rw [h.2]) (fun ds z i x ss' os' σ H e hx hj A => ?_) (fun ds ss' os' σ H e hj A => ?_)
  · obtain ⟨⟨y, rfl⟩, rfl⟩ := hj
    have len := run7_len s i
    refine s_asgD A (d := .str (run7 s (i + 1))) (ev_beat (f := rngS) (tbl := T7) (n := 1) (s := run7 s i) (ea_consD (ev_var (i := 0) rfl) (ea_consD (ev_var (i := 1) rfl) ea_nil)) T7_ok (run7_mem st.sg i) (by omega)) fun σ H A => ?_
    exact ⟨_, _, ⟨⟨_, rfl⟩, rfl⟩, A⟩
  obtain ⟨⟨y, rfl⟩, rfl⟩ := hj
  have hl : ds.length = j := by rw [e, rngD_len]; omega
  refine s_ret A List.mem_cons_self (F := false) (P := postAf (fun s k => .str (run7 s k)) [.tup [.str T7, .int 1], .str s, .int (j : Nat)]) (Ev.impF (ev_var (i := 1) rfl) fun d e => ⟨s, j, rfl, ?_⟩) hb k rfl
  rw [e, hl]
end
section
variable {P : Program} {w : World} {K : PySem.W.Frag} {mg : Str → Option Value} {base : Heap}
theorem ok_law_turned {f : Addr} {fd : FuncData} (F : Fun K "_law_turned" "_law_turned" s_law_turned f fd) (T : Tb mg) : FnOk P w K mg base CX0 1 f fd ["_law_text_here", "_law_places"] (SpX K false preTurn false postTurn) := by
  refine okD F sc_law_turned (fun ds ⟨s, p, e, _⟩ => by rw [e] <;> rfl) (fun cdv A outer s0 H E hr => ?_)
  refine ⟨_, (pss_one (ps_ret (pe_join pe_str (pe_lc (own := [("_law_k", 2)]) (g := gName 2) rfl sc_law_turned.nd (pi_range1 (by rfl) T.range (pa_cons (pe_callB call_len_str (by rfl) T.len PySem.boot_len (pa_cons (pv 0) pa_nil)) pa_nil)) (blkOk_by (own := [("_law_k", 2)]) (N := N_law_turned) (sc := defScope s_law_turned) (by decide +kernel)) (fun _ _ _ _ _ => pg_name (i := 2) sc_law_turned.nd rfl (Or.inl rfl)) (fun _ _ _ _ _ => pts_nil) (fun _ _ _ _ _ => (pe_ix ix_str (pv 0) (pe_op op_mod (pe_callTy call_int1 (by rfl) T.int (by decide +kernel) (pa_cons (pe_op op_sub (pv 2) (pv 1)) pa_nil)) (pe_callB call_len_str (by rfl) T.len PySem.boot_len (pa_cons (pv 0) pa_nil))) (fun _ _ => rfl))))))), fun R ds σ Q hp hb A k => ?_⟩
  obtain ⟨s, p, rfl, hne, hz⟩ := hp
  have hl : 0 < s.length := List.length_pos_iff.mpr hne
  refine s_ret A List.mem_cons_self (P := postTurn [.str s, .int p]) (ev_join (ev_str (s := [])) (ev_lcD (m := false) (F := false) (fun d => D.str [s.getD ((d.i - p) % s.length).toNat 0]) (ei_rng1 (n := (s.length : Int)) (ea_consD (ev_cb1 (ev_var (i := 0) rfl) (c_lenS (by omega))) ea_nil) (by omega)) (by decide) (by rw [rngD_len]; omega) (fun x hx => ?_)) (join_signs (fun i => s.getD ((i - p) % s.length).toNat 0) 0 _ (by omega) ⟨s, p, rfl, ?_⟩)) hb k rfl
  · obtain ⟨i, hi, rfl⟩ := rngD_mem hx
    exact ev_op2 (ev_var (i := 0) rfl) (ev_op2 (ev_cb1 (ev_op2 (ev_var (i := 2) rfl) (ev_var (i := 1) rfl) o_sub) c_intI) (ev_cb1 (ev_var (i := 0) rfl) (c_lenS (by omega))) (o_mod (by omega))) (o_ixS (by omega) (atI_mod hne _))
  · unfold trn
    simp
end
end Lw
namespace Lw
open PySem L2 Da
variable [Tbs]
/-! stands that become one -/
def sameB (s u : List Nat) : Bool := decide (run7 s (lateT s) = run7 u (lateT s))
def dueB (s u : List Nat) : Bool := decide (run7 s ((if u.length > s.length then u.length else s.length) + 9) = run7 u ((if u.length > s.length then u.length else s.length) + 9))
theorem run7_up {s u : List Nat} {t : Nat} (h : run7 s t = run7 u t) : ∀ k, run7 s (t + k) = run7 u (t + k)
  | 0 => h
  | k + 1 => by
    rw [show t + (k + 1) = t + k + 1 by omega, run7_s, run7_s, run7_up h k]
theorem same_iff {s u : List Nat} (a : St7 s) (b : St7 u) : sameB s u = true ↔ ∃ t, run7 s t = run7 u t := by
  refine ⟨fun h => ⟨_, of_decide_eq_true h⟩, fun ⟨t, h⟩ => decide_eq_true ?_⟩
  have len : s.length = u.length := by rw [← run7_len s t, h, run7_len]
  have lat : lateT s = lateT u := by unfold lateT; rw [len]
  have num : num7 s = num7 u := by rw [← num7_keep a.sg t, h, num7_keep b.sg]
  obtain ⟨p, d⟩ := side_ex a.sg a.ne
  obtain ⟨r, e⟩ := side_ex b.sg b.ne
  have pr : p = r := by rw [d.place a.sg a.ne, e.place b.sg b.ne, num]
  subst pr
  have q := run7_up h (lateT s)
  have f1 := d.far a.sg a.ne t
  have f2 := e.far b.sg b.ne t
  rw [← lat] at f2
  rw [show lateT s + t = t + lateT s by omega] at f1 f2
  rw [f1, f2] at q
  have ne : ∀ {v : List Nat}, v ≠ [] → ∀ t, run7 v t ≠ [] := fun {v} hv t z => hv (List.length_eq_zero_iff.mp (by rw [← run7_len v t, z] <;> rfl))
  have w := congrArg (fun x => trn x (-(p * t))) q
  try dsimp only at w
  rw [trn_trn (ne a.ne _), trn_trn (ne b.ne _), Int.add_right_neg, trn_zero (ne a.ne _), trn_zero (ne b.ne _)] at w
  exact w
theorem due_is {s u : List Nat} (a : St7 s) (b : St7 u) : dueB s u = sameB s u := by
  rw [Bool.eq_iff_iff, same_iff a b]
  refine ⟨fun h => ⟨_, of_decide_eq_true h⟩, fun h => decide_eq_true ?_⟩
  have e : run7 s (lateT s) = run7 u (lateT s) := of_decide_eq_true ((same_iff a b).mpr h)
  have le : lateT s ≤ (if u.length > s.length then u.length else s.length) + 9 := by unfold lateT; split <;> omega
  have := run7_up e ((if u.length > s.length then u.length else s.length) + 9 - lateT s)
  rwa [show lateT s + ((if u.length > s.length then u.length else s.length) + 9 - lateT s) = (if u.length > s.length then u.length else s.length) + 9 by omega] at this
theorem same_trans {s u v : List Nat} (a : St7 s) (b : St7 u) (c : St7 v) (h1 : sameB s u = true) (h2 : sameB u v = true) : sameB s v = true := by
  obtain ⟨t, h1⟩ := (same_iff a b).mp h1
  obtain ⟨r, h2⟩ := (same_iff b c).mp h2
  refine (same_iff a c).mpr ⟨t + r, ?_⟩
  rw [run7_up h1 r, show t + r = r + t by omega, run7_up h2 t]
theorem same_self (s : List Nat) : sameB s s = true := decide_eq_true rfl
section
variable {P : Program} {w : World} {K : PySem.W.Frag} {mg : Str → Option Value} {base : Heap} {C : Addr}
theorem c_max2 {K : PySem.W.Frag} {B : List Addr} {i j : Int} : OpA K B (fun xs H Q => ∃ i j, xs = [.int i, .int j] ∧ Q (.int (if j > i then j else i)) H) [.int i, .int j] false (fun x => x = .int (if j > i then j else i)) := fun R H vs _ r Q q => by
  cases r with
  | cons r1 r =>
    cases r with
    | cons r2 r =>
      cases r; cases r1; cases r2
      exact ⟨_, _, rfl, q _ _ H .refl (.int _) (fun z => absurd z (by simp)) rfl⟩
def pre2S (ds : List D) : Prop := ∃ s u : List Nat, ds = [.str s, .str u] ∧ St7 s ∧ St7 u
def post2S (f : List Nat → List Nat → D) (ds : List D) (d : D) : Prop := ∃ s u : List Nat, ds = [.str s, .str u] ∧ d = f s u
theorem ev_2s {E B : List Addr} {ss : List Sl} {m F : Bool} {o0 : Os} {X : XK} {t : TA} {s u : List Nat} {f : List Nat → List Nat → D} (ht : EaD K E B m ss o0 t [.str s, .str u]) (a : St7 s) (b : St7 u) :
    Ev K E B m ss o0 F (tCall (SpX K false pre2S F (post2S f)) [] X t) (fun d => d = f s u) :=
  ev_callD ht ⟨s, u, rfl, a, b⟩ (by intro _ h; cases h) (by
    rintro d ⟨s', u', e, e2⟩
    simp only [List.cons.injEq, D.str.injEq, and_true] at e
    rw [e2, ← e.1, ← e.2])
theorem ok_same_end {f f1 f2 : Addr} {fd fd1 fd2 : FuncData} (F : Fun K "same_end" "same_end" s_same_end f fd) (T : Tb mg)
    (G_beats_until_turns : Gd P w K mg base 1 "beats_until_turns" f1 fd1 ["text"] (SpX K false preS7 false (postS7 fun s => .int (lateT s : Nat))))
    (G_late_stand : Gd P w K mg base 2 "late_stand" f2 fd2 ["text", "many"] (SpX K false preLs7 false postLs7)) :
    FnOk P w K mg base CX0 3 f fd ["one", "other"] (SpX K false pre2S false (post2S fun s u => .bl (sameB s u))) := by
  refine okD F sc_same_end (fun ds ⟨_, _, e, _⟩ => by rw [e] <;> rfl) (fun cdv A outer s0 H E hr => ?_)
  refine ⟨_, (pss_cons (ps_set (i := 2) sc_same_end.nd rfl (Or.inl rfl) (pe_call G_beats_until_turns.ok (hr.mono (by omega)) (by rfl) G_beats_until_turns.mg G_beats_until_turns.kp G_beats_until_turns.b .nil pass0 (pa_cons (pv 0) pa_nil)))
    (pss_one (ps_ret (pe_cmpR op_eq (pe_call G_late_stand.ok (hr.mono (by omega)) (by rfl) G_late_stand.mg G_late_stand.kp G_late_stand.b .nil pass0 (pa_cons (pv 0) (pa_cons (pv 2) pa_nil))) (pe_call G_late_stand.ok (hr.mono (by omega)) (by rfl) G_late_stand.mg G_late_stand.kp G_late_stand.b .nil pass0 (pa_cons (pv 1) (pa_cons (pv 2) pa_nil))) (nomark _))))), fun R ds σ Q hp hb A k => ?_⟩
  obtain ⟨s, u, rfl, a, b⟩ := hp
  have few := a.few
  have late3 : lateT s ≤ 200 := by unfold lateT; omega
  refine s_asgD A (d := .int (lateT s : Nat)) (ev_s7 (f := fun s => .int (lateT s : Nat)) (ea_consD (ev_var (i := 0) rfl) ea_nil) a) fun σ H A => ?_
  dsimp only
  exact s_ret A List.mem_cons_self (F := false) (P := post2S (fun s u => .bl (sameB s u)) [.str s, .str u]) (Ev.impF (ev_op2 (ev_ls (ea_consD (ev_var (i := 0) rfl) (ea_consD (ev_var (i := 2) rfl) ea_nil)) a (by omega)) (ev_ls (ea_consD (ev_var (i := 1) rfl) (ea_consD (ev_var (i := 2) rfl) ea_nil)) b (by omega)) o_eqS) fun d e => ⟨s, u, rfl, e⟩) hb k rfl
theorem ok_law_due {f f1 : Addr} {fd fd1 : FuncData} (F : Fun K "_law_due" "_law_due" s_law_due f fd) (T : Tb mg)
    (G_law_after : Gd P w K mg base 2 "_law_after" f1 fd1 ["_law_made", "_law_text_here", "_law_many"] (SpX K false preAf false (postAf fun s k => .str (run7 s k)))) :
    FnOk P w K mg base CX0 3 f fd ["_law_one", "_law_other_here"] (SpX K false pre2S false (post2S fun s u => .bl (dueB s u))) := by
  refine okD F sc_law_due (fun ds ⟨_, _, e, _⟩ => by rw [e] <;> rfl) (fun cdv A outer s0 H E hr => ?_)
  refine ⟨_, (pss_cons (ps_set (i := 2) sc_law_due.nd rfl (Or.inl rfl) (pe_op op_add (pe_callB (call_max2 rfl) (by rfl) T.max (by decide +kernel) (pa_cons (pe_callB call_len_str (by rfl) T.len PySem.boot_len (pa_cons (pv 0) pa_nil)) (pa_cons (pe_callB call_len_str (by rfl) T.len PySem.boot_len (pa_cons (pv 1) pa_nil)) pa_nil))) pe_int))
    (pss_one (ps_ret (pe_cmpR op_eq (pe_call G_law_after.ok (hr.mono (by omega)) (by rfl) G_law_after.mg G_law_after.kp G_law_after.b .nil pass0 (pa_cons (pe_tup (pa_cons pe_str (pa_cons pe_int pa_nil))) (pa_cons (pv 0) (pa_cons (pv 2) pa_nil)))) (pe_call G_law_after.ok (hr.mono (by omega)) (by rfl) G_law_after.mg G_law_after.kp G_law_after.b .nil pass0 (pa_cons (pe_tup (pa_cons pe_str (pa_cons pe_int pa_nil))) (pa_cons (pv 1) (pa_cons (pv 2) pa_nil)))) (nomark _))))), fun R ds σ Q hp hb A k => ?_⟩
  obtain ⟨s, u, rfl, a, b⟩ := hp
  have few := a.few
  have few2 := b.few
  refine s_asgD A (d := .int (((if u.length > s.length then u.length else s.length) + 9 : Nat) : Int)) (Ev.impF (ev_op2 (ev_cb (P := fun d => d = .int (if (u.length : Int) > s.length then (u.length : Int) else s.length)) (ea_consD (ev_cb1 (ev_var (i := 0) rfl) (c_lenS (by omega))) (ea_consD (ev_cb1 (ev_var (i := 1) rfl) (c_lenS (by omega))) ea_nil)) fun ds e => by subst e; exact c_max2) (ev_int (i := 9)) o_add) fun d e => by rw [e]; congr 1; split <;> split <;> omega) fun σ H A => ?_
  dsimp only
  have le : (if u.length > s.length then u.length else s.length) + 9 ≤ 500 := by split <;> omega
  exact s_ret A List.mem_cons_self (F := false) (P := post2S (fun s u => .bl (dueB s u)) [.str s, .str u]) (Ev.impF (ev_op2 (ev_af (f := fun s k => .str (run7 s k)) (ea_consD ev_made7 (ea_consD (ev_var (i := 0) rfl) (ea_consD (ev_var (i := 2) rfl) ea_nil))) a le) (ev_af (f := fun s k => .str (run7 s k)) (ea_consD ev_made7 (ea_consD (ev_var (i := 1) rfl) (ea_consD (ev_var (i := 2) rfl) ea_nil))) b le) o_eqS) fun d e => ⟨s, u, rfl, e⟩) hb k rfl
end
end Lw
namespace Lw
open PySem L2 Da
variable [Tbs]
section
variable {P : Program} {w : World} {K : PySem.W.Frag} {mg : Str → Option Value} {base : Heap} {C : Addr}
structure T40 (s : List Nat) : Prop extends St7 s where
  le : s.length ≤ 40
theorem Stand.t40 {N : Int} {s : List Nat} (h : Stand 1 N s) (hN : N ≤ 40) : T40 s := ⟨⟨h.sg, fun z => (by have q := h.ne; rw [z] at q; exact absurd q (by decide)), (by have := h.le; omega)⟩, (by have := h.le; omega)⟩
theorem z_sg : (48 : Nat) ∈ sgs 1 := by decide
def prePk (ds : List D) : Prop := ∃ (b : Addr) (ss : List (List Nat)), ds = [.raw (.ref b), .lst (ss.map D.str)] ∧ ss ≠ [] ∧ ss.length ≤ 1000
def postPk (ds : List D) (d : D) : Prop := ∃ (b : Addr) (ss : List (List Nat)) (x : List Nat), ds = [.raw (.ref b), .lst (ss.map D.str)] ∧ x ∈ ss ∧ d = .str x
theorem ok_law_pick {f f1 : Addr} {fd fd1 : FuncData} (F : Fun K "_law_pick" "_law_pick" s_law_pick f fd) (T : Tb mg)
    (G_law_take : Gd P w K mg base 1 "_law_take" f1 fd1 ["_law_bag_here", "_law_many"] (SpX K true preTake false postTake)) :
    FnOk P w K mg base CX0 2 f fd ["_law_bag_here", "_law_things"] (SpX K true prePk false postPk) := by
  refine okD F sc_law_pick (fun ds ⟨_, _, e, _⟩ => by rw [e] <;> rfl) (fun cdv A outer s0 HB E hr => ?_)
  refine ⟨_, (pss_one (ps_ret (pe_ix (ix_listK (K := K) rfl) (pv 1) (pe_call G_law_take.ok (hr.mono (by omega)) (by rfl) G_law_take.mg G_law_take.kp G_law_take.b .nil pass0 (pa_cons (pv 0) (pa_cons (pe_callB (call_lenK (K := K) rfl) (by rfl) T.len PySem.boot_len (pa_cons (pv 1) pa_nil)) pa_nil))) (fun _ _ => rfl)))), fun R ds σ Q hp hb A k => ?_⟩
  obtain ⟨b, ss, rfl, ne, few⟩ := hp
  have inB : b ∈ bagsOf true [.raw (.ref b), .lst (ss.map D.str)] := by simp [bagsOf]
  have pos := List.length_pos_iff.mpr ne
  refine s_ret A List.mem_cons_self (F := false) (P := postPk [.raw (.ref b), .lst (ss.map D.str)]) (ev_op (PA := fun d => d = .lst (ss.map D.str)) (ev_var (i := 1) rfl) (ev_take (n := (ss.length : Int)) (i := 0) rfl inB (Ev.impF (ev_cb1 (ev_var (i := 1) rfl) c_len) fun d e => by rw [e, List.length_map]) (by omega) (wide (by omega))) fun x y e ⟨v, e2, v0, v1⟩ => ?_) hb k rfl
  subst e; subst e2
  have hv : v.toNat < ss.length := by omega
  have ix : atI (ss.map D.str) v = some (.str ss[v.toNat]) := by
    have := atI_nat (show (ss.map D.str)[v.toNat]? = some (.str ss[v.toNat]) by rw [List.getElem?_map, List.getElem?_eq_getElem hv] <;> rfl)
    rwa [Int.toNat_of_nonneg v0] at this
  exact Op2.to (o_ixL ix) ⟨b, ss, _, rfl, List.getElem_mem hv, rfl⟩
def preOt (ds : List D) : Prop := ∃ (b : Addr) (s : List Nat), ds = [.raw (.ref b), .str s] ∧ T40 s
def postOt (_ : List D) (d : D) : Prop := ∃ t, d = .str t ∧ T40 t
theorem trn_sg {s : List Nat} (h : ∀ c ∈ s, c ∈ sgs 1) (ne : s ≠ []) (p : Int) : ∀ c ∈ trn s p, c ∈ sgs 1 := fun c hc => by
  unfold trn at hc
  obtain ⟨i, hi, rfl⟩ := List.mem_map.mp hc
  have hn := List.length_pos_iff.mpr ne
  refine h _ (getD_mem ?_)
  have h0 : 0 ≤ ((i : Int) - p) % s.length := Int.emod_nonneg _ (by omega)
  have h1 : ((i : Int) - p) % s.length < s.length := Int.emod_lt_of_pos _ (by omega)
  omega
theorem ok_law_other {f f1 f2 f3 f4 : Addr} {fd fd1 fd2 fd3 fd4 : FuncData} (F : Fun K "_law_other" "_law_other" s_law_other f fd) (T : Tb mg)
    (G_law_take : Gd P w K mg base 1 "_law_take" f1 fd1 ["_law_bag_here", "_law_many"] (SpX K true preTake false postTake))
    (G_law_after : Gd P w K mg base 2 "_law_after" f2 fd2 ["_law_made", "_law_text_here", "_law_many"] (SpX K false preAf false (postAf fun s k => .str (run7 s k))))
    (G_law_turned : Gd P w K mg base 1 "_law_turned" f3 fd3 ["_law_text_here", "_law_places"] (SpX K false preTurn false postTurn))
    (G_law_plain_text : Gd P w K mg base 4 "_law_plain_text" f4 fd4 ["_law_bag_here", "_law_most"] (SpX K true prePp false postPp)) :
    FnOk P w K mg base CX0 5 f fd ["_law_bag_here", "_law_text_here"] (SpX K true preOt false postOt) := by
  refine okD F sc_law_other (fun ds ⟨_, _, e, _⟩ => by rw [e] <;> rfl) (fun cdv A outer s0 HB E hr => ?_)
  refine ⟨_, (pss_cons (ps_pair (i := 2) (j := 3) rfl sc_law_other.nd rfl rfl (by decide) (Or.inl rfl) (Or.inl rfl) (fun _ => rfl) (pa_cons (pe_call G_law_take.ok (hr.mono (by omega)) (by rfl) G_law_take.mg G_law_take.kp G_law_take.b .nil pass0 (pa_cons (pv 0) (pa_cons pe_int pa_nil))) (pa_cons (pe_call G_law_take.ok (hr.mono (by omega)) (by rfl) G_law_take.mg G_law_take.kp G_law_take.b .nil pass0 (pa_cons (pv 0) (pa_cons (pe_callB call_len_str (by rfl) T.len PySem.boot_len (pa_cons (pv 1) pa_nil)) pa_nil))) pa_nil)) rfl)
    (pss_cons (ps_if (pt_cmpR op_eq (pv 2) pe_int (nomark _)) (pss_one (ps_ret (pe_call G_law_after.ok (hr.mono (by omega)) (by rfl) G_law_after.mg G_law_after.kp G_law_after.b .nil pass0 (pa_cons (pe_tup (pa_cons pe_str (pa_cons pe_int pa_nil))) (pa_cons (pv 1) (pa_cons (pe_op op_add pe_int (pe_call G_law_take.ok (hr.mono (by omega)) (by rfl) G_law_take.mg G_law_take.kp G_law_take.b .nil pass0 (pa_cons (pv 0) (pa_cons pe_int pa_nil)))) pa_nil)))))) pss_nil)
    (pss_cons (ps_if (pt_cmpR op_eq (pv 2) pe_int (nomark _)) (pss_one (ps_ret (pe_call G_law_turned.ok (hr.mono (by omega)) (by rfl) G_law_turned.mg G_law_turned.kp G_law_turned.b .nil pass0 (pa_cons (pv 1) (pa_cons (pe_call G_law_take.ok (hr.mono (by omega)) (by rfl) G_law_take.mg G_law_take.kp G_law_take.b .nil pass0 (pa_cons (pv 0) (pa_cons (pe_callB call_len_str (by rfl) T.len PySem.boot_len (pa_cons (pv 1) pa_nil)) pa_nil))) pa_nil))))) pss_nil)
    (pss_cons (ps_if (pt_cmpR op_eq (pv 2) pe_int (nomark _)) (pss_one (ps_ret (pe_revS (pv 1)))) pss_nil)
    (pss_cons (ps_if (pt_cmpR op_eq (pv 2) pe_int (nomark _)) (pss_one (ps_ret (pe_call G_law_plain_text.ok (hr.mono (by omega)) (by rfl) G_law_plain_text.mg G_law_plain_text.kp G_law_plain_text.b .nil pass0 (pa_cons (pv 0) (pa_cons pe_int pa_nil))))) pss_nil)
    (pss_cons (ps_if (pt_cmpR op_eq (pv 2) pe_int (nomark _)) (pss_one (ps_ret (pe_slice sl_str (pe_op op_add_str (pv 1) (pe_op op_mul_str pe_str (pe_op op_add pe_int (pe_call G_law_take.ok (hr.mono (by omega)) (by rfl) G_law_take.mg G_law_take.kp G_law_take.b .nil pass0 (pa_cons (pv 0) (pa_cons pe_int pa_nil)))))) po_none (po_some pe_int)))) pss_nil)
    (pss_one (ps_ret (pe_op op_add_str (pe_op op_add_str (pe_slice sl_str (pv 1) po_none (po_some (pv 3))) (pe_ix ix_str pe_str (pe_call G_law_take.ok (hr.mono (by omega)) (by rfl) G_law_take.mg G_law_take.kp G_law_take.b .nil pass0 (pa_cons (pv 0) (pa_cons pe_int pa_nil))) (fun _ _ => rfl))) (pe_slice sl_str (pv 1) (po_some (pe_op op_add (pv 3) pe_int)) po_none)))))))))), fun R ds σ Q hp hb A k => ?_⟩
  obtain ⟨b, s, rfl, t4⟩ := hp
  have st := t4.toSt7
  have le := t4.le
  have pos := List.length_pos_iff.mpr st.ne
  have inB : b ∈ bagsOf true [.raw (.ref b), .str s] := by simp [bagsOf]
  refine s_pair A (P := fun x y => Drw 7 x ∧ Drw (s.length : Int) y) (EvA.imp (ea_cons (ev_take (n := 7) (i := 0) rfl inB ev_int (by decide) (wide (by decide))) (ea_cons (ev_take (n := (s.length : Int)) (i := 0) rfl inB (ev_cb1 (ev_var (i := 1) rfl) (c_lenS (by omega))) (by omega) (wide (by omega))) ea_nil)) fun ds h => ?_) fun x y σ H ⟨⟨v, e1, v0, v1⟩, a, e2, a0, a1⟩ A => ?_
  · obtain ⟨b1, p1, rfl, h1, b2, p2, rfl, h2, rfl⟩ := h
    exact ⟨_, _, rfl, h1, h2⟩
  subst e1; subst e2
  try dsimp only
  refine s_if A (et_testD (ev_op2 (ev_var (i := 2) rfl) (ev_int (i := 0)) o_eqI)) (fun H hc A => ?_) (fun H hc A => ?_)
  · try dsimp only
    refine s_ret A List.mem_cons_self (F := false) (P := postOt []) (ev_call (ea_cons (PA := fun d => d = .tup [.str T7, .int 1]) ev_made7 (ea_cons (PA := fun d => d = .str s) (ev_var (i := 1) rfl) (ea_cons (PA := fun d => ∃ q : Nat, d = .int (q : Nat) ∧ q ≤ 5) (ev_op (PA := fun d => d = .int 1) (PB := Drw 4) (ev_int (i := 1)) (ev_take (n := 4) (i := 0) rfl inB ev_int (by decide) (wide (by decide))) fun x y e ⟨v, e2, v0, v1⟩ => by
      subst e; subst e2
      exact Op2.to o_add ⟨(1 + v).toNat, by congr 1; omega, by omega⟩) ea_nil))) fun ds h => ?_) hb k rfl
    obtain ⟨_, _, rfl, rfl, _, _, rfl, rfl, _, _, rfl, ⟨q, rfl, hq⟩, rfl⟩ := h
    refine ⟨⟨s, q, rfl, st, by omega⟩, (by intro _ h; cases h), ?_⟩
    rintro d ⟨s', q', e, e2⟩
    simp only [List.cons.injEq, D.str.injEq, D.int.injEq, and_true, true_and] at e
    obtain ⟨e1, e3⟩ := e
    have len := run7_len s q'
    refine ⟨run7 s q', by rw [e2, ← e1], ⟨run7_mem st.sg q', fun z => st.ne (List.length_eq_zero_iff.mp (by rw [← len, z] <;> rfl)), by omega⟩, by omega⟩
  dsimp only [tNext]
  refine s_if A (et_testD (ev_op2 (ev_var (i := 2) rfl) (ev_int (i := 1)) o_eqI)) (fun H hc A => ?_) (fun H hc A => ?_)
  · try dsimp only
    refine s_ret A List.mem_cons_self (F := false) (P := postOt []) (ev_call (ea_cons (PA := fun d => d = .str s) (ev_var (i := 1) rfl) (ea_cons (PA := Drw (s.length : Int)) (ev_take (n := (s.length : Int)) (i := 0) rfl inB (ev_cb1 (ev_var (i := 1) rfl) (c_lenS (by omega))) (by omega) (wide (by omega))) ea_nil)) fun ds h => ?_) hb k rfl
    obtain ⟨_, _, rfl, rfl, _, _, rfl, ⟨q, rfl, _⟩, rfl⟩ := h
    refine ⟨⟨s, q, rfl, st.ne, by omega⟩, (by intro _ h; cases h), ?_⟩
    rintro d ⟨s', q', e, e2⟩
    simp only [List.cons.injEq, D.str.injEq, D.int.injEq, and_true] at e
    obtain ⟨e1, e3⟩ := e
    have len := trn_len s q'
    exact ⟨trn s q', by rw [e2, ← e1], ⟨trn_sg st.sg st.ne q', fun z => st.ne (List.length_eq_zero_iff.mp (by rw [← len, z] <;> rfl)), by omega⟩, by omega⟩
  dsimp only [tNext]
  refine s_if A (et_testD (ev_op2 (ev_var (i := 2) rfl) (ev_int (i := 2)) o_eqI)) (fun H hc A => ?_) (fun H hc A => ?_)
  · try dsimp only
    exact s_ret A List.mem_cons_self (F := false) (P := postOt []) (Ev.impF (ev_revS (ev_var (i := 1) rfl) (by omega)) fun d e => ⟨s.reverse, e, ⟨fun c hc => st.sg c (List.mem_reverse.mp hc), fun z => st.ne (List.reverse_eq_nil_iff.mp z), by rw [List.length_reverse]; exact st.few⟩, by rw [List.length_reverse]; exact le⟩) hb k rfl
  dsimp only [tNext]
  refine s_if A (et_testD (ev_op2 (ev_var (i := 2) rfl) (ev_int (i := 3)) o_eqI)) (fun H hc A => ?_) (fun H hc A => ?_)
  · try dsimp only
    exact s_ret A List.mem_cons_self (F := false) (P := postOt []) (Ev.impF (ev_pp (N := 16) (i := 0) rfl inB (PM := fun d => d = .int 16) (ev_int (i := 16)) (fun d h => ⟨_, h, by decide, by decide⟩) (by decide)) fun d ⟨t, e, sd⟩ => ⟨t, e, sd.t40 (by decide)⟩) hb k rfl
  dsimp only [tNext]
  refine s_if A (et_testD (ev_op2 (ev_var (i := 2) rfl) (ev_int (i := 4)) o_eqI)) (fun H hc A => ?_) (fun H hc A => ?_)
  · try dsimp only
    refine s_ret A List.mem_cons_self (F := false) (P := postOt []) (Ev.impF (ev_slSR (PS := fun t => (∃ z, t = s ++ List.replicate z 48)) (PL := fun o => o = none) (PH := fun o => o = some 40) (ev_op (PA := fun d => d = .str s) (PB := fun d => ∃ z : Nat, z ≤ 5 ∧ d = .str (List.replicate z 48)) (ev_var (i := 1) rfl) (ev_op (PA := fun d => d = .str [48]) (PB := fun d => ∃ z : Nat, z ≤ 5 ∧ d = .int (z : Nat)) (ev_str (s := [48])) (ev_op (PA := fun d => d = .int 1) (PB := Drw 2) (ev_int (i := 1)) (ev_take (n := 2) (i := 0) rfl inB ev_int (by decide) (wide (by decide))) fun x y e ⟨v, e2, v0, v1⟩ => by
      subst e; subst e2
      exact Op2.to o_add ⟨(1 + v).toNat, by omega, by congr 1; omega⟩) fun x y e ⟨z, hz, e2⟩ => by
      subst e; subst e2
      exact Op2.to (o_mulS (by omega) (by omega) (by simp; omega)) ⟨z, hz, by rw [List.flatten_replicate_singleton, Int.toNat_natCast]⟩) fun x y e ⟨z, hz, e2⟩ => by
      subst e; subst e2
      exact Op2.to (o_addS (by simp; omega)) ⟨_, rfl, by simp; omega, z, rfl⟩) eo_none (eo_someD (ev_int (i := 40)))) fun d h => ?_) hb k rfl
    obtain ⟨t, lo, hi, ⟨z, rfl⟩, rfl, rfl, e⟩ := h
    have cut : ∀ c ∈ cutL (s ++ List.replicate z 48) none (some (40 : Int)), c ∈ sgs 1 := fun c hc => by
      rcases List.mem_append.mp (cut_sub c hc) with h | h
      · exact st.sg c h
      · rw [(List.mem_replicate.mp h).2]; exact z_sg
    have lens : (cutL (s ++ List.replicate z 48) none (some (40 : Int))).length = min 40 (s.length + z) := by
      by_cases q : s.length + z < 40
      · have : cutL (s ++ List.replicate z 48) none (some (40 : Int)) = s ++ List.replicate z 48 := by
          unfold cutL
          have q1 : HT.sIx (s ++ List.replicate z 48).length (s ++ List.replicate z 48).length (some (40 : Int)) = (s ++ List.replicate z 48).length := by
            unfold HT.sIx
            simp only
            rw [if_neg (by omega)]
            simp
            omega
          rw [q1]
          show List.take (s ++ List.replicate z 48).length (s ++ List.replicate z 48) = _
          rw [List.take_length]
        rw [this]
        simp
        omega
      · rw [cutL_to _ (by omega) (by simp; omega)]
        simp
    exact ⟨_, e, ⟨cut, fun y => by rw [y] at lens; simp at lens; omega, by omega⟩, by omega⟩
  dsimp only [tNext]
  have a2 : (a.toNat : Int) = a := Int.toNat_of_nonneg a0
  refine s_ret A List.mem_cons_self (F := false) (P := postOt []) (ev_op (PA := fun d => ∃ c, c ∈ sgs 1 ∧ d = .str (s.take a.toNat ++ [c])) (PB := fun d => d = .str (s.drop (a.toNat + 1))) (ev_op (PA := fun d => d = .str (s.take a.toNat)) (PB := fun d => ∃ c, c ∈ sgs 1 ∧ d = .str [c]) (Ev.impF (ev_slS (ev_var (i := 1) rfl) eo_none (eo_someD (ev_var (i := 3) rfl)) (by omega)) fun d e => by rw [e, cutL_to _ a0 (by omega)]) (ev_op (PA := fun d => d = .str [48, 49, 50]) (PB := Drw 3) (ev_str (s := [48, 49, 50])) (ev_take (n := 3) (i := 0) rfl inB ev_int (by decide) (wide (by decide))) fun x y e ⟨v, e2, v0, v1⟩ => ?_) fun x y e ⟨c, hc, e2⟩ => ?_) (Ev.impF (ev_slS (ev_var (i := 1) rfl) (eo_someD (ev_op2 (ev_var (i := 3) rfl) (ev_int (i := 1)) o_add)) eo_none (by omega)) fun d e => by rw [e, cutL_from _ (by omega) (by omega), show (a + 1).toNat = a.toNat + 1 by omega]) fun x y ⟨c, hc, e⟩ e2 => ?_) hb k rfl
  · subst e; subst e2
    have : v = 0 ∨ v = 1 ∨ v = 2 := by omega
    rcases this with rfl | rfl | rfl
    · exact Op2.to (o_ixS (s := [48, 49, 50]) (c := 48) (by decide) rfl) ⟨48, by decide, rfl⟩
    · exact Op2.to (o_ixS (s := [48, 49, 50]) (c := 49) (by decide) rfl) ⟨49, by decide, rfl⟩
    · exact Op2.to (o_ixS (s := [48, 49, 50]) (c := 50) (by decide) rfl) ⟨50, by decide, rfl⟩
  · subst e; subst e2
    exact Op2.to (o_addS (by simp; omega)) ⟨c, hc, rfl⟩
  · subst e; subst e2
    refine Op2.to (o_addS (by simp; omega)) ⟨_, rfl, ⟨fun x hx => ?_, by simp, by simp; omega⟩, by simp; omega⟩
    rcases List.mem_append.mp hx with h | h
    · rcases List.mem_append.mp h with h | h
      · exact st.sg x (List.mem_of_mem_take h)
      · simp only [List.mem_cons, List.not_mem_nil, or_false] at h
        rw [h]; exact hc
    · exact st.sg x (List.mem_of_mem_drop h)
end
end Lw
namespace Lw
open PySem L2 Da
variable [Tbs]
section
variable {P : Program} {w : World} {K : PySem.W.Frag} {mg : Str → Option Value} {base : Heap} {C : Addr}
def matD (g : List Nat → List Nat → Bool) (ss : List (List Nat)) : List D := ss.map fun a => .lst (ss.map fun b => .bl (g a b))
def stF (f : List Nat → D) : D → D
  | .str a => f a
  | d => d
theorem map_stF (f : List Nat → D) (ss : List (List Nat)) : (ss.map D.str).map (stF f) = ss.map f := by
  rw [List.map_map] <;> rfl
theorem matD_pl {g : List Nat → List Nat → Bool} {ss : List (List Nat)} (h : ss.length ≤ 3) : Pl 1000 2 (.lst (matD g ss)) := .lst (v := 200) (fun d hd => by
  obtain ⟨a, _, rfl⟩ := List.mem_map.mp hd
  exact .lst (v := 10) (fun d hd => by
    obtain ⟨b, _, rfl⟩ := List.mem_map.mp hd
    exact .bl _) (by rw [List.length_map]; omega)) (by unfold matD; rw [List.length_map]; omega)
def Y68 (b : Addr) (x2 x3 x4 x5 x6 x7 x8 x9 : Sl) : List Sl := [.any, .dat (.raw (.ref b)), x2, x3, x4, x5, x6, x7, x8, x9]
theorem ok_law {f f1 f3 f4 f5 f6 f7 f8 : Addr} {fd fd1 fd3 fd4 fd5 fd6 fd7 fd8 : FuncData} (F : Fun K "law" "law" s_law f fd) (T : Tb mg)
    (G_law_bag : Gd P w K mg base 1 "_law_bag" f1 fd1 ["_law_script"] (SpBag K))
    (G_law_plain_text : Gd P w K mg base 4 "_law_plain_text" f3 fd3 ["_law_bag_here", "_law_most"] (SpX K true prePp false postPp))
    (G_law_other : Gd P w K mg base 5 "_law_other" f4 fd4 ["_law_bag_here", "_law_text_here"] (SpX K true preOt false postOt))
    (G_law_pick : Gd P w K mg base 2 "_law_pick" f5 fd5 ["_law_bag_here", "_law_things"] (SpX K true prePk false postPk))
    (G_same_end : Gd P w K mg base 3 "same_end" f6 fd6 ["one", "other"] (SpX K false pre2S false (post2S fun s u => .bl (sameB s u))))
    (G_law_due : Gd P w K mg base 3 "_law_due" f7 fd7 ["_law_one", "_law_other_here"] (SpX K false pre2S false (post2S fun s u => .bl (dueB s u))))
    (G_law_alike : GdG P w K mg base 2 "_law_alike" f8 fd8 ["_law_found", "_law_due_here"] (SpX K false preAlike false postAlike)) :
    FnG P w K mg base CX0 6 f fd ["_law_script"] (SpLaw K) := by
  refine okG F sc_law (fun vs H Q E h => ?_) (fun cdv A outer s0 H vs Q E hG hr h => ?_)
  · obtain ⟨a, ns, rfl, _⟩ := h
    rfl
  obtain ⟨a, ns, rfl, hS, hlen, ht, k⟩ := h
  refine ⟨_, (pss_cons (ps_set (i := 1) sc_law.nd rfl (Or.inl rfl) (pe_call G_law_bag.ok (hr.mono (by omega)) (by rfl) G_law_bag.mg G_law_bag.kp G_law_bag.b .nil pass0 (pa_cons (pv 0) pa_nil)))
    (pss_cons (ps_for PassesOwn.never rfl (pi_range1 (by rfl) T.range (pa_cons pe_int pa_nil)) (pg_name (i := 2) sc_law.nd rfl (Or.inl rfl)) (pss_cons (ps_set (i := 3) sc_law.nd rfl (Or.inl rfl) (pe_call G_law_plain_text.ok (hr.mono (by omega)) (by rfl) G_law_plain_text.mg G_law_plain_text.kp G_law_plain_text.b .nil pass0 (pa_cons (pv 1) (pa_cons (pe_ix (ix_listK (K := K) rfl) (pe_lst (pa_cons pe_int (pa_cons pe_int pa_nil))) (pe_callTy call_int1 (by rfl) T.int (by decide +kernel) (pa_cons (pe_cmpR op_eq (pv 2) pe_int (nomark _)) pa_nil)) (fun _ _ => rfl)) pa_nil))))
    (pss_cons (ps_set (i := 4) sc_law.nd rfl (Or.inr rfl) (pe_lst (pa_cons (pv 3) (pa_cons (pe_call G_law_other.ok (hr.mono (by omega)) (by rfl) G_law_other.mg G_law_other.kp G_law_other.b .nil pass0 (pa_cons (pv 1) (pa_cons (pv 3) pa_nil))) pa_nil))))
    (pss_cons (ps_expr (pe_bm PySem.F.plainAttrs_list PySem.F.slot_list_append PySem.F.type_list_append mt_append (pv 4) (pa_cons (pe_call G_law_other.ok (hr.mono (by omega)) (by rfl) G_law_other.mg G_law_other.kp G_law_other.b .nil pass0 (pa_cons (pv 1) (pa_cons (pe_call G_law_pick.ok (hr.mono (by omega)) (by rfl) G_law_pick.mg G_law_pick.kp G_law_pick.b .nil pass0 (pa_cons (pv 1) (pa_cons (pv 4) pa_nil))) pa_nil))) pa_nil)))
    (pss_cons (ps_setLc (i := 5) (own := [("_law_one", 7)]) (g := gName 7) rfl sc_law.nd rfl rfl (sw_true rfl rfl rfl (by decide +kernel)) (pi_list (pv 4)) (blkOk_by (own := [("_law_one", 7)]) (N := N_law) (sc := defScope s_law) (by decide +kernel)) (fun _ _ _ _ _ => pg_name (i := 7) sc_law.nd rfl (Or.inr rfl)) (fun _ _ _ _ _ => pts_nil) (fun _ _ _ _ _ => (pe_lc (own := [("_law_other_here", 6)]) (g := gName 6) rfl sc_law.nd (pi_listK (K := K) rfl (pv 4)) (blkOk_by (own := [("_law_other_here", 6)]) (N := N_law) (sc := { kind := .function, names := [(".0", .local), ("_law_one", .cell), ("_law_some", .cell)], isGenerator := false, isCoroutine := false }) (by decide +kernel)) (fun _ _ _ _ _ => pg_name (i := 6) sc_law.nd rfl (Or.inl rfl)) (fun _ _ _ _ _ => pts_nil) (fun _ _ _ _ _ => (pe_call G_same_end.ok (hr.mono (by omega)) (by rfl) G_same_end.mg G_same_end.kp G_same_end.b .nil pass0 (pa_cons (pv 7) (pa_cons (pv 6) pa_nil)))))))
    (pss_cons (ps_setLc (i := 8) (own := [("_law_one", 7)]) (g := gName 7) rfl sc_law.nd rfl rfl (sw_true rfl rfl rfl (by decide +kernel)) (pi_list (pv 4)) (blkOk_by (own := [("_law_one", 7)]) (N := N_law) (sc := defScope s_law) (by decide +kernel)) (fun _ _ _ _ _ => pg_name (i := 7) sc_law.nd rfl (Or.inr rfl)) (fun _ _ _ _ _ => pts_nil) (fun _ _ _ _ _ => (pe_lc (own := [("_law_other_here", 6)]) (g := gName 6) rfl sc_law.nd (pi_listK (K := K) rfl (pv 4)) (blkOk_by (own := [("_law_other_here", 6)]) (N := N_law) (sc := { kind := .function, names := [(".0", .local), ("_law_one", .cell), ("_law_some", .cell)], isGenerator := false, isCoroutine := false }) (by decide +kernel)) (fun _ _ _ _ _ => pg_name (i := 6) sc_law.nd rfl (Or.inl rfl)) (fun _ _ _ _ _ => pts_nil) (fun _ _ _ _ _ => (pe_call G_law_due.ok (hr.mono (by omega)) (by rfl) G_law_due.mg G_law_due.kp G_law_due.b .nil pass0 (pa_cons (pv 7) (pa_cons (pv 6) pa_nil)))))))
    (pss_cons (ps_if (pt_not (pt_val (pe_callG G_law_alike.ok hG (hr.mono (by omega)) (by rfl) G_law_alike.mg G_law_alike.kp G_law_alike.b .nil pass0 (pa_cons (pv 5) (pa_cons (pv 8) pa_nil))))) (pss_one (ps_ret pe_bl)) pss_nil)
    (pss_one (ps_for PassesOwn.never rfl (pi_range1 (by rfl) T.range (pa_cons pe_int pa_nil)) (pg_name (i := 9) sc_law.nd rfl (Or.inl rfl)) (pss_one (ps_if (PW.pt (pw_or (pt_cmpR op_notBl (pe_ix (ix_listK (K := K) rfl) (pe_ix (ix_listK (K := K) rfl) (pv 5) (pv 9) (fun _ _ => rfl)) (pv 9) (fun _ _ => rfl)) pe_bl (nomark _)) (pw_or1 (PW.pt (pw_and (pt_val (pe_ix (ix_listK (K := K) rfl) (pe_ix (ix_listK (K := K) rfl) (pv 5) (pv 9) (fun _ _ => rfl)) pe_int (fun _ _ => rfl))) (pw_and (pt_val (pe_ix (ix_listK (K := K) rfl) (pe_ix (ix_listK (K := K) rfl) (pv 5) pe_int (fun _ _ => rfl)) pe_int (fun _ _ => rfl))) (pw_and1 (pt_not (pt_val (pe_ix (ix_listK (K := K) rfl) (pe_ix (ix_listK (K := K) rfl) (pv 5) (pv 9) (fun _ _ => rfl)) pe_int (fun _ _ => rfl))))))))))) (pss_one (ps_ret pe_bl)) pss_nil)))))))))))
    (pss_one (ps_ret pe_bl)))), ?_⟩
  refine s_bag hS hlen ht (by decide) fun b l σ H A => ?_
  have inB : b ∈ [b] := List.mem_cons_self
  have A := A.wk (ss' := Y68 b .any .any .any .any .any .any .any .any) (by repeat (first | exact Wk.nil | apply Wk.same | apply Wk.any))
  try dsimp only
  refine s_for A (ei_rng1 (n := 8) (ea_consD ev_int ea_nil) (by decide)) (fun _ _ ss' os' => (∃ x2 x3 x4 x5 x6 x7 x8 x9, ss' = Y68 b x2 x3 x4 x5 x6 x7 x8 x9) ∧ os' = []) (fun _ _ => ⟨⟨_, _, _, _, _, _, _, _, rfl⟩, rfl⟩) (fun _ _ _ _ h => by rw [h.2]) (fun ds z i x ss' os' σ H e hx hj A => ?_) (fun ds ss' os' σ H e hj A => ?_)
  rotate_left
  · exact k H
  obtain ⟨⟨x2, x3, x4, x5, x6, x7, x8, x9, rfl⟩, rfl⟩ := hj
  obtain ⟨j, hj8, rfl⟩ := rngD_mem (by rw [← e]; exact List.mem_of_getElem? hx)
  have other : ∀ {E B : List Addr} {ss : List Sl} {m : Bool} {o0 : Os} {X : XK} {t : TE} {PT : D → Prop}, ss[1]? = some (Sl.dat (.raw (.ref b))) → b ∈ B → Ev K E B m ss o0 false t PT → (∀ d, PT d → ∃ s, d = .str s ∧ T40 s) → Ev K E B m ss o0 false (tCall (SpX K true preOt false postOt) [] X (tCons (tVar 1) (tCons t tNil))) (fun d => ∃ t, d = .str t ∧ T40 t) := fun hi hb h hp =>
    ev_call (ea_cons (ev_var hi) (ea_cons h ea_nil)) fun ds ⟨_, _, e1, e2, _, _, e3, h3, e4⟩ => by
      subst e1; subst e2; subst e3; subst e4
      obtain ⟨s, rfl, t4⟩ := hp _ h3
      exact ⟨⟨b, s, rfl, t4⟩, bag1 hb, fun d h => h⟩
  refine s_asg A (F := false) (P := fun d => ∃ s, d = .str s ∧ Stand 1 40 s) (ev_pp (N := 40) (i := 1) rfl inB (PM := fun d => ∃ M : Int, d = .int M ∧ 1 ≤ M ∧ M ≤ 40) (ev_op (PA := fun d => d = .lst [.int 16, .int 40]) (PB := fun d => d = .int 0 ∨ d = .int 1) (Ev.f (ev_lstD (ea_consD (ev_int (i := 16)) (ea_consD (ev_int (i := 40)) ea_nil)) (by show (2 : Nat) ≤ 1000; decide))) (Ev.impF (ev_cb1 (ev_op2 (ev_var (i := 2) rfl) (ev_int (i := 0)) o_eqI) c_intB) fun d e => by rw [e]; split; exact .inr rfl; exact .inl rfl) fun x y e1 e2 => ?_) (fun d h => h) (by decide)) fun d σ H ⟨s, e1, sd⟩ A => ?_
  · subst e1
    rcases e2 with rfl | rfl
    · exact Op2.to (o_ixL (d := .int 16) rfl) ⟨16, rfl, by decide, by decide⟩
    · exact Op2.to (o_ixL (d := .int 40) rfl) ⟨40, rfl, by decide, by decide⟩
  subst e1
  have ts := sd.t40 (by decide)
  try dsimp only
  refine s_asgO A (P := fun d => ∃ u, d = .lst [.str s, .str u] ∧ T40 u) (Ev.impF (ev_lst (ea_cons (PA := fun d => d = .str s) (ev_var (i := 3) rfl) (ea_cons (other rfl inB (PT := fun d => d = .str s) (ev_var (i := 3) rfl) (fun d h => ⟨s, h, ts⟩)) ea_nil)) fun ds h => ?_) fun d h => ?_) fun p ds σ H h A => ?_
  · obtain ⟨_, _, rfl, _, _, _, rfl, _, rfl⟩ := h
    show (2 : Nat) ≤ 1000
    decide
  · obtain ⟨ds, rfl, _, _, rfl, rfl, _, _, rfl, ⟨u, rfl, tu⟩, rfl⟩ := h
    exact ⟨u, rfl, tu⟩
  obtain ⟨u, e1, tu⟩ := h
  have e1 := D.lst.inj e1
  subst e1
  try dsimp only
  refine s_app A (i := 4) (P := fun d => ∃ v, d = .str v ∧ T40 v) rfl (by show (2 : Nat) ≤ 1000000; decide) (Ev.flat (other rfl inB (PT := fun d => ∃ s, d = .str s ∧ T40 s) (ev_call (ea_cons (ev_var (i := 1) rfl) (ea_cons (PA := fun d => d = .lst ([s, u].map D.str)) (ev_own (i := 4) rfl List.mem_cons_self) ea_nil)) fun ds h => ?_) (fun d h => h)) fun d ⟨v, e, _⟩ => by rw [e] <;> rfl) fun d σ H ⟨v, e1, tv⟩ A => ?_
  · obtain ⟨_, _, rfl, rfl, _, _, rfl, rfl, rfl⟩ := h
    refine ⟨⟨b, [s, u], rfl, by simp, by show (2 : Nat) ≤ 1000; decide⟩, bag1 inB, ?_⟩
    rintro d ⟨b', ss', x, e, hm, e2⟩
    simp only [List.cons.injEq, D.lst.injEq, and_true] at e
    have e3 : ss' = [s, u] := by
      have := e.2
      have inj : ∀ (xs ys : List (List Nat)), ys.map D.str = xs.map D.str → xs = ys := fun xs => by
        induction xs with
        | nil => exact fun ys h => by cases ys with
          | nil => rfl
          | cons y ys => cases h
        | cons x xs ih => exact fun ys h => by cases ys with
          | nil => cases h
          | cons y ys =>
            simp only [List.map_cons, List.cons.injEq, D.str.injEq] at h
            rw [h.1, ih ys h.2]
      exact inj _ _ this
    subst e3
    simp only [List.mem_cons, List.not_mem_nil, or_false] at hm
    rcases hm with rfl | rfl
    · exact ⟨_, e2, ts⟩
    · exact ⟨_, e2, tu⟩
  subst e1
  have A := A.freeze (i := 4) rfl
  have all : ∀ a ∈ [s, u, v], T40 a := fun a ha => by
    simp only [List.mem_cons, List.not_mem_nil, or_false] at ha
    rcases ha with rfl | rfl | rfl
    · exact ts
    · exact tu
    · exact tv
  have A : At K _ [b] _ (Y68 b (.dat (.int (0 + (j : Int)))) (.dat (.str s)) (.dat (.lst ([s, u, v].map D.str))) x5 x6 x7 x8 x9) [] σ H := A
  try dsimp only
  refine s_asgD A (d := .lst (matD sameB [s, u, v])) (Ev.impF (ev_lcD (F := true) (stF fun a => .lst ([s, u, v].map fun b => .bl (sameB a b))) (ei_list (ev_var (i := 4) rfl)) (by decide) (by show (3 : Nat) ≤ 1000000; decide) (fun x hx => ?_)) fun d e => by rw [e, map_stF] <;> rfl) fun σ H A => ?_
  · obtain ⟨a, ha, rfl⟩ := List.mem_map.mp hx
    refine Ev.impF (ev_lcD (F := false) (stF fun b => .bl (sameB a b)) (ei_list (ev_var (i := 4) rfl)) (by decide) (by show (3 : Nat) ≤ 1000000; decide) (fun x hx => ?_)) fun d e => by rw [e, map_stF] <;> rfl
    obtain ⟨c, hc, rfl⟩ := List.mem_map.mp hx
    exact ev_2s (f := fun s u => .bl (sameB s u)) (ea_consD (ev_var (i := 7) rfl) (ea_consD (ev_var (i := 6) rfl) ea_nil)) (all a ha).toSt7 (all c hc).toSt7
  try dsimp only
  refine s_asgD A (d := .lst (matD sameB [s, u, v])) (Ev.impF (ev_lcD (F := true) (stF fun a => .lst ([s, u, v].map fun b => .bl (sameB a b))) (ei_list (ev_var (i := 4) rfl)) (by decide) (by show (3 : Nat) ≤ 1000000; decide) (fun x hx => ?_)) fun d e => by rw [e, map_stF] <;> rfl) fun σ H A => ?_
  · obtain ⟨a, ha, rfl⟩ := List.mem_map.mp hx
    refine Ev.impF (ev_lcD (F := false) (stF fun b => .bl (sameB a b)) (ei_list (ev_var (i := 4) rfl)) (by decide) (by show (3 : Nat) ≤ 1000000; decide) (fun x hx => ?_)) fun d e => by rw [e, map_stF] <;> rfl
    obtain ⟨c, hc, rfl⟩ := List.mem_map.mp hx
    exact Ev.impF (ev_2s (f := fun s u => .bl (dueB s u)) (ea_consD (ev_var (i := 7) rfl) (ea_consD (ev_var (i := 6) rfl) ea_nil)) (all a ha).toSt7 (all c hc).toSt7) fun d e => by rw [e, due_is (all a ha).toSt7 (all c hc).toSt7] <;> rfl
  try dsimp only
  refine s_if A (et_notD (b := true) (et_bD (ev_alike (d := .lst (matD sameB [s, u, v])) (w := 1000) (n := 2) (ea_consD (ev_var (i := 5) rfl) (ea_consD (ev_var (i := 8) rfl) ea_nil)) (matD_pl (by show (3 : Nat) ≤ 3; decide)) (by decide) (by decide)))) (fun H hc A => ?_) (fun H hc A => ?_)
  · cases hc
  dsimp only [tNext]
  have A : At K _ [b] _ (Y68 b (.dat (.int (0 + (j : Int)))) (.dat (.str s)) (.dat (.lst ([s, u, v].map D.str))) (.dat (.lst (matD sameB [s, u, v]))) .any .any .any .any) [] σ H := A.wk (by repeat (first | exact Wk.nil | apply Wk.same | apply Wk.any))
  refine s_for A (ei_rng1 (n := 3) (ea_consD ev_int ea_nil) (by decide)) (fun _ _ ss' os' => (∃ x9, ss' = Y68 b (.dat (.int (0 + (j : Int)))) (.dat (.str s)) (.dat (.lst ([s, u, v].map D.str))) (.dat (.lst (matD sameB [s, u, v]))) .any .any .any x9) ∧ os' = []) (fun _ _ => ⟨⟨_, rfl⟩, rfl⟩) (fun _ _ _ _ h => by rw [h.2]) (fun ds z i x ss' os' σ H e hx hj A => ?_) (fun ds ss' os' σ H e hj A => ?_)
  rotate_left
  · obtain ⟨⟨x9', rfl⟩, rfl⟩ := hj
    exact ⟨_, _, ⟨⟨_, _, _, _, _, _, _, _, rfl⟩, rfl⟩, A⟩
  obtain ⟨⟨x9', rfl⟩, rfl⟩ := hj
  obtain ⟨i, hi, rfl⟩ := rngD_mem (by rw [← e]; exact List.mem_of_getElem? hx)
  have hi : i < 3 := hi
  obtain ⟨a, ha, r0⟩ : ∃ a, [s, u, v][i]? = some a ∧ a ∈ [s, u, v] := ⟨[s, u, v][i], List.getElem?_eq_getElem hi, List.getElem_mem hi⟩
  have row : atI (matD sameB [s, u, v]) ((0 : Int) + (i : Int)) = some (.lst ([s, u, v].map fun b => .bl (sameB a b))) := by
    rw [Int.zero_add]
    refine atI_nat ?_
    unfold matD
    rw [List.getElem?_map, ha] <;> rfl
  have cell : ∀ {q : Nat} {c : List Nat}, [s, u, v][q]? = some c → atI ([s, u, v].map fun b => D.bl (sameB a b)) (q : Int) = some (.bl (sameB a c)) := fun {q c} h => by
    refine atI_nat ?_
    rw [List.getElem?_map, h] <;> rfl
  have self : atI ([s, u, v].map fun b => D.bl (sameB a b)) ((0 : Int) + (i : Int)) = some (.bl true) := by
    rw [Int.zero_add, cell ha, same_self]
  have no : (sameB a s && (sameB s u && !sameB a u)) = false := by
    cases h1 : sameB a s with
    | false => rfl
    | true =>
      cases h2 : sameB s u with
      | false => rfl
      | true =>
        rw [same_trans (all a r0).toSt7 ts.toSt7 tu.toSt7 h1 h2] <;> rfl
  refine s_if A (et_or (a := false) (b := false) (et_testD (ev_op2 (ev_op2 (ev_op2 (ev_var (i := 5) rfl) (ev_var (i := 9) rfl) (o_ixL row)) (ev_var (i := 9) rfl) (o_ixL self)) ev_bl (Op2.to o_notBl (by rfl)))) fun _ => et_imp (et_and (a := sameB a s) (b := (sameB s u && !sameB a u)) (et_bD (ev_op2 (ev_op2 (ev_var (i := 5) rfl) (ev_var (i := 9) rfl) (o_ixL row)) (ev_int (i := 0)) (o_ixL (cell (q := 0) rfl)))) fun _ => et_and (a := sameB s u) (b := !sameB a u) (et_bD (ev_op2 (ev_op2 (ev_var (i := 5) rfl) (ev_int (i := 0)) (o_ixL (d := .lst ([s, u, v].map fun b => .bl (sameB s b))) rfl)) (ev_int (i := 1)) (o_ixL (d := .bl (sameB s u)) rfl))) fun _ => et_notD (et_bD (ev_op2 (ev_op2 (ev_var (i := 5) rfl) (ev_var (i := 9) rfl) (o_ixL row)) (ev_int (i := 1)) (o_ixL (cell (q := 1) rfl))))) fun x e => by rw [e, no]) (fun H hc A => ?_) (fun H hc A => ?_)
  · cases hc
  dsimp only [tNext]
  exact ⟨_, _, ⟨⟨_, rfl⟩, rfl⟩, A⟩
end
end Lw
namespace Lw
open PySem L2 Da
/-! ### what the top has written; the law's own head -/
structure Told (K : PySem.W.Frag) (nm : Str) (st : Stmt) (f : Addr) (fd : FuncData) : Prop where
  ns : PySem.W.nsIn K mainGlobals nm = some (some (.ref f))
  fn : Fun K nm nm st f fd
/-- the tables of the defs that make lambdas, and the names of what they make -/
abbrev QS : List Str := []
abbrev tbsOf (ts : List (Addr × Addr)) : Da.Tbs := ⟨((ts.zip QS).map fun p => (p.1.2, p.2), [])⟩
theorem tbs_at {ts : List (Addr × Addr)} {H : Hp} (h : ∀ p ∈ ts, H p.2 = some (.tbl #[])) : Da.Tbl (tbsOf ts).tabs H := ⟨fun p hp => by
  obtain ⟨q, hq, rfl⟩ := List.mem_map.mp hp
  exact LamX.TabS.nil (h _ (List.of_mem_zip hq).1), fun p hp => absurd hp List.not_mem_nil⟩
theorem all_mk {P : Program} {w : World} {K : PySem.W.Frag} {h : Heap} {mg : Str → Option Value} {fa f0 f1 f2 f3 f4 f5 f6 f7 f8 f9 f10 f11 f12 f13 f14 f15 f16 f17 f18 f19 f20 f21 f22 : Addr} {e0 e1 e2 e3 e4 e5 e6 e7 e8 e9 e10 e11 e12 e13 e14 e15 e16 e17 e18 e19 e20 e21 e22 : FuncData} {RS : List PySem.DefRec} (X : K.In h) (G : h.Ns mainGlobals mg) (hfa : mg "law" = some (.ref fa))
    (t0 : Told K "turned_by" s_turned_by f0 e0)
    (t1 : Told K "first_crowds" s_first_crowds f1 e1)
    (t2 : Told K "stand_of" s_stand_of f2 e2)
    (t3 : Told K "beats_until_turns" s_beats_until_turns f3 e3)
    (t4 : Told K "number_of" s_number_of f4 e4)
    (t5 : Told K "_places_of" s_places_of f5 e5)
    (t6 : Told K "late_stand" s_late_stand f6 e6)
    (t7 : Told K "same_end" s_same_end f7 e7)
    (t8 : Told K "_law_bag" s_law_bag f8 e8)
    (t9 : Told K "_law_take" s_law_take f9 e9)
    (t10 : Told K "_law_alike" s_law_alike f10 e10)
    (t11 : Told K "_law_pick" s_law_pick f11 e11)
    (t12 : Told K "_law_text" s_law_text f12 e12)
    (t13 : Told K "_law_beat" s_law_beat f13 e13)
    (t14 : Told K "_law_after" s_law_after f14 e14)
    (t15 : Told K "_law_turned" s_law_turned f15 e15)
    (t16 : Told K "_law_step" s_law_step f16 e16)
    (t17 : Told K "_law_steps" s_law_steps f17 e17)
    (t18 : Told K "_law_even_text" s_law_even_text f18 e18)
    (t19 : Told K "_law_plain_text" s_law_plain_text f19 e19)
    (t20 : Told K "_law_due" s_law_due f20 e20)
    (t21 : Told K "_law_other" s_law_other f21 e21)
    (t22 : Told K "law" s_law f22 e22)
    (tabs : ∀ d ∈ RS, ∃ (b : Addr) (o : Obj) (fd : FuncData) (c P : Addr), mg d.name = some (.ref b) ∧ h.get? b = some o ∧ o.data = .func fd ∧ fd.code = .ref c ∧ PySem.W.CodeHd h c P ∧ h.get? P = some { cls := .none, data := .fields #[] })
    (z0 : PySem.W.nsIn K mainGlobals "abs" = some none) (z1 : PySem.W.nsIn K mainGlobals "enumerate" = some none) (z2 : PySem.W.nsIn K mainGlobals "int" = some none) (z3 : PySem.W.nsIn K mainGlobals "len" = some none) (z4 : PySem.W.nsIn K mainGlobals "max" = some none) (z5 : PySem.W.nsIn K mainGlobals "min" = some none) (z6 : PySem.W.nsIn K mainGlobals "range" = some none) (z7 : PySem.W.nsIn K mainGlobals "repr" = some none) (z8 : PySem.W.nsIn K mainGlobals "str" = some none) :
    ∃ (fd : FuncData) (ts : List (Addr × Addr)), (∀ p ∈ ts, h.get? p.2 = some { cls := .none, data := .fields #[] } ∧ K.lookup p.2 = none ∧ PySem.W.CodeHd h p.1 p.2) ∧ (∀ (s : Shared) (v : Value), BindsTo s fd ⟨[v], []⟩ [("_law_script", v)]) ∧ ∀ base : Heap, K.In base → base.Ns mainGlobals mg → (∀ p ∈ ts, LamX.TabB base mg p.1 p.2) → FnG P w K mg base CX0 6 fa fd ["_law_script"] (@SpLaw (tbsOf ts) K) := by
  letI : Da.Tbs := tbsOf []
  have e := hfa.symm.trans (PySem.W.mg_of X G t22.ns)
  cases e
  have T : Tb mg := ⟨PySem.W.mg_none_of X G z0, PySem.W.mg_none_of X G z1, PySem.W.mg_none_of X G z2, PySem.W.mg_none_of X G z3, PySem.W.mg_none_of X G z4, PySem.W.mg_none_of X G z5, PySem.W.mg_none_of X G z6, PySem.W.mg_none_of X G z7, PySem.W.mg_none_of X G z8⟩
  refine ⟨e22, [], fun p hp => ?_, ?_, fun base _ _ TBS => ?_⟩
  · exact absurd hp List.not_mem_nil
  · obtain ⟨oc, od, kV, doc, pm, an, cdv, ct, osl, rfl, lk, hcd⟩ := t22.fn.ex
    exact fun s v => .of_eq rfl
  have g0 : Gd P w K mg base 1 "turned_by" f0 e0 ["text", "places"] (SpX K false preTurn false postTurn) := ⟨ok_turned_by t0.fn T, PySem.W.mg_of X G t0.ns, t0.fn.kp, t0.fn.binds (ps := ["text", "places"]) fun _ _ _ _ _ _ us hl => match us, hl with | [_, _], _ => rfl⟩
  have g1 : Gd P w K mg base 1 "first_crowds" f1 e1 ["text", "many"] (SpX K false preFc true postFc) := ⟨ok_first_crowds t1.fn T, PySem.W.mg_of X G t1.ns, t1.fn.kp, t1.fn.binds (ps := ["text", "many"]) fun _ _ _ _ _ _ us hl => match us, hl with | [_, _], _ => rfl⟩
  have g2 : Gd P w K mg base 1 "stand_of" f2 e2 ["standing", "resting", "size"] (SpX K false preSo false postSo) := ⟨ok_stand_of t2.fn T, PySem.W.mg_of X G t2.ns, t2.fn.kp, t2.fn.binds (ps := ["standing", "resting", "size"]) fun _ _ _ _ _ _ us hl => match us, hl with | [_, _, _], _ => rfl⟩
  have g3 : Gd P w K mg base 1 "beats_until_turns" f3 e3 ["text"] (SpX K false preS7 false (postS7 fun s => .int (lateT s : Nat))) := ⟨ok_beats_until_turns t3.fn T, PySem.W.mg_of X G t3.ns, t3.fn.kp, t3.fn.binds (ps := ["text"]) fun _ _ _ _ _ _ us hl => match us, hl with | [_], _ => rfl⟩
  have g4 : Gd P w K mg base 1 "number_of" f4 e4 ["text"] (SpX K false preS7 false (postS7 fun s => .int (num7 s))) := ⟨ok_number_of t4.fn T, PySem.W.mg_of X G t4.ns, t4.fn.kp, t4.fn.binds (ps := ["text"]) fun _ _ _ _ _ _ us hl => match us, hl with | [_], _ => rfl⟩
  have g5 : Gd P w K mg base 1 "_places_of" f5 e5 ["number"] (SpX K false preInt false (postInt fun k => .int (placeI k))) := ⟨ok_places_of t5.fn T, PySem.W.mg_of X G t5.ns, t5.fn.kp, t5.fn.binds (ps := ["number"]) fun _ _ _ _ _ _ us hl => match us, hl with | [_], _ => rfl⟩
  have g6 : Gd P w K mg base 2 "late_stand" f6 e6 ["text", "many"] (SpX K false preLs7 false postLs7) := ⟨ok_late_stand t6.fn T g3 g1 g2 g5 g4 g0, PySem.W.mg_of X G t6.ns, t6.fn.kp, t6.fn.binds (ps := ["text", "many"]) fun _ _ _ _ _ _ us hl => match us, hl with | [_, _], _ => rfl⟩
  have g7 : Gd P w K mg base 3 "same_end" f7 e7 ["one", "other"] (SpX K false pre2S false (post2S fun s u => .bl (sameB s u))) := ⟨ok_same_end t7.fn T g3 g6, PySem.W.mg_of X G t7.ns, t7.fn.kp, t7.fn.binds (ps := ["one", "other"]) fun _ _ _ _ _ _ us hl => match us, hl with | [_, _], _ => rfl⟩
  have g8 : Gd P w K mg base 1 "_law_bag" f8 e8 ["_law_script"] (SpBag K) := ⟨ok_law_bag t8.fn T, PySem.W.mg_of X G t8.ns, t8.fn.kp, t8.fn.binds (ps := ["_law_script"]) fun _ _ _ _ _ _ us hl => match us, hl with | [_], _ => rfl⟩
  have g9 : Gd P w K mg base 1 "_law_take" f9 e9 ["_law_bag_here", "_law_many"] (SpX K true preTake false postTake) := ⟨ok_law_take t9.fn T, PySem.W.mg_of X G t9.ns, t9.fn.kp, t9.fn.binds (ps := ["_law_bag_here", "_law_many"]) fun _ _ _ _ _ _ us hl => match us, hl with | [_, _], _ => rfl⟩
  have g10 : GdG P w K mg base 2 "_law_alike" f10 e10 ["_law_found", "_law_due_here"] (SpX K false preAlike false postAlike) := ⟨ok_law_alike t10.fn T, PySem.W.mg_of X G t10.ns, t10.fn.kp, t10.fn.binds (ps := ["_law_found", "_law_due_here"]) fun _ _ _ _ _ _ us hl => match us, hl with | [_, _], _ => rfl⟩
  have g11 : Gd P w K mg base 2 "_law_pick" f11 e11 ["_law_bag_here", "_law_things"] (SpX K true prePk false postPk) := ⟨ok_law_pick t11.fn T g9, PySem.W.mg_of X G t11.ns, t11.fn.kp, t11.fn.binds (ps := ["_law_bag_here", "_law_things"]) fun _ _ _ _ _ _ us hl => match us, hl with | [_, _], _ => rfl⟩
  have g12 : Gd P w K mg base 2 "_law_text" f12 e12 ["_law_bag_here", "_law_rests", "_law_most"] (SpX K true preText false postText) := ⟨ok_law_text t12.fn T g9, PySem.W.mg_of X G t12.ns, t12.fn.kp, t12.fn.binds (ps := ["_law_bag_here", "_law_rests", "_law_most"]) fun _ _ _ _ _ _ us hl => match us, hl with | [_, _, _], _ => rfl⟩
  have g13 : Gd P w K mg base 1 "_law_beat" f13 e13 ["_law_made", "_law_text_here"] (SpX K false preBeat false (postBeat rngS)) := ⟨ok_law_beat t13.fn T, PySem.W.mg_of X G t13.ns, t13.fn.kp, t13.fn.binds (ps := ["_law_made", "_law_text_here"]) fun _ _ _ _ _ _ us hl => match us, hl with | [_, _], _ => rfl⟩
  have g14 : Gd P w K mg base 2 "_law_after" f14 e14 ["_law_made", "_law_text_here", "_law_many"] (SpX K false preAf false (postAf fun s k => .str (run7 s k))) := ⟨ok_law_after t14.fn T g13, PySem.W.mg_of X G t14.ns, t14.fn.kp, t14.fn.binds (ps := ["_law_made", "_law_text_here", "_law_many"]) fun _ _ _ _ _ _ us hl => match us, hl with | [_, _, _], _ => rfl⟩
  have g15 : Gd P w K mg base 1 "_law_turned" f15 e15 ["_law_text_here", "_law_places"] (SpX K false preTurn false postTurn) := ⟨ok_law_turned t15.fn T, PySem.W.mg_of X G t15.ns, t15.fn.kp, t15.fn.binds (ps := ["_law_text_here", "_law_places"]) fun _ _ _ _ _ _ us hl => match us, hl with | [_, _], _ => rfl⟩
  have g16 : Gd P w K mg base 1 "_law_step" f16 e16 ["_law_many", "_law_left", "_law_right"] (SpX K false preLs false postLs) := ⟨ok_law_step t16.fn T, PySem.W.mg_of X G t16.ns, t16.fn.kp, t16.fn.binds (ps := ["_law_many", "_law_left", "_law_right"]) fun _ _ _ _ _ _ us hl => match us, hl with | [_, _, _], _ => rfl⟩
  have g17 : Gd P w K mg base 2 "_law_steps" f17 e17 ["_law_rests", "_law_text_here"] (SpX K false preLt true (postLt gStps)) := ⟨ok_law_steps t17.fn T g16, PySem.W.mg_of X G t17.ns, t17.fn.kp, t17.fn.binds (ps := ["_law_rests", "_law_text_here"]) fun _ _ _ _ _ _ us hl => match us, hl with | [_, _], _ => rfl⟩
  have g18 : Gd P w K mg base 3 "_law_even_text" f18 e18 ["_law_bag_here", "_law_rests", "_law_most"] (SpX K true preEt false postEt) := ⟨ok_law_even_text t18.fn T g9 g17, PySem.W.mg_of X G t18.ns, t18.fn.kp, t18.fn.binds (ps := ["_law_bag_here", "_law_rests", "_law_most"]) fun _ _ _ _ _ _ us hl => match us, hl with | [_, _, _], _ => rfl⟩
  have g19 : Gd P w K mg base 4 "_law_plain_text" f19 e19 ["_law_bag_here", "_law_most"] (SpX K true prePp false postPp) := ⟨ok_law_plain_text t19.fn T g9 g12 g18, PySem.W.mg_of X G t19.ns, t19.fn.kp, t19.fn.binds (ps := ["_law_bag_here", "_law_most"]) fun _ _ _ _ _ _ us hl => match us, hl with | [_, _], _ => rfl⟩
  have g20 : Gd P w K mg base 3 "_law_due" f20 e20 ["_law_one", "_law_other_here"] (SpX K false pre2S false (post2S fun s u => .bl (dueB s u))) := ⟨ok_law_due t20.fn T g14, PySem.W.mg_of X G t20.ns, t20.fn.kp, t20.fn.binds (ps := ["_law_one", "_law_other_here"]) fun _ _ _ _ _ _ us hl => match us, hl with | [_, _], _ => rfl⟩
  have g21 : Gd P w K mg base 5 "_law_other" f21 e21 ["_law_bag_here", "_law_text_here"] (SpX K true preOt false postOt) := ⟨ok_law_other t21.fn T g9 g14 g15 g19, PySem.W.mg_of X G t21.ns, t21.fn.kp, t21.fn.binds (ps := ["_law_bag_here", "_law_text_here"]) fun _ _ _ _ _ _ us hl => match us, hl with | [_, _], _ => rfl⟩
  exact ok_law t22.fn T g8 g19 g21 g11 g7 g20 g10
end Lw
open PySem PySem.W PyProof.Rows
set_option maxHeartbeats 0 in
theorem PySem.Challenge.cw_standwaves_k68_same_ends_holds : PySem.Challenge.rw_standwaves_k68_same_ends.Holds := by
  w_on; o_law; k_head; (case hw => w_witness2)
  k_fill
  refine Da.walkT (l := PySem.Challenge.rw_standwaves_k68_same_ends) (n := 63) (k := 6) (x := "_law_script") (sp := fun ts K => @Lw.SpLaw (Lw.tbsOf ts) K) rfl (by decide) rfl ⟨rfl, by decide, by decide⟩ (fun w h Y => PySem.W.kIn_of Y) ?F (fun _ _ _ a ns hl hT hS => ⟨a, ns, rfl, hS, hl, Lw.tbs_at hT, fun _ => rfl⟩)
  case F =>
    intro w mg fa h KX G hmg tabs
    refine' Lw.all_mk KX G hmg ⟨?a0, L2.fun_mk ?l0 ?c0 ?k0⟩ ⟨?a1, L2.fun_mk ?l1 ?c1 ?k1⟩ ⟨?a2, L2.fun_mk ?l2 ?c2 ?k2⟩ ⟨?a3, L2.fun_mk ?l3 ?c3 ?k3⟩ ⟨?a4, L2.fun_mk ?l4 ?c4 ?k4⟩ ⟨?a5, L2.fun_mk ?l5 ?c5 ?k5⟩ ⟨?a6, L2.fun_mk ?l6 ?c6 ?k6⟩ ⟨?a7, L2.fun_mk ?l7 ?c7 ?k7⟩ ⟨?a8, L2.fun_mk ?l8 ?c8 ?k8⟩ ⟨?a9, L2.fun_mk ?l9 ?c9 ?k9⟩ ⟨?a10, L2.fun_mk ?l10 ?c10 ?k10⟩ ⟨?a11, L2.fun_mk ?l11 ?c11 ?k11⟩ ⟨?a12, L2.fun_mk ?l12 ?c12 ?k12⟩ ⟨?a13, L2.fun_mk ?l13 ?c13 ?k13⟩ ⟨?a14, L2.fun_mk ?l14 ?c14 ?k14⟩ ⟨?a15, L2.fun_mk ?l15 ?c15 ?k15⟩ ⟨?a16, L2.fun_mk ?l16 ?c16 ?k16⟩ ⟨?a17, L2.fun_mk ?l17 ?c17 ?k17⟩ ⟨?a18, L2.fun_mk ?l18 ?c18 ?k18⟩ ⟨?a19, L2.fun_mk ?l19 ?c19 ?k19⟩ ⟨?a20, L2.fun_mk ?l20 ?c20 ?k20⟩ ⟨?a21, L2.fun_mk ?l21 ?c21 ?k21⟩ ⟨?a22, L2.fun_mk ?l22 ?c22 ?k22⟩ tabs ?z0 ?z1 ?z2 ?z3 ?z4 ?z5 ?z6 ?z7 ?z8
    (case a0 => k_is); (case l0 => k_is); (case c0 => k_is); (case k0 => k_is); (case a1 => k_is); (case l1 => k_is); (case c1 => k_is); (case k1 => k_is); (case a2 => k_is); (case l2 => k_is); (case c2 => k_is); (case k2 => k_is); (case a3 => k_is); (case l3 => k_is); (case c3 => k_is); (case k3 => k_is); (case a4 => k_is); (case l4 => k_is); (case c4 => k_is); (case k4 => k_is); (case a5 => k_is); (case l5 => k_is); (case c5 => k_is); (case k5 => k_is); (case a6 => k_is); (case l6 => k_is); (case c6 => k_is); (case k6 => k_is); (case a7 => k_is); (case l7 => k_is); (case c7 => k_is); (case k7 => k_is); (case a8 => k_is); (case l8 => k_is); (case c8 => k_is); (case k8 => k_is); (case a9 => k_is); (case l9 => k_is); (case c9 => k_is); (case k9 => k_is); (case a10 => k_is); (case l10 => k_is); (case c10 => k_is); (case k10 => k_is); (case a11 => k_is); (case l11 => k_is); (case c11 => k_is); (case k11 => k_is); (case a12 => k_is); (case l12 => k_is); (case c12 => k_is); (case k12 => k_is); (case a13 => k_is); (case l13 => k_is); (case c13 => k_is); (case k13 => k_is); (case a14 => k_is); (case l14 => k_is); (case c14 => k_is); (case k14 => k_is); (case a15 => k_is); (case l15 => k_is); (case c15 => k_is); (case k15 => k_is); (case a16 => k_is); (case l16 => k_is); (case c16 => k_is); (case k16 => k_is); (case a17 => k_is); (case l17 => k_is); (case c17 => k_is); (case k17 => k_is); (case a18 => k_is); (case l18 => k_is); (case c18 => k_is); (case k18 => k_is); (case a19 => k_is); (case l19 => k_is); (case c19 => k_is); (case k19 => k_is); (case a20 => k_is); (case l20 => k_is); (case c20 => k_is); (case k20 => k_is); (case a21 => k_is); (case l21 => k_is); (case c21 => k_is); (case k21 => k_is); (case a22 => k_is); (case l22 => k_is); (case c22 => k_is); (case k22 => k_is); (case z0 => k_is); (case z1 => k_is); (case z2 => k_is); (case z3 => k_is); (case z4 => k_is); (case z5 => k_is); (case z6 => k_is); (case z7 => k_is); (case z8 => k_is)
